/- Stores into rows of the call's own, in whatever order: blocks that keep their shape; cells that come to stand as they are to. -/
import Derived.Test.YtbjdjafkpldbnaaEv
import Derived.Test.YtbjdjafkpldbnaaRegion
namespace Mile
open Go Go.RowKit

/-- Blocks of F alone may have turned, and they keep their shape. -/
def Shp (F : Nat → Prop) (w w' : World) : Prop := Mod F w w' ∧ ∀ b, F b → ∀ cur T, w.heap[b]? = some (.cells cur T (0, 0)) → ∃ cur', w'.heap[b]? = some (.cells cur' T (0, 0)) ∧ cur'.size = cur.size
theorem Shp.refl (F : Nat → Prop) (w : World) : Shp F w w := ⟨Mod.refl _ _, fun _ _ cur _ h => ⟨cur, h, rfl⟩⟩
theorem Shp.trans {F : Nat → Prop} {a b c : World} (h : Shp F a b) (k : Shp F b c) : Shp F a c :=
  ⟨h.1.trans k.1 (fun _ _ e => e) (fun _ _ e => e), fun x hx cur T hc => by
    obtain ⟨c1, h1, s1⟩ := h.2 x hx cur T hc
    obtain ⟨c2, h2, s2⟩ := k.2 x hx c1 T h1
    exact ⟨c2, h2, s2.trans s1⟩⟩
theorem Shp.drew {F : Nat → Prop} (w : World) : Shp F w w.drew := ⟨Mod.drew _ _, fun _ _ cur _ h => ⟨cur, h, rfl⟩⟩
/-- Block b has a cell k that may be written. -/
def Room (w : World) (b : Nat) (T : TypeId) (k : Nat) : Prop := ∃ cur, w.heap[b]? = some (.cells cur T (0, 0)) ∧ k < cur.size
theorem Room.keep {F : Nat → Prop} {w w' : World} {b : Nat} {T : TypeId} {k : Nat} (h : Room w b T k) (s : Shp F w w') : Room w' b T k := by
  obtain ⟨cur, hc, hk⟩ := h
  by_cases hb : F b
  · obtain ⟨c', h', e⟩ := s.2 b hb cur T hc
    exact ⟨c', h', by omega⟩
  · exact ⟨cur, (s.1.block b (lt_of_block hc) hb).trans hc, hk⟩
theorem Room.cell {w : World} {b : Nat} {T : TypeId} {k : Nat} (h : Room w b T k) : ∃ v, w.cell? ⟨b, k, none⟩ = some v := by
  obtain ⟨cur, hc, hk⟩ := h
  exact ⟨cur[k], by rw [cell_of_row w b k cur T (0, 0) hc]; simp [hk]⟩
theorem Room.free {w : World} {b : Nat} {T : TypeId} {k : Nat} (h : Room w b T k) : w.frozen? ⟨b, k, none⟩ = false := by
  obtain ⟨cur, hc, hk⟩ := h
  exact frozen_of_row w b k cur T hc
theorem Room.lt {w : World} {b : Nat} {T : TypeId} {k : Nat} (h : Room w b T k) : b < w.heap.size := by obtain ⟨cur, hc, _⟩ := h; exact lt_of_block hc
theorem Shp.set {F : Nat → Prop} {w : World} {b : Nat} (hb : F b) (k : Nat) (u : Value) : Shp F w (w.setCell ⟨b, k, none⟩ u) := by
  refine ⟨Mod.setCell w _ u hb, fun x hx cur T hc => ?_⟩
  by_cases e : x = b
  · subst e
    exact ⟨cur.setIfInBounds k u, heap_setCell_same w x k cur T u hc, by simp⟩
  · exact ⟨cur, (heap_setCell_other w ⟨b, k, none⟩ x u (fun h => e h)).trans hc, rfl⟩
theorem Shp.mod {F : Nat → Prop} {w w' : World} (h : Shp F w w') : Mod F w w' := h.1
/-- An own row has room. -/
theorem Room.ofOwn {w : World} {base : Nat} {e : TypeId} {size n cap g : Nat} {xs : List Value} (h : w.ownsRow base e size (.slice (some ⟨g, 0, none⟩) n cap) n xs) (k : Nat) (hk : k < n * size) : Room w g e k := by
  rcases h.2 with ⟨h', _⟩ | ⟨g', cap', cur, h', _, hg, hn, _, hs, _⟩
  · simp at h'
  · simp only [Value.slice.injEq, Option.some.injEq, Addr.mk.injEq, and_true, true_and] at h'
    obtain ⟨rfl, rfl⟩ := h'
    exact ⟨cur, hg, by rw [hs]; exact Nat.lt_of_lt_of_le hk (Nat.mul_le_mul_right _ hn)⟩
theorem own_block {w : World} {base : Nat} {e : TypeId} {size n : Nat} {v : Value} {xs : List Value} (h : w.ownsRow base e size v n xs) (hn : 0 < n) : ∃ g c, v = .slice (some ⟨g, 0, none⟩) n c ∧ base ≤ g ∧ g < w.heap.size := by
  rcases h.2 with ⟨_, h0⟩ | ⟨g, cap, cur, rfl, hb, hg, _⟩
  · omega
  · exact ⟨g, cap, rfl, hb, lt_of_block hg⟩
/-- What stood ahead of block B, behind stores into blocks from B on. -/
theorem Mod.old {F : Nat → Prop} {a b c : World} (h : Mod (fun _ => False) a b) (k : Mod F b c) (hF : ∀ i, F i → a.heap.size ≤ i) : Mod (fun _ => False) a c :=
  h.trans k (fun _ _ e => e) (fun i hi e => by have := hF i e; omega)

/-- Block b comes to stand as tgt: each of its cells is as it was, or as it is to be. -/
def Tow (b : Nat) (T : TypeId) (tgt : List Value) (w w' : World) : Prop := Mod (fun k => k = b) w w' ∧ ∀ cur, w.heap[b]? = some (.cells cur T (0, 0)) → ∃ cur', w'.heap[b]? = some (.cells cur' T (0, 0)) ∧ cur'.size = cur.size ∧ ∀ i, i < cur.size → cur'[i]? = cur[i]? ∨ cur'[i]? = tgt[i]?
theorem Tow.refl (b : Nat) (T : TypeId) (tgt : List Value) (w : World) : Tow b T tgt w w := ⟨Mod.refl _ _, fun cur h => ⟨cur, h, rfl, fun _ _ => .inl rfl⟩⟩
theorem Tow.trans {b : Nat} {T : TypeId} {tgt : List Value} {x y z : World} (h : Tow b T tgt x y) (k : Tow b T tgt y z) : Tow b T tgt x z :=
  ⟨h.1.trans k.1 (fun _ _ e => e) (fun _ _ e => e), fun cur hc => by
    obtain ⟨c1, h1, s1, p1⟩ := h.2 cur hc
    obtain ⟨c2, h2, s2, p2⟩ := k.2 c1 h1
    refine ⟨c2, h2, s2.trans s1, fun i hi => ?_⟩
    rcases p2 i (by omega) with e | e
    · rw [e]; exact p1 i hi
    · exact .inr e⟩
theorem Tow.set {b : Nat} {T : TypeId} {tgt : List Value} {w : World} (k : Nat) (u : Value) (hu : tgt[k]? = some u) : Tow b T tgt w (w.setCell ⟨b, k, none⟩ u) := by
  refine ⟨Mod.setCell (F := fun k => k = b) w ⟨b, k, none⟩ u rfl, fun cur hc => ⟨cur.setIfInBounds k u, heap_setCell_same w b k cur T u hc, by simp, fun i hi => ?_⟩⟩
  by_cases e : k = i
  · subst e; exact .inr (by rw [hu]; simp [hi])
  · exact .inl (by rw [Array.getElem?_setIfInBounds_ne e])
theorem Tow.shp {b : Nat} {T : TypeId} {tgt : List Value} {w w' : World} (h : Tow b T tgt w w') {k : Nat} (r : Room w b T k) : Room w' b T k := by
  obtain ⟨cur, hc, hk⟩ := r
  obtain ⟨c', h', s, _⟩ := h.2 cur hc
  exact ⟨c', h', by omega⟩
/-- A cell that stands as it is to stays so. -/
theorem Tow.there {b : Nat} {T : TypeId} {tgt : List Value} {w w' : World} (h : Tow b T tgt w w') {k : Nat} {u : Value} (r : Room w b T k) (hu : tgt[k]? = some u) (hc : w.cell? ⟨b, k, none⟩ = some u) : w'.cell? ⟨b, k, none⟩ = some u := by
  obtain ⟨cur, hcur, hk⟩ := r
  obtain ⟨c', h', s, p⟩ := h.2 cur hcur
  rw [cell_of_row w b k cur T (0, 0) hcur] at hc
  rw [cell_of_row w' b k c' T (0, 0) h']
  rcases p k hk with e | e
  · rw [← hc]; exact e
  · rw [← hu]; exact e
/-- When all that were to turn stand, the row is as it is to be. -/
theorem Tow.done {b base : Nat} {T : TypeId} {tgt : List Value} {w w' : World} {size n cap : Nat} {xs : List Value} (h : Tow b T tgt w w') (ho : w.ownsRow base T size (.slice (some ⟨b, 0, none⟩) n cap) n xs) (hl : tgt.length = xs.length)
    (hs : ∀ k, k < n * size → xs[k]? = tgt[k]? ∨ w'.cell? ⟨b, k, none⟩ = tgt[k]?) : w'.ownsRow base T size (.slice (some ⟨b, 0, none⟩) n cap) n tgt := by
  refine ⟨by rw [hl]; exact ho.1, .inr ?_⟩
  rcases ho.2 with ⟨h', _⟩ | ⟨g', cap', cur, h', hb, hg, hn, hm, hsz, htk⟩
  · simp at h'
  · simp only [Value.slice.injEq, Option.some.injEq, Addr.mk.injEq, and_true, true_and] at h'
    obtain ⟨rfl, rfl⟩ := h'
    obtain ⟨c', hc', s, p⟩ := h.2 cur hg
    refine ⟨b, cap, c', rfl, hb, hc', hn, hm, by omega, ?_⟩
    have hle : n * size ≤ cap * size := Nat.mul_le_mul_right _ hn
    have hx : xs.length = n * size := ho.1
    refine List.ext_getElem? fun i => ?_
    rw [List.getElem?_take]
    split
    · rename_i hi
      have e1 : c'.toList[i]? = c'[i]? := by simp
      rw [e1]
      rcases p i (by omega) with e | e
      · rcases hs i hi with e2 | e2
        · rw [e, ← e2, ← htk, List.getElem?_take, if_pos hi]; simp
        · rw [← e2, cell_of_row w' b i c' T (0, 0) hc']
      · exact e
    · rename_i hi
      rw [List.getElem?_eq_none (by omega)]
theorem Tow.ofMod {b : Nat} {T : TypeId} {tgt : List Value} {w w' : World} (h : Mod (fun _ => False) w w') : Tow b T tgt w w' :=
  ⟨h.mono (fun _ _ e => e.elim), fun cur hc => ⟨cur, (h.block b (lt_of_block hc) (fun e => e)).trans hc, rfl, fun _ _ => .inl rfl⟩⟩
theorem Shp.ofMod {F : Nat → Prop} {w w' : World} (h : Mod (fun _ => False) w w') : Shp F w w' :=
  ⟨h.mono (fun _ _ e => e.elim), fun b _ cur _ hc => ⟨cur, (h.block b (lt_of_block hc) (fun e => e)).trans hc, rfl⟩⟩
/-- When all cells of a block stand as they are to, it is known whole. -/
theorem Tow.blk {b : Nat} {T : TypeId} {tgt xs : List Value} {w w' : World} (h : Tow b T tgt w w') (hb : Blk w b T xs) (hl : xs.length = tgt.length) (hc : ∀ k, k < tgt.length → w'.cell? ⟨b, k, none⟩ = tgt[k]?) : Blk w' b T tgt := by
  obtain ⟨c', h', s, _⟩ := h.2 xs.toArray hb
  have e : c' = tgt.toArray := by
    refine Array.ext_getElem? fun i => ?_
    by_cases hi : i < tgt.length
    · have := hc i hi
      rw [cell_of_row w' b i c' T (0, 0) h'] at this
      rw [this]; simp
    · have h1 : c'.size = tgt.length := by rw [s]; simpa using hl
      rw [Array.getElem?_eq_none (by omega)]; simp; omega
  unfold Blk; rw [h', e]
theorem Ev.room {w : World} {b : Nat} {T : TypeId} {k : Nat} (h : Room w b T k) : Ev (fun W => Room W b T k) w := fun _ m => h.keep (F := fun _ => False) ⟨m, fun _ e => e.elim⟩
theorem stable_true {R : World → World → Prop} : Stable R (fun _ _ => True) := fun _ _ _ _ _ => trivial
end Mile
