/- The worlds' frame for all walks of this seat: which blocks a call may have turned, blocks known whole, slices that read as a list, append onto a row of the call's own. -/
import Derived.WalkKit
import Derived.WalkSpells
import Derived.WalkLawsBesides
import Derived.Deep.RegionLaw
import Derived.Laws.CopyRow
namespace Mile
open Go Go.RowKit

/-- From w to w' blocks were added, and of the old ones those of F alone may have turned. -/
structure Mod (F : Nat → Prop) (w w' : World) : Prop where
  os : w'.os = w.os
  tape : w'.tape = w.tape
  output : w'.output = w.output
  size : w.heap.size ≤ w'.heap.size
  block : ∀ k, k < w.heap.size → ¬ F k → w'.heap[k]? = w.heap[k]?

theorem Mod.refl (F : Nat → Prop) (w : World) : Mod F w w := ⟨rfl, rfl, rfl, Nat.le_refl _, fun _ _ _ => rfl⟩

theorem Mod.trans {F G H : Nat → Prop} {a b c : World} (h : Mod F a b) (k : Mod G b c) (hF : ∀ i, i < a.heap.size → F i → H i) (hG : ∀ i, i < a.heap.size → G i → H i) : Mod H a c :=
  ⟨k.os.trans h.os, k.tape.trans h.tape, k.output.trans h.output, Nat.le_trans h.size k.size, fun i hi hn =>
    (k.block i (Nat.lt_of_lt_of_le hi h.size) (fun e => hn (hG i hi e))).trans (h.block i hi (fun e => hn (hF i hi e)))⟩

theorem Mod.mono {F G : Nat → Prop} {a b : World} (h : Mod F a b) (hF : ∀ i, i < a.heap.size → F i → G i) : Mod G a b :=
  ⟨h.os, h.tape, h.output, h.size, fun i hi hn => h.block i hi (fun e => hn (hF i hi e))⟩

theorem Mod.drew (F : Nat → Prop) (w : World) : Mod F w w.drew := ⟨rfl, rfl, rfl, Nat.le_refl _, fun _ _ _ => rfl⟩
theorem Mod.alloc (F : Nat → Prop) (w : World) (o : Obj) : Mod F w (w.alloc o) := ⟨rfl, rfl, rfl, by simp, fun k hk _ => Below.heap_alloc _ _ _ hk⟩
theorem Mod.setCell {F : Nat → Prop} (w : World) (a : Addr) (u : Value) (h : F a.block) : Mod F w (w.setCell a u) :=
  ⟨rfl, rfl, rfl, by simp, fun k _ hk => Below.heap_setCell _ _ _ _ (fun e => hk (e ▸ h))⟩

theorem Mod.thenDrew {F : Nat → Prop} {a w : World} (h : Mod F a w) : Mod F a w.drew := ⟨h.os, h.tape, h.output, h.size, h.block⟩
theorem Mod.thenAlloc {F : Nat → Prop} {a w : World} (h : Mod F a w) (o : Obj) : Mod F a (w.alloc o) := h.trans (Mod.alloc F w o) (fun _ _ e => e) (fun _ _ e => e)
theorem Mod.thenSet {F : Nat → Prop} {a w : World} (h : Mod F a w) (p : Addr) (u : Value) (hp : p.block < a.heap.size → F p.block) : Mod F a (w.setCell p u) :=
  h.trans (Mod.setCell (F := fun k => k = p.block) w p u rfl) (fun _ _ e => e) (fun i hi e => by subst e; exact hp hi)

theorem Mod.below {F : Nat → Prop} {w w' : World} (h : Mod F w w') {B : Nat} (hB : B ≤ w.heap.size) (hF : ∀ k, F k → B ≤ k) : Below B w w' :=
  ⟨h.os, h.tape, h.output, h.size, fun k hk => h.block k (by omega) (fun e => by have := hF k e; omega)⟩

theorem Mod.ofBelow {w w' : World} {B : Nat} (h : Below B w w') : Mod (fun k => B ≤ k) w w' := ⟨h.os, h.tape, h.output, h.size, fun k _ hn => h.block k (by omega)⟩
theorem Mod.ofGrown {w w' : World} {row : Option Nat} (h : w.grownBy w' row) : Mod (fun k => row = some k) w w' :=
  ⟨h.os, h.tape, h.output, h.size, fun k hk hn => h.block k hk (fun e => hn e.symm)⟩

theorem Mod.cell {F : Nat → Prop} {w w' : World} (h : Mod F w w') {p : Addr} {v : Value} (hv : w.cell? p = some v) (hp : ¬ F p.block) : w'.cell? p = some v :=
  (World.cell?_of_block (w := w) (h.block p.block (World.block_lt_of_cell? w p hv) hp)).trans hv

/-- Block b is a row of just these cells, none of them frozen. -/
def Blk (w : World) (b : Nat) (T : TypeId) (cs : List Value) : Prop := w.heap[b]? = some (.cells cs.toArray T (0, 0))

theorem Blk.lt {w : World} {b : Nat} {T : TypeId} {cs : List Value} (h : Blk w b T cs) : b < w.heap.size := lt_of_block h
theorem Blk.cell {w : World} {b : Nat} {T : TypeId} {cs : List Value} (h : Blk w b T cs) (i : Nat) {v : Value} (hi : cs[i]? = some v) : w.cell? ⟨b, i, none⟩ = some v := by
  unfold Blk at h; simp [World.cell?, h, hi]
theorem Blk.free {w : World} {b : Nat} {T : TypeId} {cs : List Value} (h : Blk w b T cs) (i : Nat) : w.frozen? ⟨b, i, none⟩ = false := by
  unfold Blk at h; simp [World.frozen?, h]
theorem Blk.keep {F : Nat → Prop} {w w' : World} {b : Nat} {T : TypeId} {cs : List Value} (h : Blk w b T cs) (hm : Mod F w w') (hb : ¬ F b) : Blk w' b T cs :=
  (hm.block b h.lt hb).trans h
theorem Blk.drew {w : World} {b : Nat} {T : TypeId} {cs : List Value} (h : Blk w b T cs) : Blk w.drew b T cs := h
theorem Blk.alloc {w : World} {b : Nat} {T : TypeId} {cs : List Value} (h : Blk w b T cs) (o : Obj) : Blk (w.alloc o) b T cs := h.keep (Mod.alloc (fun _ => False) w o) (fun e => e)
theorem Blk.new (w : World) (T : TypeId) (cs : List Value) : Blk (w.alloc (.cells cs.toArray T)) w.heap.size T cs := heap_alloc_new w _
theorem Blk.set {w : World} {b : Nat} {T : TypeId} {cs : List Value} (h : Blk w b T cs) (i : Nat) (v : Value) : Blk (w.setCell ⟨b, i, none⟩ v) b T (cs.set i v) := by
  have hlt := h.lt
  unfold Blk at h ⊢
  have h' : w.heap[b] = .cells cs.toArray T (0, 0) := by simpa [Array.getElem?_eq_getElem hlt] using h
  show (w.heap.modify b _)[b]? = _
  rw [Array.getElem?_eq_getElem (by simpa using hlt), Array.getElem_modify_self, h']
  simp
theorem Blk.setOther {w : World} {b : Nat} {T : TypeId} {cs : List Value} (h : Blk w b T cs) (a : Addr) (v : Value) (hb : b ≠ a.block) : Blk (w.setCell a v) b T cs :=
  (Below.heap_setCell _ _ _ _ hb).trans h

/-- A slice value that reads as the cells xs (size cells each of its n elements): nil, or the cells lie from its address on. -/
def Rd (w : World) (size : Nat) (v : Value) (n : Nat) (xs : List Value) : Prop :=
  xs.length = n * size ∧ ∃ a c, v = .slice a n c ∧ n ≤ c ∧ c ≤ maxLen ∧ (a = none → n = 0 ∧ c = 0) ∧ ∀ ad, a = some ad → (0 < n → ad.spot = none) ∧ ∀ j u, xs[j]? = some u → w.cell? (ad.add j) = some u

theorem Rd.nil (w : World) (size : Nat) : Rd w size (.slice none 0 0) 0 [] := ⟨by simp, none, 0, rfl, Nat.le_refl _, Nat.zero_le _, fun _ => ⟨rfl, rfl⟩, fun _ h => by cases h⟩

theorem Rd.keep {F : Nat → Prop} {w w' : World} {size : Nat} {v : Value} {n : Nat} {xs : List Value} (h : Rd w size v n xs) (hm : Mod F w w') (hb : ∀ k, v.ownBlock = some k → ¬ F k) : Rd w' size v n xs := by
  obtain ⟨hl, a, c, rfl, h1, h2, h3, h4⟩ := h
  refine ⟨hl, a, c, rfl, h1, h2, h3, fun ad had => ⟨(h4 ad had).1, fun j u hj => hm.cell ((h4 ad had).2 j u hj) ?_⟩⟩
  have : (ad.add j).block = ad.block := by unfold Addr.add; split <;> rfl
  rw [this]
  exact hb _ (by simp [Value.ownBlock, had])

theorem Rd.keepA {F : Nat → Prop} {w w' : World} {size : Nat} {v : Value} {n : Nat} {xs : List Value} (h : Rd w size v n xs) (hm : Mod F w w') (hb : ∀ k, v.ownBlock = some k → F k → xs = []) : Rd w' size v n xs := by
  by_cases hx : xs = []
  · subst hx
    obtain ⟨hl, a, c, rfl, h1, h2, h3, h4⟩ := h
    exact ⟨hl, a, c, rfl, h1, h2, h3, fun ad had => ⟨(h4 ad had).1, fun j u hj => by simp at hj⟩⟩
  · exact h.keep hm (fun k hk hf => hx (hb k hk hf))

/-- Where there is an element its block is there. -/
theorem Rd.lt {w : World} {size : Nat} {v : Value} {n : Nat} {xs : List Value} (h : Rd w size v n xs) {k : Nat} (hk : v.ownBlock = some k) (hle : w.heap.size ≤ k) : xs = [] := by
  obtain ⟨hl, a, c, rfl, h1, h2, h3, h4⟩ := h
  cases a with
  | none => cases hk
  | some ad =>
    cases xs with
    | nil => rfl
    | cons x r =>
      have := World.block_lt_of_cell? w _ ((h4 ad rfl).2 0 x rfl)
      simp [Value.ownBlock] at hk
      simp [Addr.add] at this
      omega

theorem Rd.ofOwn {w : World} {base : Nat} {e : TypeId} {size : Nat} {v : Value} {n : Nat} {xs : List Value} (h : w.ownsRow base e size v n xs) : Rd w size v n xs := by
  refine ⟨h.1, ?_⟩
  rcases h.2 with ⟨rfl, rfl⟩ | ⟨g, cap, cur, rfl, hb, hg, h1, h2, _⟩
  · exact ⟨none, 0, rfl, Nat.le_refl _, Nat.zero_le _, fun _ => ⟨rfl, rfl⟩, fun _ h => by cases h⟩
  · refine ⟨some ⟨g, 0, none⟩, cap, rfl, h1, h2, fun h => (by cases h), fun ad had => ?_⟩
    cases had
    exact ⟨fun _ => rfl, h.cells (g := g) rfl⟩

theorem Own.keep {F : Nat → Prop} {w w' : World} {base : Nat} {e : TypeId} {size : Nat} {v : Value} {n : Nat} {xs : List Value} (h : w.ownsRow base e size v n xs) (hm : Mod F w w') (hb : ∀ k, v.ownBlock = some k → ¬ F k) : w'.ownsRow base e size v n xs := by
  refine ⟨h.1, ?_⟩
  rcases h.2 with hn | ⟨g, cap, cur, rfl, hbg, hg, rest⟩
  · exact .inl hn
  · exact .inr ⟨g, cap, cur, rfl, hbg, (hm.block g (lt_of_block hg) (hb g (by simp [Value.ownBlock]))).trans hg, rest⟩

theorem Own.base {w : World} {base base' : Nat} {e : TypeId} {size : Nat} {v : Value} {n : Nat} {xs : List Value} (h : w.ownsRow base e size v n xs) (hb : base' ≤ base) : w.ownsRow base' e size v n xs := by
  refine ⟨h.1, ?_⟩
  rcases h.2 with hn | ⟨g, cap, cur, rfl, hbg, rest⟩
  · exact .inl hn
  · exact .inr ⟨g, cap, cur, rfl, by omega, rest⟩

theorem Own.rebase {w : World} {base B : Nat} {e : TypeId} {size : Nat} {v : Value} {n : Nat} {xs : List Value} (h : w.ownsRow base e size v n xs) (hB : ∀ k, v.ownBlock = some k → B ≤ k) : w.ownsRow B e size v n xs := by
  refine ⟨h.1, ?_⟩
  rcases h.2 with hn | ⟨g, cap, cur, rfl, hbg, rest⟩
  · exact .inl hn
  · exact .inr ⟨g, cap, cur, rfl, hB g (by simp [Value.ownBlock]), rest⟩

theorem Own.lt {w : World} {base : Nat} {e : TypeId} {size : Nat} {v : Value} {n : Nat} {xs : List Value} (h : w.ownsRow base e size v n xs) {k : Nat} (hk : v.ownBlock = some k) : k < w.heap.size := (h.lt k hk).2

theorem Rd.alloc {w : World} {size : Nat} {v : Value} {n : Nat} {xs : List Value} (h : Rd w size v n xs) (o : Obj) : Rd (w.alloc o) size v n xs := h.keep (Mod.alloc (fun _ => False) w o) (fun _ _ e => e)
theorem Rd.drew {w : World} {size : Nat} {v : Value} {n : Nat} {xs : List Value} (h : Rd w size v n xs) : Rd w.drew size v n xs := h
theorem Rd.one (w : World) (T : TypeId) (x : Value) : Rd (w.alloc (.cells #[x] T)) 1 (.slice (some ⟨w.heap.size, 0, none⟩) 1 1) 1 [x] := by
  refine ⟨rfl, some ⟨w.heap.size, 0, none⟩, 1, rfl, Nat.le_refl _, by decide, fun h => (by cases h), fun ad had => ?_⟩
  cases had
  refine ⟨fun _ => rfl, fun j u hj => ?_⟩
  match j, hj with
  | 0, hj => simp at hj; subst hj; simp [Addr.add]

/-- An element's cell of a slice that reads. -/
theorem Rd.at_ {w : World} {b off n c i : Nat} {xs : List Value} (h : Rd w 1 (.slice (some ⟨b, off, none⟩) n c) n xs) {u : Value} (hi : xs[i]? = some u) : w.cell? ⟨b, off + i, none⟩ = some u := by
  obtain ⟨_, a', c', he, _, _, _, hc⟩ := h
  cases he
  have := (hc _ rfl).2 i u hi
  rwa [Addr.add_lit] at this

/-- Empty, or from a place on. -/
theorem Rd.shape {w : World} {size : Nat} {v : Value} {n : Nat} {xs : List Value} (h : Rd w size v n xs) :
    (n = 0 ∧ xs = [] ∧ ∃ a c, v = .slice a 0 c) ∨ (0 < n ∧ ∃ b off c, v = .slice (some ⟨b, off, none⟩) n c ∧ n ≤ c ∧ c ≤ maxLen) := by
  obtain ⟨hl, a, c, rfl, h1, h2, h3, h4⟩ := h
  rcases Nat.eq_zero_or_pos n with rfl | hp
  · exact .inl ⟨rfl, List.eq_nil_of_length_eq_zero (by simpa using hl), a, c, rfl⟩
  · cases a with
    | none => have := (h3 rfl).1; omega
    | some ad => obtain ⟨b, off, sp⟩ := ad; have := (h4 _ rfl).1 hp; simp at this; subst this; exact .inr ⟨hp, b, off, c, rfl, h1, h2⟩

theorem own_slice (a : Option Addr) (l c l' c' : Nat) : (Value.slice a l c).ownBlock = (Value.slice a l' c').ownBlock := by cases a <;> rfl

/-- Where 'xs[n:]' begins. -/
def dropA (a : Option Addr) (cap n size : Nat) : Option Addr := if cap = n then a else a.map (·.add (n * size))

theorem dropA_own (a : Option Addr) (cap n size l c : Nat) (l' c' : Nat) : (Value.slice (dropA a cap n size) l c).ownBlock = (Value.slice a l' c').ownBlock := by
  unfold dropA
  split
  · cases a <;> rfl
  · cases a with
    | none => rfl
    | some ad =>
      have : (ad.add (n * size)).block = ad.block := by unfold Addr.add; split <;> rfl
      simp [Value.ownBlock, this]

theorem Rd.take {w : World} {size len cap n : Nat} {a : Option Addr} {xs : List Value} (h : Rd w size (.slice a len cap) len xs) (hn : n ≤ len) : Rd w size (.slice a n cap) n (xs.take (n * size)) := by
  obtain ⟨hl, a', c', he, h1, h2, h3, h4⟩ := h
  cases he
  refine ⟨?_, a, cap, rfl, by omega, h2, fun e => ⟨by have := (h3 e).1; omega, (h3 e).2⟩, fun ad had => ⟨fun hp => (h4 ad had).1 (by omega), fun j u hj => (h4 ad had).2 j u ?_⟩⟩
  · rw [List.length_take, hl]; exact Nat.min_eq_left (Nat.mul_le_mul_right _ hn)
  · rw [List.getElem?_take] at hj
    split at hj
    · exact hj
    · cases hj

theorem Rd.drop {w : World} {size len cap n : Nat} {a : Option Addr} {xs : List Value} (h : Rd w size (.slice a len cap) len xs) (hn : n ≤ len) : Rd w size (.slice (dropA a cap n size) (len - n) (cap - n)) (len - n) (xs.drop (n * size)) := by
  obtain ⟨hl, a', c', he, h1, h2, h3, h4⟩ := h
  cases he
  refine ⟨?_, _, cap - n, rfl, by omega, by omega, fun e => ?_, fun ad had => ?_⟩
  · rw [List.length_drop, hl, Nat.sub_mul]
  · have ha : a = none := by
      unfold dropA at e
      split at e
      · exact e
      · cases a with
        | none => rfl
        | some _ => cases e
    have := h3 ha; omega
  · unfold dropA at had
    by_cases hc : cap = n
    · rw [if_pos hc] at had
      refine ⟨fun hp => (h4 ad had).1 (by omega), fun j u hj => ?_⟩
      have : (xs.drop (n * size)).length = 0 := by rw [List.length_drop, hl, show n = len by omega]; exact Nat.sub_self _
      rw [List.eq_nil_of_length_eq_zero this] at hj
      simp at hj
    · rw [if_neg hc] at had
      cases a with
      | none => cases had
      | some b =>
        simp at had
        subst had
        refine ⟨fun hp => ?_, fun j u hj => ?_⟩
        · have := (h4 b rfl).1 (by omega)
          unfold Addr.add; split
          · exact this
          · rfl
        · rw [List.getElem?_drop] at hj
          have := (h4 b rfl).2 _ u hj
          have hpos : 0 < len := by
            rcases Nat.eq_zero_or_pos len with e | e
            · subst e
              rw [Nat.zero_mul] at hl
              rw [List.eq_nil_of_length_eq_zero hl] at hj
              simp at hj
            · exact e
          have hb := (h4 b rfl).1 hpos
          obtain ⟨bb, bo, bs⟩ := b
          simp at hb; subst hb
          rw [Addr.add_lit] at this
          rw [Addr.add_lit, Addr.add_lit, show bo + n * size + j = bo + (n * size + j) by omega]
          exact this

theorem run_takeS {P : Program} (w : World) (t e : TypeId) (i : TypeInfo) (ht : P.underlying t = some (.slice e)) (hi : P.info? e = some i) (a : Option Addr) (len cap n : Nat) (h : n ≤ cap) :
    (Instr.slice t (.slice a len cap) none (some (.int .i64 (n : Int))) none).run P w = .ok (.slice a n cap) w := by
  have h1 : (n : Int) ≤ (cap : Int) := by omega
  have h2 : (if cap = 0 then a else Option.map (fun x => x.add (0 * i.size)) a) = a := by
    split
    · rfl
    · cases a <;> simp [Addr.add]
  simp [Instr.slice, run_underlying ht, Instr.sliceBounds, run_sliceBound, h1, Go.sizeOf, typeInfo, hi]
  simpa using h2

theorem run_dropS {P : Program} (w : World) (t e : TypeId) (i : TypeInfo) (size : Nat) (ht : P.underlying t = some (.slice e)) (hi : P.info? e = some i) (hs : i.size = size) (a : Option Addr) (len cap n : Nat) (h : n ≤ len) :
    (Instr.slice t (.slice a len cap) (some (.int .i64 (n : Int))) none none).run P w = .ok (.slice (dropA a cap n size) (len - n) (cap - n)) w := by
  have h1 : (n : Int) ≤ (len : Int) := by omega
  simp [Instr.slice, run_underlying ht, Instr.sliceBounds, run_sliceBound, h1, Go.sizeOf, typeInfo, hi, hs, dropA]

/-- What append leaves, whether or not there was room. -/
structure Appended (w w' : World) (e : TypeId) (size : Nat) (v v' : Value) (n' : Nat) (ys : List Value) : Prop where
  own : w'.ownsRow 0 e size v' n' ys
  mod : Mod (fun k => v.ownBlock = some k) w w'
  row : ∀ k, v'.ownBlock = some k → v.ownBlock = some k ∨ w.heap.size ≤ k
  form : ∃ a c, v' = .slice a n' c
  still : ∀ a n c, v = .slice a n c → (c < n' ∨ n' = n) → Mod (fun _ => False) w w'

theorem own_form {w : World} {base : Nat} {e : TypeId} {size : Nat} {v : Value} {n : Nat} {xs : List Value} (h : w.ownsRow base e size v n xs) : ∃ a c, v = .slice a n c := by
  rcases h.2 with ⟨rfl, rfl⟩ | ⟨g, cap, cur, rfl, _⟩
  · exact ⟨_, _, rfl⟩
  · exact ⟨_, _, rfl⟩

theorem run_append_any {P : Program} (w : World) (t ty e : TypeId) (i : TypeInfo) (z : Value) (size bytes : Nat) (ht : P.underlying t = some (.slice e)) (hi : P.info? e = some i) (hz : i.zero = some z)
    (hsize : i.size = size) (hby : i.bytes = bytes) (hzs : z.cells.size = size) (hsz : 0 < size)
    (v : Value) (n : Nat) (xs : List Value) (hown : w.ownsRow 0 e size v n xs)
    (x : Value) (m : Nat) (news : List Value) (hx : Rd w size x m news) (h1 : ∀ u ∈ news, u.oneCell' = true)
    (h63 : n + m ≤ maxLen) (hbytes : (n + m) * bytes ≤ 140737488355328) :
    ∃ v' w', (Builtin.append_ #[t, t] ty #[v, x]).run P w = .ok v' w' ∧ Appended w w' e size v v' (n + m) (xs ++ news) := by
  obtain ⟨hl, a, c, rfl, hmc, hcm, hnone, hcell⟩ := hx
  cases a with
  | none =>
    obtain ⟨rfl, rfl⟩ := hnone rfl
    obtain rfl : news = [] := List.eq_nil_of_length_eq_zero (by simpa using hl)
    rcases hown.2 with ⟨rfl, rfl⟩ | ⟨g, cap, cur, rfl, hb, hg, hn1, hn2, hcs, htk⟩
    · refine ⟨.slice none 0 0, w, ?_, by simpa using hown, Mod.refl _ _, fun k hk => .inl hk, ⟨_, _, rfl⟩, fun _ _ _ _ _ => Mod.refl _ _⟩
      simp [Builtin.append_, run_underlying ht, Go.sizeOf, typeInfo, hi, Builtin.lenOf, Builtin.firstCells]
    · refine ⟨.slice (some ⟨g, 0, none⟩) n cap, w, ?_, by simpa using hown, Mod.refl _ _, fun k hk => .inl hk, ⟨_, _, rfl⟩, fun _ _ _ _ _ => Mod.refl _ _⟩
      simp [Builtin.append_, run_underlying ht, Go.sizeOf, typeInfo, hi, Builtin.lenOf, hn1, Builtin.firstCells, storeCells]
  | some ad =>
    obtain ⟨hspot, hc⟩ := hcell ad rfl
    obtain ⟨v', w', hr, ho, hgr, _⟩ := run_append_own (P := P) w 0 t ty e i z size bytes ht hi hz hsize hby hzs hsz v n xs hown ad m c news hl hc h1 h63 hbytes (Nat.zero_le _)
    have key : (∀ k, v'.ownBlock = some k → v.ownBlock = some k ∨ w.heap.size ≤ k) ∧ (∀ a n' c, v = .slice a n' c → (c < n + m ∨ n + m = n') → Mod (fun _ => False) w w') := by
      rcases hown.2 with ⟨rfl, rfl⟩ | ⟨g, cap, cur, rfl, hb, hg, hn1, hn2, hcs, htk⟩
      · obtain ⟨v2, w2, hr2, ho2, hg2, _⟩ := run_append_own (P := P) w w.heap.size t ty e i z size bytes ht hi hz hsize hby hzs hsz (.slice none 0 0) 0 xs ⟨hown.1, .inl ⟨rfl, rfl⟩⟩ ad m c news hl hc h1 h63 hbytes (Nat.le_refl _)
        rw [hr] at hr2
        cases hr2
        exact ⟨fun k hk => .inr (ho2.lt k hk).1, fun _ _ _ _ _ => (Mod.ofGrown hg2).mono (fun k _ h => by cases h)⟩
      · by_cases hroom : n + m ≤ cap
        · subst hsize
          have hfit : n * i.size + news.length ≤ cur.size := by rw [hl, hcs, ← Nat.add_mul]; exact Nat.mul_le_mul_right _ hroom
          have hr2 := run_append_room (P := P) w t ty e i ht hi g n cap cur hg ad m c news hl hc h1 hroom hfit
          rw [hr] at hr2
          cases hr2
          refine ⟨fun k hk => .inl hk, fun a n' c' he hor => ?_⟩
          cases he
          have hm0 : m = 0 := by omega
          subst hm0
          obtain rfl : news = [] := List.eq_nil_of_length_eq_zero (by simpa using hl)
          have e1 : (List.take (n * i.size) cur.toList ++ [] ++ List.drop (n * i.size + ([] : List Value).length) cur.toList).toArray = cur := by
            rw [List.append_nil, List.length_nil, Nat.add_zero, List.take_append_drop, Array.toArray_toList]
          rw [e1, setRow_self w g cur e (0, 0) hg]
          exact Mod.refl _ _
        · obtain ⟨v2, w2, hr2, ho2, hg2⟩ := run_append_arg_grows (P := P) w t ty e i z size bytes ht hi hz hsize hby hzs hsz ⟨g, 0, none⟩ n cap xs hown.1 (hown.cells (g := g) rfl) ad m c news hl hc (by omega) h63 hbytes
          rw [hr] at hr2
          cases hr2
          exact ⟨fun k hk => .inr (ho2.lt k hk).1, fun _ _ _ _ _ => (Mod.ofGrown hg2).mono (fun k _ h => by cases h)⟩
    exact ⟨v', w', hr, ho, Mod.ofGrown hgr, key.1, own_form ho, key.2⟩

/-- The same for a walk. -/
theorem wpList_append_any {P : Program} {w : World} {ops : Array Oper} {rest : List Oper} {o : Oper} {a : Act} {Q : Exit → Act → World → Prop} (hgd : o.guard = none) (s x : Operand) (t : TypeId)
    (ho : o.op = .call { callee := .builtin .append, args := #[s, x], argTypes := #[t, t] })
    (e : TypeId) (i : TypeInfo) (z : Value) (size bytes : Nat) (ht : P.underlying t = some (.slice e)) (hi : P.info? e = some i) (hz : i.zero = some z)
    (hsize : i.size = size) (hby : i.bytes = bytes) (hzs : z.cells.size = size) (hsz : 0 < size)
    (v : Value) (n : Nat) (xs : List Value) (hs : a.eval s = v) (hown : w.ownsRow 0 e size v n xs)
    (xv : Value) (m : Nat) (news : List Value) (hx : a.eval x = xv) (hrd : Rd w size xv m news) (h1 : ∀ u ∈ news, u.oneCell' = true)
    (h63 : n + m ≤ maxLen) (hbytes : (n + m) * bytes ≤ 140737488355328)
    (h : ∀ v' w', Appended w w' e size v v' (n + m) (xs ++ news) → wpList P ops Q rest (a.put o.dst v') w') : wpList P ops Q (o :: rest) a w := by
  refine wpList_plain hgd fun K hK' => ?_
  obtain ⟨v', w', hrun, hap⟩ := run_append_any (P := P) w t o.type e i z size bytes ht hi hz hsize hby hzs hsz v n xs hown xv m news hrd h1 h63 hbytes
  unfold Oper.wp
  simp [execOp, ho, resolve, invoke, builtin, hs, hx, hrun, Result.andThen]
  exact hK' _ _ (h v' w' hap)

/-- The same as a step of a region that draws its order. -/
theorem step_append_any {P : Program} {ops : Array Oper} {o : Oper} {a : Act} {w : World} {K : Act → World → Prop} {Q : Exit → Act → World → Prop} {E : Prop} (hgd : o.guard = none) (s x : Operand) (t : TypeId)
    (ho : o.op = .call { callee := .builtin .append, args := #[s, x], argTypes := #[t, t] })
    (e : TypeId) (i : TypeInfo) (z : Value) (size bytes : Nat) (ht : P.underlying t = some (.slice e)) (hi : P.info? e = some i) (hz : i.zero = some z)
    (hsize : i.size = size) (hby : i.bytes = bytes) (hzs : z.cells.size = size) (hsz : 0 < size)
    (v : Value) (n : Nat) (xs : List Value) (hs : a.eval s = v) (hown : w.ownsRow 0 e size v n xs)
    (xv : Value) (m : Nat) (news : List Value) (hx : a.eval x = xv) (hrd : Rd w size xv m news) (h1 : ∀ u ∈ news, u.oneCell' = true)
    (h63 : n + m ≤ maxLen) (hbytes : (n + m) * bytes ≤ 140737488355328)
    (h : ∀ v' w', Appended w w' e size v v' (n + m) (xs ++ news) → K (a.put o.dst v') w') : if Region.wanted o (yielded ops a.tmps) = true then Oper.wp P o a w K Q else E := by
  have hw : Region.wanted o (yielded ops a.tmps) = true := by simp [Region.wanted, hgd]
  rw [if_pos hw]
  obtain ⟨v', w', hrun, hap⟩ := run_append_any (P := P) w t o.type e i z size bytes ht hi hz hsize hby hzs hsz v n xs hown xv m news hrd h1 h63 hbytes
  unfold Oper.wp
  simp [execOp, ho, resolve, invoke, builtin, hs, hx, hrun, Result.andThen]
  exact h v' w' hap

theorem i64_or_nat (a b : Nat) (ha : a < 9223372036854775808) (hb : b < 9223372036854775808) : bits .or .i64 (a : Int) (b : Int) = ((a ||| b : Nat) : Int) := by
  have hx : a ||| b < 2 ^ 63 := Nat.or_lt_two_pow (by omega) (by omega)
  show IntKind.i64.wrap ((BitVec.ofInt 64 (a : Int) ||| BitVec.ofInt 64 (b : Int)).toNat : Int) = _
  rw [BitVec.toNat_or, ofInt_u64 a (by omega), ofInt_u64 b (by omega)]
  exact IntWalk.i64_in _ (by omega)

/-- A byte put behind a number, by '|': the sum. -/
theorem or_byte (U b : Int) (h0 : 0 ≤ U) (h1 : U < 36028797018963968) (b0 : 0 ≤ b) (b1 : b < 256) : bits BinOp.or IntKind.i64 (U * 256) b = U * 256 + b := by
  obtain ⟨n, rfl⟩ := Int.eq_ofNat_of_zero_le h0
  obtain ⟨m, rfl⟩ := Int.eq_ofNat_of_zero_le b0
  have e : ((n : Int) * 256) = ((n * 256 : Nat) : Int) := by omega
  have hx : (n * 256) ||| m = n * 256 + m := by
    rw [show n * 256 = n <<< 8 by rw [Nat.shiftLeft_eq], Nat.shiftLeft_add_eq_or_of_lt (by omega)]
  rw [e, i64_or_nat (n * 256) m (by omega) (by omega), hx]
  omega

/-- A literal's new row reads as its cells. -/
theorem Rd.many {w : World} (T : TypeId) (xs : List Value) (g n : Nat) (hg : g = w.heap.size) (hn : xs.length = n) (hm : n ≤ 1000000000) : Rd (w.alloc (.cells xs.toArray T)) 1 (.slice (some ⟨g, 0, none⟩) n n) n xs := by
  subst hg
  refine ⟨by omega, some ⟨w.heap.size, 0, none⟩, n, rfl, Nat.le_refl _, by unfold maxLen; omega, fun h => (by cases h), fun ad had => ?_⟩
  cases had
  refine ⟨fun _ => rfl, fun j u hj => ?_⟩
  rw [Addr.add_lit, Nat.zero_add]
  exact (Blk.new w T xs).cell j hj

/-- The string of some bytes. -/
def strOf (bs : List Int) : ByteArray := bs.foldl (fun r n => r.push (UInt8.ofNat n.toNat)) ByteArray.empty

theorem run_strS {P : Program} (w : World) (src dst e : TypeId) (hs : P.underlying src = some (.slice e)) (he : P.underlying e = some (.int .u8)) (hd : P.underlying dst = some .string)
    {v : Value} {n : Nat} {bs : List Int} (h : Rd w 1 v n (bs.map (Value.int .u8))) : (convert src dst v).run P w = .ok (.string (strOf bs)) w := by
  have hl := h.1
  rcases h.shape with ⟨rfl, hx, a, c, rfl⟩ | ⟨hp, b, off, c, rfl, _, _⟩
  · obtain rfl : bs = [] := by simpa using hx
    rw [run_convert_bytes_string w src dst e _ _ _ hs he hd]
    cases a with
    | none => simp [Conv.bytesToString, Sem.run_pure, strOf]
    | some ad => simpa [strOf] using run_bytesToString (P := P) w ad 0 c [] (by simpa using run_loadCells_list (P := P) w ad [] (fun j u hj => by simp at hj))
  · rw [run_convert_bytes_string w src dst e _ _ _ hs he hd]
    refine run_bytesToString w _ n c bs ?_
    obtain ⟨_, a', c', he', _, _, _, hc⟩ := h
    cases he'
    have := run_loadCells_list (P := P) w ⟨b, off, none⟩ (bs.map (Value.int .u8)) (fun j u hj => (hc _ rfl).2 j u hj)
    rw [hl, Nat.mul_one] at this
    exact this

end Mile
