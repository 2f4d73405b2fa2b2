/- Package heap: the raw object, and its small functions. -/
import Derived.Test.YtheahhcbmknaoaaRows
import Derived.Test.YtheahhcbmknaoaaIMap
import Derived.Test.YtheahhcbmknaoaaHeapP
import Derived.Test.YtheahhcbmknaoaaRegion
import Derived.BigRegion
import Derived.BigQuiet
import Derived.StillTailTactics
import Derived.Deep.QuietTactic
namespace Go.Proofs.Ytheahhcbmknaoaa
open Go.RowKit Mile

theorem Hp.info3 : (Try.prog.info? 3).map (fun i => (i.zero, i.size, i.bytes)) = some (some (.int .i64 0), 1, 8) := by kernel_rfl
theorem Hp.infoI : (Try.prog.info? 52).map (fun i => (i.zero, i.size, i.bytes)) = some (some (.agg #[.int .i64 0, .int .i64 0]), 2, 16) := by kernel_rfl
theorem Hp.zero3 (w : World) : (zeroValue 3).run Try.prog w = .ok (.int .i64 0) w := by kernel_rfl

def cellsIt (x : It) : List Value := [.int .i64 x.1, .int .i64 x.2]
def itV (x : It) : Value := .agg #[.int .i64 x.1, .int .i64 x.2]
def okIt (x : It) : Prop := (Lit.int .i64 x.1).wf = true ∧ (Lit.int .i64 x.2).wf = true

/-- The map of places: none yet, or a block. -/
def PlaceOk (w : World) (mb : Option Nat) (f : Int → Option Int) : Prop :=
  match mb with
  | none => ∀ k, f k = none
  | some b => IMap Try.prog 3 3 w b f

/-- The object at block p: its items, its map of places; F: the blocks that are its own. -/
structure HRaw (w : World) (p : Nat) (v : Value) (l : List It) (mb : Option Nat) (f : Int → Option Int) (F : Nat → Prop) : Prop where
  blk : Blk w p 28 [v, .map mb]
  own : w.ownsRow 0 52 2 v l.length (l.flatMap cellsIt)
  place : PlaceOk w mb f
  self : F p
  row : ∀ k, v.ownBlock = some k → F k ∧ k ≠ p
  map : ∀ b, mb = some b → F b ∧ b ≠ p ∧ v.ownBlock ≠ some b
  lt : ∀ k, F k → k < w.heap.size
  ok : ∀ x ∈ l, okIt x

theorem PlaceOk.keep {w w' : World} {mb : Option Nat} {f : Int → Option Int} {G : Nat → Prop} (h : PlaceOk w mb f) (hm : Mod G w w') (hb : ∀ b, mb = some b → ¬ G b) : PlaceOk w' mb f := by
  cases mb with
  | none => exact h
  | some b => exact IMap.keep h hm (hb b rfl)
theorem HRaw.keep {w w' : World} {p : Nat} {v : Value} {l : List It} {mb : Option Nat} {f : Int → Option Int} {F G : Nat → Prop} (h : HRaw w p v l mb f F) (hm : Mod G w w') (hd : ∀ k, F k → ¬ G k) : HRaw w' p v l mb f F :=
  ⟨h.blk.keep hm (hd p h.self), Own.keep h.own hm (fun k hk => hd k (h.row k hk).1), h.place.keep hm (fun b hb => hd b (h.map b hb).1), h.self, h.row, h.map, fun k hk => Nat.lt_of_lt_of_le (h.lt k hk) hm.size, h.ok⟩

theorem before_any (x y : It) (w : World) : Calls Try.prog 20 #[itV x, itV y] w fun e w' => e = .returned (.bool (bef x y)) ∧ Mod (fun _ => False) w w' := by
  obtain ⟨a, b⟩ := x
  obtain ⟨c, d⟩ := y
  have hM := ((Mod.refl (fun _ => False) w).thenAlloc (.cells #[.int .i64 a, .int .i64 b] 52)).thenAlloc (.cells #[.int .i64 c, .int .i64 d] 52)
  unfold itV
  by_cases h1 : b < d
  · have e : bef (a, b) (c, d) = true := by rw [bef_iff]; exact .inl h1
    have e1 : decide (b < d) = true := by simpa using h1
    rw [e]
    go_enter Try.func20, Try.ntmps20
    go_wp2
    go_ret
    exact ⟨rfl, hM⟩
  · by_cases h2 : b = d
    · subst h2
      have e2 : (b == b) = true := by simp
      have e : bef (a, b) (c, b) = decide (a < c) := by simp [bef]
      rw [e]
      go_enter Try.func20, Try.ntmps20
      go_wp2
      go_ret
      exact ⟨by simp, hM⟩
    · have e : bef (a, b) (c, d) = false := by rw [bef_not]; simp only; omega
      have e1 : decide (b < d) = false := by simpa using h1
      have e2 : (b == d) = false := by simpa using h2
      rw [e]
      go_enter Try.func20, Try.ntmps20
      go_wp2
      go_ret
      exact ⟨by simp, hM⟩

theorem len_it (l : List It) : (l.flatMap cellsIt).length = l.length * 2 := by
  induction l with
  | nil => rfl
  | cons x l ih => rw [List.flatMap_cons, List.length_append, ih, List.length_cons]; simp [cellsIt]; omega

theorem own_n {w : World} {e : TypeId} {gb n m c size base : Nat} {xs : List Value} (h : w.ownsRow base e size (.slice (some ⟨gb, 0, none⟩) n c) m xs) : n = m := by
  rcases h.2 with ⟨e, _⟩ | ⟨_, _, _, e, _⟩ <;> cases e; rfl

theorem cell_it {w : World} {e : TypeId} {gb n m c : Nat} {l : List It} (h : w.ownsRow 0 e 2 (.slice (some ⟨gb, 0, none⟩) n c) m (l.flatMap cellsIt)) (i : Nat) (hi : i < l.length) :
    w.cell? ⟨gb, i * 2, none⟩ = some (.int .i64 (g l i).1) ∧ w.cell? ⟨gb, i * 2 + 1, none⟩ = some (.int .i64 (g l i).2) := by
  have hl : (l.flatMap cellsIt).length = l.length * 2 := len_it l
  obtain rfl := own_n h
  have hn : n = l.length := by have := h.1; omega
  have key : ∀ (l : List It) (i : Nat) (hi : i < l.length), (l.flatMap cellsIt)[i * 2]? = some (.int .i64 l[i].1) ∧ (l.flatMap cellsIt)[i * 2 + 1]? = some (.int .i64 l[i].2) := by
    intro l
    induction l with
    | nil => intro i hi; simp at hi
    | cons x l ih =>
      intro i hi
      cases i with
      | zero => simp [cellsIt]
      | succ i =>
        have := ih i (by simpa using hi)
        simp only [List.flatMap_cons, List.getElem_cons_succ]
        rw [show (i + 1) * 2 = 2 + i * 2 by omega, show 2 + i * 2 + 1 = 2 + (i * 2 + 1) by omega]
        rw [List.getElem?_append_right (by simp [cellsIt]), List.getElem?_append_right (by simp [cellsIt])]
        simpa [cellsIt] using this
  have k := key l i hi
  rw [h.cellAt _ (by omega), h.cellAt _ (by omega), g_eq l i hi]
  exact k

theorem flat_set : ∀ (l : List It) (i : Nat) (x : It), i < l.length → ((l.flatMap cellsIt).set (i * 2) (.int .i64 x.1)).set (i * 2 + 1) (.int .i64 x.2) = (l.set i x).flatMap cellsIt := by
  intro l
  induction l with
  | nil => intro i x h; simp at h
  | cons y l ih =>
    intro i x h
    cases i with
    | zero => simp [cellsIt]
    | succ i =>
      rw [List.set_cons_succ, List.flatMap_cons, List.flatMap_cons, ← ih i x (by simpa using h), show (i + 1) * 2 = i * 2 + 1 + 1 by omega, show i * 2 + 1 + 1 + 1 = (i * 2 + 1) + 1 + 1 by omega]
      simp [cellsIt]

theorem HRaw.set {w : World} {p gb n c : Nat} {l : List It} {mb : Option Nat} {f : Int → Option Int} {F : Nat → Prop} (h : HRaw w p (.slice (some ⟨gb, 0, none⟩) n c) l mb f F) (i : Nat) (hi : i < l.length) (x : It) (hx : okIt x) :
    HRaw ((w.setCell ⟨gb, i * 2, none⟩ (.int .i64 x.1)).setCell ⟨gb, i * 2 + 1, none⟩ (.int .i64 x.2)) p (.slice (some ⟨gb, 0, none⟩) n c) (l.set i x) mb f F ∧ Mod F w ((w.setCell ⟨gb, i * 2, none⟩ (.int .i64 x.1)).setCell ⟨gb, i * 2 + 1, none⟩ (.int .i64 x.2)) := by
  have hg := h.row gb rfl
  have hm : Mod (fun k => k = gb) w ((w.setCell ⟨gb, i * 2, none⟩ (.int .i64 x.1)).setCell ⟨gb, i * 2 + 1, none⟩ (.int .i64 x.2)) := ((Mod.refl (fun k => k = gb) w).thenSet ⟨gb, i * 2, none⟩ _ (fun _ => rfl)).thenSet ⟨gb, i * 2 + 1, none⟩ _ (fun _ => rfl)
  have ho := h.own
  have hn : n = l.length := by have h1 := ho.1; rcases ho.2 with ⟨e, _⟩ | ⟨_, _, _, e, _⟩ <;> cases e; rfl
  subst hn
  refine ⟨⟨h.blk.keep hm (fun e => hg.2 e.symm), ?_, h.place.keep hm (fun b hb e => (h.map b hb).2.2 (by rw [e]; rfl)), h.self, h.row, h.map, fun k hk => Nat.lt_of_lt_of_le (h.lt k hk) hm.size, ?_⟩, hm.mono (fun k _ e => by subst e; exact hg.1)⟩
  · have h1 := (ho.stored (i * 2) (.int .i64 x.1)).1
    have h2 := (h1.stored (i * 2 + 1) (.int .i64 x.2)).1
    rw [flat_set l i x hi] at h2
    rw [List.length_set]; exact h2
  · intro y hy
    rcases List.mem_or_eq_of_mem_set hy with e | e
    · exact h.ok y e
    · rw [e]; exact hx

/-- The map of places has turned. -/
theorem HRaw.placed {w w' : World} {p : Nat} {v : Value} {l : List It} {b : Nat} {f f' : Int → Option Int} {F : Nat → Prop} (h : HRaw w p v l (some b) f F) (hm : Mod (fun i => i = b) w w') (hp : IMap Try.prog 3 3 w' b f') :
    HRaw w' p v l (some b) f' F ∧ Mod F w w' := by
  have hb := h.map b rfl
  exact ⟨⟨h.blk.keep hm (fun e => hb.2.1 e.symm), Own.keep h.own hm (fun k hk e => hb.2.2 (by rw [← e]; exact hk)), hp, h.self, h.row, h.map, fun k hk => Nat.lt_of_lt_of_le (h.lt k hk) hm.size, h.ok⟩, hm.mono (fun k _ e => by subst e; exact hb.1)⟩

theorem put_any (p : Nat) (w : World) (v : Value) (l : List It) (b : Nat) (f : Int → Option Int) (F : Nat → Prop) (h : HRaw w p v l (some b) f F) (i : Nat) (hi : i < l.length) (hl : l.length ≤ 1000000000) (x : It) (hx : okIt x)
    (ks : List Int) (hk : ∀ k, f k ≠ none → k ∈ ks) (hkl : ks.length ≤ 2000000000) :
    Calls Try.prog 21 #[.pointer (some ⟨p, 0, none⟩), .int .i64 i, itV x] w fun e w' => e = .returned (.tuple #[]) ∧ HRaw w' p v (l.set i x) (some b) (updf f x.1 i) F ∧ Mod F w w' := by
  obtain ⟨iI, hiI, zI, sI, bI⟩ := info_parts Hp.infoI
  obtain ⟨c, d⟩ := x
  obtain ⟨gb, cap, hv⟩ : ∃ gb cap, v = .slice (some ⟨gb, 0, none⟩) l.length cap := by
    rcases h.own.2 with ⟨_, h0⟩ | ⟨gb, cap, _, hv, _⟩
    · omega
    · exact ⟨gb, cap, hv⟩
  subst hv
  unfold itV
  go_enter Try.func21, Try.ntmps21
  go_wp2_with fail
  have hM := Mod.alloc F w (.cells #[.int .i64 c, .int .i64 d] 52)
  have h1 := h.keep (Mod.alloc (fun _ => False) w (.cells #[.int .i64 c, .int .i64 d] 52)) (fun _ _ e => e)
  have b1 := Blk.new w 52 [.int .i64 c, .int .i64 d]
  have hbx : ¬ F w.heap.size := fun e => by have := h.lt _ e; omega
  obtain ⟨W, hW⟩ : ∃ W, w.alloc (.cells #[.int .i64 c, .int .i64 d] 52) = W := ⟨_, rfl⟩
  obtain ⟨bx, hbxx⟩ : ∃ bx, w.heap.size = bx := ⟨_, rfl⟩
  rw [hbxx] at b1 hbx ⊢
  change Blk (w.alloc (.cells #[.int .i64 c, .int .i64 d] 52)) bx _ _ at b1
  rw [hW] at hM h1 b1 ⊢
  clear hW hbxx h
  have hown := h1.own
  obtain ⟨f1, f2⟩ := cell_it hown i hi
  have fz1 := hown.frozenAt (i * 2)
  have fz2 := hown.frozenAt (i * 2 + 1)
  have c0 := h1.blk.cell 0 rfl
  have c1 := h1.blk.cell 1 rfl
  have d0 := b1.cell 0 rfl
  have d1 := b1.cell 1 rfl
  go_region
  have h2 := h1.set i hi (c, d) hx
  have b2 := b1.keep h2.2 hbx
  have hM2 := hM.trans h2.2 (fun _ _ e => e) (fun _ _ e => e)
  obtain ⟨h2, _⟩ := h2
  obtain ⟨W2, hW2⟩ : ∃ W2, (W.setCell ⟨gb, i * 2, none⟩ (.int .i64 c)).setCell ⟨gb, i * 2 + 1, none⟩ (.int .i64 d) = W2 := ⟨_, rfl⟩
  rw [hW2] at h2 b2 hM2 ⊢
  clear hW2 f1 f2 fz1 fz2 c0 c1 d0 d1 b1 h1 hM hown
  have c1 := h2.blk.cell 1 rfl
  have d0 := b2.cell 0 rfl
  obtain ⟨w', hrun, hmap, hmm⟩ := IMap.store (w := W2.drew.drew) (IMap.keep h2.place (Mod.drew (fun _ => False) _).thenDrew (fun e => e)) Try.underlying26 Try.underlying3 Try.underlying3 ks hk (by unfold maxLen; omega) c i hx.1 ((i64_wf _).2 (by omega))
  go_wp2_with fail
  go_region
  go_end0
  have h3 := (h2.keep ((Mod.drew (fun _ => False) _).thenDrew) (fun _ _ e => e)).placed hmm hmap
  exact ⟨rfl, h3.1, hM2.thenDrew.thenDrew.trans h3.2 (fun _ _ e => e) (fun _ _ e => e)⟩

theorem HRaw.slice {w : World} {p : Nat} {v : Value} {l : List It} {mb : Option Nat} {f : Int → Option Int} {F : Nat → Prop} (h : HRaw w p v l mb f F) (hl : 0 < l.length) : ∃ gb cap, v = .slice (some ⟨gb, 0, none⟩) l.length cap := by
  rcases h.own.2 with ⟨_, h0⟩ | ⟨gb, cap, _, hv, _⟩
  · omega
  · exact ⟨gb, cap, hv⟩

/-- The place of the first one of the two at a place and behind it. -/
def lesserI (l : List It) (i : Nat) : Nat := if decide (i + 1 < l.length) && bef (g l (i + 1)) (g l i) then i + 1 else i

set_option maxHeartbeats 1000000 in
theorem lesser_any (p : Nat) (w : World) (v : Value) (l : List It) (mb : Option Nat) (f : Int → Option Int) (F : Nat → Prop) (h : HRaw w p v l mb f F) (i : Nat) (hl : l.length ≤ 1000000000) (hi : i ≤ 4000000000) :
    Calls Try.prog 19 #[.pointer (some ⟨p, 0, none⟩), .int .i64 i] w fun e w' => e = .returned (.int .i64 (lesserI l i)) ∧ Mod (fun _ => False) w w' := by
  obtain ⟨iI, hiI, zI, sI, bI⟩ := info_parts Hp.infoI
  have c0 := h.blk.cell 0 rfl
  by_cases hlt : i + 1 < l.length
  · obtain ⟨gb, cap, hv⟩ := h.slice (by omega)
    subst hv
    have hown := h.own
    obtain ⟨f1, f2⟩ := cell_it hown i (by omega)
    obtain ⟨f3, f4⟩ := cell_it hown (i + 1) hlt
    have e1 : decide (i + 1 < l.length) = true := by simpa using hlt
    have hq : (i : Int) + 1 < (l.length : Int) := by omega
    obtain ⟨bb, hbb⟩ : ∃ bb, bef (g l (i + 1)) (g l i) = bb := ⟨_, rfl⟩
    have hle : lesserI l i = if bb then i + 1 else i := by unfold lesserI; rw [e1, hbb]; simp
    rw [hle]
    have HB := Lib.hid hbb
    clear hle hbb e1
    go_enter Try.func19, Try.ntmps19
    go_wp2_with fail
    have hw1 : IntKind.i64.wrap ((i : Int) + 1) = (i : Int) + 1 := IntWalk.i64_in _ (by omega)
    have hw2 : (0 : Int) ≤ (i : Int) + 1 := by omega
    have hw3 : ((i : Int) + 1).toNat = i + 1 := by omega
    have hw4 : decide ((i : Int) + 1 < (l.length : Int)) = true := by simpa using hq
    have hw5 : (i : Int) < (l.length : Int) := by omega
    go_still_tail 24, (by kernel_rfl)
    change wpList _ _ _ _ _ (World.drew w)
    clear hw1 hw2 hw3 hw4 hw5
    go_wp2_with fail
    refine (before_any (g l (i + 1)) (g l i) _).mono ?_
    rintro e w' ⟨rfl, hM⟩
    rw [HB.out]
    have hM2 := (Mod.drew (fun _ => False) w).trans hM (H := fun _ => False) (fun _ _ e => e) (fun _ _ e => e)
    cases bb with
    | true =>
      go_wp2
      go_ret
      exact ⟨by simp, hM2⟩
    | false =>
      go_wp2
      go_ret
      exact ⟨by simp, hM2⟩
  · have e1 : decide (i + 1 < l.length) = false := by simpa using hlt
    have hq : (l.length : Int) ≤ (i : Int) + 1 := by omega
    have hq2 : decide ((i : Int) + 1 < (l.length : Int)) = false := by simp; omega
    have hle : lesserI l i = i := by unfold lesserI; rw [e1]; simp
    obtain ⟨a, c, hv⟩ : ∃ a c, v = .slice a l.length c := own_form h.own
    subst hv
    rw [hle]
    clear hle e1
    go_enter Try.func19, Try.ntmps19
    go_wp2_with fail
    go_quiet (fail)
    go_wp2
    go_ret
    exact ⟨rfl, Mod.drewN _ _ _⟩
end Go.Proofs.Ytheahhcbmknaoaa
