/- Contracts of package graph's clone, start, end. -/
import Derived.Test.YtdccpikddhpleaaGr4
namespace Go.Proofs.Ytdccpikddhpleaa
open Go.RowKit Mile
set_option maxRecDepth 100000
def NewOwn (B : Nat) (T : TypeId) (size n : Nat) (xs : List Value) : Value → World → Prop := fun v W => ∃ a c, v = .slice a n c ∧ W.ownsRow B T size (.slice a n c) n xs
/-- A graph's value, its rows in new memory (from B on) of one's own. -/
def NewGraph (B n1 n2 n3 : Nat) (G : GD) : Value → World → Prop := fun v W => ∃ x1 z1 x2 z2 x3 z3, v = .agg #[.slice x1 n1 z1, .slice x2 n2 z2, .slice x3 n3 z3] ∧
  W.ownsRow B 50 2 (.slice x1 n1 z1) n1 (G.N.flatMap c2) ∧ W.ownsRow B 52 3 (.slice x2 n2 z2) n2 (G.E.flatMap c3) ∧ W.ownsRow B 63 2 (.slice x3 n3 z3) n3 (G.B.flatMap c2)
def GCloneP (G : GD) (n1 n2 n3 : Nat) (w : World) (e : Ending) (w' : World) : Prop := ∃ v, e = .returned v ∧ NewGraph w.heap.size n1 n2 n3 G v w' ∧ Mod (fun _ => False) w w'

theorem start_any (x : P3) (w : World) : Calls Try.prog 33 #[.agg #[.int .i64 x.1, .int .i64 x.2.1, .int .i64 x.2.2]] w fun e w' => e = .returned (.int .i64 x.1) ∧ Mod (fun _ => False) w w' := by
  obtain ⟨x, y, z⟩ := x
  go_enter Try.func33, Try.ntmps33
  go_wp2_with fail
  go_ret
  exact ⟨rfl, (Mod.refl _ _).thenAlloc _⟩
theorem end_any (x : P3) (w : World) : Calls Try.prog 34 #[.agg #[.int .i64 x.1, .int .i64 x.2.1, .int .i64 x.2.2]] w fun e w' => e = .returned (.int .i64 x.2.1) ∧ Mod (fun _ => False) w w' := by
  obtain ⟨x, y, z⟩ := x
  go_enter Try.func34, Try.ntmps34
  go_wp2_with fail
  go_ret
  exact ⟨rfl, (Mod.refl _ _).thenAlloc _⟩

/-- What each operation of the statement leaves. -/
def gcl_F (B q : Nat) (a1 : Option Addr) (n1 d1 : Nat) (a2 : Option Addr) (n2 d2 : Nat) (a3 : Option Addr) (n3 d3 : Nat) (G : GD) : List (Bool × (Value → World → Prop)) :=
  [(true, IsV (.pointer (some ⟨q, 0, none⟩))),
   (true, IsV (.slice a1 n1 d1)),
   (false, NewOwn B 50 2 n1 (G.N.flatMap c2)),
   (true, IsV (.pointer (some ⟨q, 1, none⟩))),
   (true, IsV (.slice a2 n2 d2)),
   (false, NewOwn B 52 3 n2 (G.E.flatMap c3)),
   (true, IsV (.pointer (some ⟨q, 2, none⟩))),
   (true, IsV (.slice a3 n3 d3)),
   (false, NewOwn B 63 2 n3 (G.B.flatMap c2)),
   (false, NewGraph B n1 n2 n3 G)]
def gcl_D : List (List Nat) := [[], [0], [1], [], [3], [4], [], [6], [7], [2, 5, 8]]
def gcl_C : List Nat := [1000, 1000, 1000, 1000, 1000, 1000, 1000, 1000, 1000, 1000]
set_option maxHeartbeats 4000000 in
theorem gclone_any (G : GD) (w : World) (a1 : Option Addr) (n1 d1 : Nat) (a2 : Option Addr) (n2 d2 : Nat) (a3 : Option Addr) (n3 d3 : Nat) (h : GV w a1 n1 d1 a2 n2 d2 a3 n3 d3 G) (hb1 : n1 ≤ 1000000) (hb2 : n2 ≤ 1000000) (hb3 : n3 ≤ 1000000) :
    Calls Try.prog 31 #[.agg #[.slice a1 n1 d1, .slice a2 n2 d2, .slice a3 n3 d3]] w (GCloneP G n1 n2 n3 w) := by
  obtain ⟨g1, g2, g3, r1, r2, r3⟩ := h
  have HN1 := Lib.hid g1
  have HN2 := Lib.hid g2
  have HN3 := Lib.hid g3
  clear g1 g2 g3
  go_enter Try.func31, Try.ntmps31
  go_wp2_with fail
  obtain ⟨W0, hW0⟩ : ∃ W0, (w.alloc (.cells #[.slice a1 n1 d1, .slice a2 n2 d2, .slice a3 n3 d3] 26)).alloc (.cells #[.slice none 0 0, .slice none 0 0, .slice none 0 0] 26) = W0 := ⟨_, rfl⟩
  have hM0 : Mod (fun _ => False) w W0 := by rw [← hW0]; exact ((Mod.refl _ w).thenAlloc _).thenAlloc _
  obtain ⟨q, hq⟩ : ∃ q, w.heap.size = q := ⟨_, rfl⟩
  obtain ⟨s, hs⟩ : ∃ s, q + 1 = s := ⟨_, rfl⟩
  obtain ⟨t, ht⟩ : ∃ t, s + 1 = t := ⟨_, rfl⟩
  have hsz0 : W0.heap.size = t := by rw [← hW0]; simp; omega
  have hqb : Blk W0 q 26 [.slice a1 n1 d1, .slice a2 n2 d2, .slice a3 n3 d3] := by
    rw [← hW0, ← hq]; exact (Blk.new w 26 [.slice a1 n1 d1, .slice a2 n2 d2, .slice a3 n3 d3]).alloc _
  have hsb : Blk W0 s 26 [.slice none 0 0, .slice none 0 0, .slice none 0 0] := by
    have := Blk.new (w.alloc (.cells #[.slice a1 n1 d1, .slice a2 n2 d2, .slice a3 n3 d3] 26)) 26 [.slice none 0 0, .slice none 0 0, .slice none 0 0]
    rw [show (w.alloc (.cells #[.slice a1 n1 d1, .slice a2 n2 d2, .slice a3 n3 d3] 26)).heap.size = s by simp; omega] at this
    rw [← hW0]; exact this
  have HSB := Lib.hid hsb
  have HC : Hid (∀ W, Mod (fun k => t ≤ k) W0.drew W → W.cell? ⟨q, 0, none⟩ = some (.slice a1 n1 d1) ∧ W.cell? ⟨q, 1, none⟩ = some (.slice a2 n2 d2) ∧ W.cell? ⟨q, 2, none⟩ = some (.slice a3 n3 d3)) := Lib.hid fun W hm => by
    have h1 := hqb.drew.keep hm (by omega)
    exact ⟨h1.cell 0 rfl, h1.cell 1 rfl, h1.cell 2 rfl⟩
  have hMS : ∀ W, Mod (fun k => t ≤ k) W0.drew W → Mod (fun _ => False) w W := fun W hm => (hM0.thenDrew).trans hm (fun _ _ e => e) (fun i hi e => by show False; omega)
  have HR1 : Hid (∀ W, Mod (fun k => t ≤ k) W0.drew W → Rd W 2 (.slice a1 n1 d1) n1 (G.N.flatMap c2)) := Lib.hid fun W hm => r1.keepA (hMS W hm) (fun _ _ e => e.elim)
  have HR2 : Hid (∀ W, Mod (fun k => t ≤ k) W0.drew W → Rd W 3 (.slice a2 n2 d2) n2 (G.E.flatMap c3)) := Lib.hid fun W hm => r2.keepA (hMS W hm) (fun _ _ e => e.elim)
  have HR3 : Hid (∀ W, Mod (fun k => t ≤ k) W0.drew W → Rd W 2 (.slice a3 n3 d3) n3 (G.B.flatMap c2)) := Lib.hid fun W hm => r3.keepA (hMS W hm) (fun _ _ e => e.elim)
  have HSZ : Hid (∀ W, Mod (fun k => t ≤ k) W0.drew W → t ≤ W.heap.size) := Lib.hid fun W hm => by have := hm.size; rw [show W0.drew.heap.size = W0.heap.size from rfl] at this; omega
  have HMS := Lib.hid hMS
  rw [hW0, hq, hs]
  unfold GCloneP
  rw [hq]
  have HQ := Lib.hid hq
  have HS := Lib.hid hs
  have HT := Lib.hid ht
  clear ht hsz0
  clear hW0 hq hs r1 r2 r3 hqb hsb hMS
  have HST : ∀ (ix : Nat) (vx : Value) (wx wy : World), factOf (gcl_F t q a1 n1 d1 a2 n2 d2 a3 n3 d3 G) ix vx wx → Mod (fun _ => False) wx wy → factOf (gcl_F t q a1 n1 d1 a2 n2 d2 a3 n3 d3 G) ix vx wy := by
    refine fact_stays ?_
    intro f hf
    simp only [gcl_F, List.mem_cons, List.not_mem_nil, or_false] at hf
    rcases hf with rfl | rfl | rfl | rfl | rfl | rfl | rfl | rfl | rfl | rfl <;> first | exact stable_val _ | exact stable_new | exact (fun _ _ _ ⟨a, c, h1, h2⟩ hm => ⟨a, c, h1, Own.keep h2 hm (fun _ _ e => e)⟩) | exact (fun _ _ _ ⟨x1, z1, x2, z2, x3, z3, h, o1, o2, o3⟩ hm => ⟨x1, z1, x2, z2, x3, z3, h, Own.keep o1 hm (fun _ _ e => e), Own.keep o2 hm (fun _ _ e => e), Own.keep o3 hm (fun _ _ e => e)⟩)
  have HSO : ∀ px ∈ (gcl_F t q a1 n1 d1 a2 n2 d2 a3 n3 d3 G), px.1 = true → ∀ (vx : Value) (wx wy : World), px.2 vx wx → px.2 vx wy := by
    intro f hf
    simp only [gcl_F, List.mem_cons, List.not_mem_nil, or_false] at hf
    rcases hf with rfl | rfl | rfl | rfl | rfl | rfl | rfl | rfl | rfl | rfl <;> first | exact fun _ _ _ _ h => h | (intro h; cases h)
  refine wp_region_use (Mod (fun k => t ≤ k)) (factOf (gcl_F t q a1 n1 d1 a2 n2 d2 a3 n3 d3 G)) (fun i => gcl_C.getD i 1000) (fun i => gcl_D.getD i []) 10 _ rfl rfl (by kernel_rfl) (by kernel_rfl) (by kernel_rfl) (by kernel_rfl) (by kernel_rfl) (fun _ => Mod.refl _ _)
    (fun _ _ _ h k => h.trans k (fun _ _ e => e) (fun _ _ e => e)) ?_ ?_
  · refine opsOkU_cons ?_ ?_
    · intro K vs W hR hD hK
      clear hD
      simp only [putAll, Nat.zero_add, Nat.reduceAdd, Act.put, List.setIfInBounds_toArray, List.set_cons_succ, List.set_cons_zero] at hK ⊢
      go_wp2
      exact hK _ _ rfl (fun _ _ _ h => h) (Mod.refl _ _)
    refine opsOkU_cons ?_ ?_
    · intro K vs W hR hD hK
      have d0 : vs 0 = .pointer (some ⟨q, 0, none⟩) := hD 0 (by decide)
      clear hD
      simp only [putAll, Nat.zero_add, Nat.reduceAdd, Act.put, List.setIfInBounds_toArray, List.set_cons_succ, List.set_cons_zero] at hK ⊢
      generalize vs 0 = v0 at hK d0 ⊢
      subst d0
      obtain ⟨k1, k2, k3⟩ := HC.out W hR
      go_wp2
      exact hK _ _ rfl (fun _ _ _ h => h) (Mod.refl _ _)
    refine opsOkU_cons ?_ ?_
    · intro K vs W hR hD hK
      have d1 : vs 1 = .slice a1 n1 d1 := hD 1 (by decide)
      clear hD
      simp only [putAll, Nat.zero_add, Nat.reduceAdd, Act.put, List.setIfInBounds_toArray, List.set_cons_succ, List.set_cons_zero] at hK ⊢
      generalize vs 1 = v1 at hK d1 ⊢
      subst d1
      go_wp2_with (go_at_call 56; refine (cloneN_any _ _ _ _ G.N HN1.out (HR1.out W hR) hb1).mono ?_; rintro e' w' ⟨ax, cx, rfl, hox, hmx⟩)
      exact hK _ _ ⟨ax, cx, rfl, Own.base hox (HSZ.out W hR)⟩ (fun j u _ h => HST j u _ _ h hmx) (hmx.mono (fun _ _ e => e.elim))
    refine opsOkU_cons ?_ ?_
    · intro K vs W hR hD hK
      clear hD
      simp only [putAll, Nat.zero_add, Nat.reduceAdd, Act.put, List.setIfInBounds_toArray, List.set_cons_succ, List.set_cons_zero] at hK ⊢
      go_wp2
      exact hK _ _ rfl (fun _ _ _ h => h) (Mod.refl _ _)
    refine opsOkU_cons ?_ ?_
    · intro K vs W hR hD hK
      have d3 : vs 3 = .pointer (some ⟨q, 1, none⟩) := hD 3 (by decide)
      clear hD
      simp only [putAll, Nat.zero_add, Nat.reduceAdd, Act.put, List.setIfInBounds_toArray, List.set_cons_succ, List.set_cons_zero] at hK ⊢
      generalize vs 3 = v3 at hK d3 ⊢
      subst d3
      obtain ⟨k1, k2, k3⟩ := HC.out W hR
      go_wp2
      exact hK _ _ rfl (fun _ _ _ h => h) (Mod.refl _ _)
    refine opsOkU_cons ?_ ?_
    · intro K vs W hR hD hK
      have d4 : vs 4 = .slice a2 n2 d2 := hD 4 (by decide)
      clear hD
      simp only [putAll, Nat.zero_add, Nat.reduceAdd, Act.put, List.setIfInBounds_toArray, List.set_cons_succ, List.set_cons_zero] at hK ⊢
      generalize vs 4 = v4 at hK d4 ⊢
      subst d4
      go_wp2_with (go_at_call 57; refine (cloneE_any _ _ _ _ G.E HN2.out (HR2.out W hR) hb2).mono ?_; rintro e' w' ⟨ax, cx, rfl, hox, hmx⟩)
      exact hK _ _ ⟨ax, cx, rfl, Own.base hox (HSZ.out W hR)⟩ (fun j u _ h => HST j u _ _ h hmx) (hmx.mono (fun _ _ e => e.elim))
    refine opsOkU_cons ?_ ?_
    · intro K vs W hR hD hK
      clear hD
      simp only [putAll, Nat.zero_add, Nat.reduceAdd, Act.put, List.setIfInBounds_toArray, List.set_cons_succ, List.set_cons_zero] at hK ⊢
      go_wp2
      exact hK _ _ rfl (fun _ _ _ h => h) (Mod.refl _ _)
    refine opsOkU_cons ?_ ?_
    · intro K vs W hR hD hK
      have d6 : vs 6 = .pointer (some ⟨q, 2, none⟩) := hD 6 (by decide)
      clear hD
      simp only [putAll, Nat.zero_add, Nat.reduceAdd, Act.put, List.setIfInBounds_toArray, List.set_cons_succ, List.set_cons_zero] at hK ⊢
      generalize vs 6 = v6 at hK d6 ⊢
      subst d6
      obtain ⟨k1, k2, k3⟩ := HC.out W hR
      go_wp2
      exact hK _ _ rfl (fun _ _ _ h => h) (Mod.refl _ _)
    refine opsOkU_cons ?_ ?_
    · intro K vs W hR hD hK
      have d7 : vs 7 = .slice a3 n3 d3 := hD 7 (by decide)
      clear hD
      simp only [putAll, Nat.zero_add, Nat.reduceAdd, Act.put, List.setIfInBounds_toArray, List.set_cons_succ, List.set_cons_zero] at hK ⊢
      generalize vs 7 = v7 at hK d7 ⊢
      subst d7
      go_wp2_with (go_at_call 58; refine (cloneB_any _ _ _ _ G.B HN3.out (HR3.out W hR) hb3).mono ?_; rintro e' w' ⟨ax, cx, rfl, hox, hmx⟩)
      exact hK _ _ ⟨ax, cx, rfl, Own.base hox (HSZ.out W hR)⟩ (fun j u _ h => HST j u _ _ h hmx) (hmx.mono (fun _ _ e => e.elim))
    refine opsOkU_cons ?_ ?_
    · intro K vs W hR hD hK
      have d2 : (NewOwn t 50 2 n1 (G.N.flatMap c2)) (vs 2) W := hD 2 (by decide)
      have d5 : (NewOwn t 52 3 n2 (G.E.flatMap c3)) (vs 5) W := hD 5 (by decide)
      have d8 : (NewOwn t 63 2 n3 (G.B.flatMap c2)) (vs 8) W := hD 8 (by decide)
      clear hD
      simp only [putAll, Nat.zero_add, Nat.reduceAdd, Act.put, List.setIfInBounds_toArray, List.set_cons_succ, List.set_cons_zero] at hK ⊢
      generalize vs 2 = v2 at hK d2 ⊢
      generalize vs 5 = v5 at hK d5 ⊢
      generalize vs 8 = v8 at hK d8 ⊢
      obtain ⟨x1, z1, rfl, o1⟩ := d2
      obtain ⟨x2, z2, rfl, o2⟩ := d5
      obtain ⟨x3, z3, rfl, o3⟩ := d8
      go_wp2
      exact hK _ _ ⟨x1, z1, x2, z2, x3, z3, rfl, o1, o2, o3⟩ (fun _ _ _ h => h) (Mod.refl _ _)
    exact opsOkU_nil
  · intro vs W hR hF
    have d9 : (NewGraph t n1 n2 n3 G) (vs 9) W := hF 9 (by decide) (by decide)
    clear hF
    simp only [putAll, Nat.zero_add, Nat.reduceAdd, Act.put, List.setIfInBounds_toArray, List.set_cons_succ, List.set_cons_zero]
    generalize vs 9 = v9 at d9 ⊢
    obtain ⟨x1, z1, x2, z2, x3, z3, rfl, o1, o2, o3⟩ := d9
    have hb := HSB.out.drew.keep hR (by have := HT.out; omega)
    have c0 := hb.cell 0 rfl
    have c1 := hb.cell 1 rfl
    have c2' := hb.cell 2 rfl
    have f0 := hb.free 0
    have f1 := hb.free 1
    have f2 := hb.free 2
    have hlt := hb.lt
    go_wp2_with fail
    have hS : Mod (fun k => k = s) W (((W.setCell ⟨s, 0, none⟩ (.slice x1 n1 z1)).setCell ⟨s, 1, none⟩ (.slice x2 n2 z2)).setCell ⟨s, 2, none⟩ (.slice x3 n3 z3)) :=
      ((Mod.setCell (F := fun k => k = s) W ⟨s, 0, none⟩ _ rfl).thenSet ⟨s, 1, none⟩ _ (fun _ => rfl)).thenSet ⟨s, 2, none⟩ _ (fun _ => rfl)
    have hk : ∀ {T : TypeId} {size n : Nat} {v : Value} {xs : List Value}, W.ownsRow t T size v n xs → ∀ k, v.ownBlock = some k → ¬ (k = s) := fun h k hk e => by have := (World.ownsRow.lt h k hk).1; have := HT.out; omega
    have hq : w.heap.size ≤ t := by have := HQ.out; have := HS.out; have := HT.out; omega
    have hM := (HMS.out W hR).trans hS (H := fun _ => False) (fun _ _ e => e) (fun i hi e => by have := HQ.out; have := HS.out; show False; omega)
    have b2 := ((hb.set 0 (.slice x1 n1 z1)).set 1 (.slice x2 n2 z2)).set 2 (.slice x3 n3 z3)
    (try simp only [Exit.inBlock, Exit.then])
    refine bodyPost_ret (results_cell_row rfl _ _ s 26 #[.slice x1 n1 z1, .slice x2 n2 z2, .slice x3 n3 z3] (0, 0) _ rfl b2 Try.underlying26 rfl (by kernel_rfl)) rfl ?_
    exact ⟨_, rfl, ⟨x1, z1, x2, z2, x3, z3, rfl, Own.base (Own.keep o1 hS (hk o1)) (by have := HQ.out; omega), Own.base (Own.keep o2 hS (hk o2)) (by have := HQ.out; omega), Own.base (Own.keep o3 hS (hk o3)) (by have := HQ.out; omega)⟩, hM⟩
end Go.Proofs.Ytdccpikddhpleaa
