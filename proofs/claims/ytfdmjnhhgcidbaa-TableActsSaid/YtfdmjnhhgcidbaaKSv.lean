/- The reference's NewChannel, NewServer, Put, by contract. -/
import Derived.Test.YtfdmjnhhgcidbaaSv1
import Derived.Test.YtfdmjnhhgcidbaaSv4
import Derived.Test.YtfdmjnhhgcidbaaRegion2
namespace Go.Proofs.Ytfdmjnhhgcidbaa
open Go.RowKit Mile
set_option maxRecDepth 100000
def TmN : Value → World → Prop := fun v W => ∃ tq, v = .pointer (some ⟨tq, 0, none⟩) ∧ RT W tq none 0 0 1 1 0 []
theorem TmN.st : Stable (Mod (fun _ => False)) TmN := fun _ _ _ ⟨tq, h, ht⟩ m => ⟨tq, h, ht.keep m (fun e => e) (fun _ _ e => e.elim)⟩
def PtV : Value → World → Prop := fun v _ => ∃ x : Addr, v = .pointer (some x)
theorem PtV.st : Stable (Mod (fun _ => False)) PtV := fun _ _ _ h _ => h
def ChB (cn : Int) : Value → World → Prop := fun v _ => ∃ r1 r2, v = .agg #[.int .i64 cn, r1, r2, .slice none 0 0]
theorem ChB.st (cn : Int) : Stable (Mod (fun _ => False)) (ChB cn) := fun _ _ _ h _ => h
def ChP (B0 : Nat) (cn : Int) : Value → World → Prop := fun v W => ∃ b r1 r2, v = .pointer (some ⟨b, 0, none⟩) ∧ Blk W b 59 [.int .i64 cn, r1, r2, .slice none 0 0] ∧ B0 ≤ b
theorem ChP.st (B0 : Nat) (cn : Int) : Stable (Mod (fun _ => False)) (ChP B0 cn) := fun _ _ _ ⟨b, r1, r2, h, hb, hl⟩ m => ⟨b, r1, r2, h, hb.keep m (fun e => e), hl⟩
theorem rtnew1 (w : World) : Calls Try.prog 54 #[.int .i64 1, .int .i64 1, .int .i64 0] w fun e w' => ∃ v, e = .returned v ∧ TmN v w' ∧ Mod (fun _ => False) w w' := by
  have h : Calls Try.prog 54 #[.int .i64 1, .int .i64 1, .int .i64 0] w _ := rtnew_any w 1 1 0 (by omega) (by omega) (by omega) (by omega)
  refine h.mono ?_
  rintro e w' ⟨tq, he, ht, _, hm⟩
  exact ⟨_, he, ⟨tq, rfl, ht⟩, hm⟩
theorem rsnew1 (w : World) (tq : Nat) (ht : RT w tq none 0 0 1 1 0 []) : Calls Try.prog 53 #[.int .i64 1, .pointer (some ⟨tq, 0, none⟩)] w fun e w' => ∃ v, e = .returned v ∧ PtV v w' ∧ Mod (fun _ => False) w w' := by
  have h : Calls Try.prog 53 #[.int .i64 1, .pointer (some ⟨tq, 0, none⟩)] w _ := rsnew_any w 1 tq 1 1 0 (by omega) (by omega) ht
  refine h.mono ?_
  rintro e w' ⟨q, he, _, _, hm⟩
  exact ⟨_, he, ⟨_, rfl⟩, hm⟩
theorem rtk1 (w : World) : Calls Try.prog 55 #[.int .i64 1] w fun e w' => ∃ v, e = .returned v ∧ PtV v w' ∧ Mod (fun _ => False) w w' := by
  refine (rtk_any w).mono ?_
  rintro e w' ⟨k, he, hm⟩
  exact ⟨_, he, ⟨_, rfl⟩, hm⟩
/-- What each operation of the statement leaves. -/
def sc_r3_0_F (g : Nat) (B0 : Nat) (conn : Int) : List (Value → World → Prop) :=
  [IsV (.int .i64 conn),
   IsV (.pointer (some ⟨g, 1, none⟩)),
   IsV (.int .i64 1),
   IsV (.pointer (some ⟨g, 3, none⟩)),
   IsV (.int .i64 1),
   IsV (.pointer (some ⟨g, 4, none⟩)),
   IsV (.int .i64 1),
   IsV (.pointer (some ⟨g, 2, none⟩)),
   IsV (.int .i64 0),
   (TmN),
   (PtV),
   IsV (.pointer (some ⟨g, 1, none⟩)),
   IsV (.int .i64 1),
   (PtV),
   (ChB conn),
   (ChP B0 conn),
   (ChP B0 conn)]
def sc_r3_0_D : List (List Nat) := [[], [], [1], [], [3], [], [5], [], [7], [4, 6, 8], [2, 9], [], [11], [12], [0, 10, 13], [14], [15]]

set_option maxHeartbeats 4000000 in
theorem rchnew_any (w : World) (M : Nat) (h1 : 1 ≤ M) (h2 : M ≤ 16) (conn : Int) (hc : 1 ≤ conn ∧ conn ≤ 2147483648) : Calls Try.prog 15 #[.agg #[.int .i64 (M : Int), .int .i64 1, .int .i64 0, .int .i64 1, .int .i64 1, .int .i64 1], .int .i64 conn] w fun e w' => ∃ cb r1 r2 r3, e = .returned (.pointer (some ⟨cb, 0, none⟩)) ∧ Blk w' cb 59 [.int .i64 conn, r1, r2, r3] ∧ w.heap.size ≤ cb ∧ Mod (fun _ => False) w w' := by
  obtain ⟨g, hg⟩ : ∃ y, w.heap.size = y := ⟨_, rfl⟩
  obtain ⟨wA, hwA⟩ : ∃ y, w.alloc (.cells #[.int .i64 (M : Int), .int .i64 1, .int .i64 0, .int .i64 1, .int .i64 1, .int .i64 1] 23) = y := ⟨_, rfl⟩
  have hgA : Blk wA g 23 [.int .i64 (M : Int), .int .i64 1, .int .i64 0, .int .i64 1, .int .i64 1, .int .i64 1] := by rw [← hwA, ← hg]; exact Blk.new w 23 [.int .i64 (M : Int), .int .i64 1, .int .i64 0, .int .i64 1, .int .i64 1, .int .i64 1]
  have HMA : Hid (Mod (fun _ => False) w wA) := Lib.hid (by rw [← hwA]; exact Mod.alloc _ _ _)
  have HC := Lib.hid (ccheck_ok wA M h1 h2)
  have HMC := Lib.hid (fun W => mayconn_is W conn true (by simp; omega))
  have HGL := Lib.hid hg
  go_enter Try.func15, Try.ntmps15
  go_upto_region 1 with fail
  (try rw [hwA])
  (try rw [hg])
  have q0 := hgA.cell 0 rfl
  have q1 := hgA.cell 1 rfl
  have q2 := hgA.cell 2 rfl
  have q3 := hgA.cell 3 rfl
  have q4 := hgA.cell 4 rfl
  have q5 := hgA.cell 5 rfl
  have HGA := Lib.hid hgA
  clear hwA hg hgA
  go_wp2_with fail
  refine HC.out.mono ?_
  rintro e w1 ⟨rfl, hm⟩
  have HM1 := Lib.hid (HMA.out.of2 hm)
  have hg1 := HGA.out.keep hm (fun e => e)
  have q1 := hg1.cell 1 rfl
  have q2 := hg1.cell 2 rfl
  have q3 := hg1.cell 3 rfl
  have q4 := hg1.cell 4 rfl
  have HG1 := Lib.hid hg1
  clear hm hg1 HMA HGA HC
  go_wp2_with fail
  refine (HMC.out _).mono ?_
  rintro e w' ⟨rfl, rfl⟩
  go_wp2_with fail
  clear q1 q2 q3 q4
  have HS : Hid (Ev (Mod (fun _ => False) w1) w1) := Lib.hid (Ev.mod w1)
  replace HS := Lib.hid ((Ev.blk HG1.out).and HS.out)
  have hbg := (HS.out.now).1
  have qg_0 := hbg.cell 0 rfl
  have qg_1 := hbg.cell 1 rfl
  have qg_2 := hbg.cell 2 rfl
  have qg_3 := hbg.cell 3 rfl
  have qg_4 := hbg.cell 4 rfl
  have qg_5 := hbg.cell 5 rfl
  have lg := hbg.lt
  clear hbg
  obtain ⟨B0, hB0⟩ : ∃ n, w1.heap.size = n := ⟨_, rfl⟩
  have HB0 := Lib.hid hB0
  clear hB0
  have HOLD : Hid (∀ W, Mod (fun k => B0 ≤ k) (World.drew w1) W → Mod (fun _ => False) (World.drew w1) W) := Lib.hid fun W h => h.mono (fun i hi e => by have := HB0.out; simp at hi; omega)
  clear qg_0 qg_1 qg_2 qg_3 qg_4 qg_5 lg
  have HSd := Lib.hid HS.out.drew
  refine wp_region_inv3 (act := ?actsc_r3_0) (Mod (fun _ => False)) (fun i => (sc_r3_0_F g B0 conn).getD i (fun _ _ => True)) (fun i => sc_r3_0_D.getD i []) (by kernel_rfl) (by kernel_rfl) (by kernel_rfl) (by kernel_rfl) (fun _ => Mod.refl _ _)
    (fun _ _ _ h k => h.trans k (fun _ _ e => e) (fun _ _ e => e)) ?hactsc_r3_0 (stable_list ?_) ?_ ?_
  case hactsc_r3_0 => intro vs; simp only [putAll, Nat.zero_add, Nat.reduceAdd, Act.put, List.setIfInBounds_toArray, List.set_cons_succ, List.set_cons_zero]; exact rfl
  · unfold sc_r3_0_F
    exact stable_cons (stable_val _) <| stable_cons (stable_val _) <| stable_cons (stable_val _) <| stable_cons (stable_val _) <| stable_cons (stable_val _) <| stable_cons (stable_val _) <| stable_cons (stable_val _) <| stable_cons (stable_val _) <| stable_cons (stable_val _) <| stable_cons (TmN.st) <| stable_cons (PtV.st) <| stable_cons (stable_val _) <| stable_cons (stable_val _) <| stable_cons (PtV.st) <| stable_cons (ChB.st _) <| stable_cons (ChP.st _ _) <| stable_cons (ChP.st _ _) <| stable_nil
  · refine opsOkA_cons ?_ ?_
    · intro K vs W hR hD hK
      clear hD
      try dsimp only at hK ⊢
      simp only [Act.put, List.setIfInBounds_toArray, List.set_cons_succ, List.set_cons_zero] at hK
      go_wp2
      exact hK _ _ rfl (Mod.refl _ _)
    refine opsOkA_cons ?_ ?_
    · intro K vs W hR hD hK
      clear hD
      try dsimp only at hK ⊢
      simp only [Act.put, List.setIfInBounds_toArray, List.set_cons_succ, List.set_cons_zero] at hK
      go_wp2
      exact hK _ _ rfl (Mod.refl _ _)
    refine opsOkA_cons ?_ ?_
    · intro K vs W hR hD hK
      have dq1 : vs 1 = .pointer (some ⟨g, 1, none⟩) := hD 1 (by decide)
      clear hD
      try dsimp only at hK ⊢
      simp only [Act.put, List.setIfInBounds_toArray, List.set_cons_succ, List.set_cons_zero] at hK
      generalize vs 1 = vq1 at hK dq1 ⊢
      subst vq1
      have q0 := ((HSd.out.at (hR)).1).cell 1 rfl
      go_wp2
      exact hK _ _ rfl (Mod.refl _ _)
    refine opsOkA_cons ?_ ?_
    · intro K vs W hR hD hK
      clear hD
      try dsimp only at hK ⊢
      simp only [Act.put, List.setIfInBounds_toArray, List.set_cons_succ, List.set_cons_zero] at hK
      go_wp2
      exact hK _ _ rfl (Mod.refl _ _)
    refine opsOkA_cons ?_ ?_
    · intro K vs W hR hD hK
      have dq3 : vs 3 = .pointer (some ⟨g, 3, none⟩) := hD 3 (by decide)
      clear hD
      try dsimp only at hK ⊢
      simp only [Act.put, List.setIfInBounds_toArray, List.set_cons_succ, List.set_cons_zero] at hK
      generalize vs 3 = vq3 at hK dq3 ⊢
      subst vq3
      have q0 := ((HSd.out.at (hR)).1).cell 3 rfl
      go_wp2
      exact hK _ _ rfl (Mod.refl _ _)
    refine opsOkA_cons ?_ ?_
    · intro K vs W hR hD hK
      clear hD
      try dsimp only at hK ⊢
      simp only [Act.put, List.setIfInBounds_toArray, List.set_cons_succ, List.set_cons_zero] at hK
      go_wp2
      exact hK _ _ rfl (Mod.refl _ _)
    refine opsOkA_cons ?_ ?_
    · intro K vs W hR hD hK
      have dq5 : vs 5 = .pointer (some ⟨g, 4, none⟩) := hD 5 (by decide)
      clear hD
      try dsimp only at hK ⊢
      simp only [Act.put, List.setIfInBounds_toArray, List.set_cons_succ, List.set_cons_zero] at hK
      generalize vs 5 = vq5 at hK dq5 ⊢
      subst vq5
      have q0 := ((HSd.out.at (hR)).1).cell 4 rfl
      go_wp2
      exact hK _ _ rfl (Mod.refl _ _)
    refine opsOkA_cons ?_ ?_
    · intro K vs W hR hD hK
      clear hD
      try dsimp only at hK ⊢
      simp only [Act.put, List.setIfInBounds_toArray, List.set_cons_succ, List.set_cons_zero] at hK
      go_wp2
      exact hK _ _ rfl (Mod.refl _ _)
    refine opsOkA_cons ?_ ?_
    · intro K vs W hR hD hK
      have dq7 : vs 7 = .pointer (some ⟨g, 2, none⟩) := hD 7 (by decide)
      clear hD
      try dsimp only at hK ⊢
      simp only [Act.put, List.setIfInBounds_toArray, List.set_cons_succ, List.set_cons_zero] at hK
      generalize vs 7 = vq7 at hK dq7 ⊢
      subst vq7
      have q0 := ((HSd.out.at (hR)).1).cell 2 rfl
      go_wp2
      exact hK _ _ rfl (Mod.refl _ _)
    refine opsOkA_cons ?_ ?_
    · intro K vs W hR hD hK
      have dq4 : vs 4 = .int .i64 1 := hD 4 (by decide)
      have dq6 : vs 6 = .int .i64 1 := hD 6 (by decide)
      have dq8 : vs 8 = .int .i64 0 := hD 8 (by decide)
      clear hD
      try dsimp only at hK ⊢
      simp only [Act.put, List.setIfInBounds_toArray, List.set_cons_succ, List.set_cons_zero] at hK
      generalize vs 4 = vq4 at hK dq4 ⊢
      subst vq4
      generalize vs 6 = vq6 at hK dq6 ⊢
      subst vq6
      generalize vs 8 = vq8 at hK dq8 ⊢
      subst vq8
      go_wp2_with (go_at_call 54; refine (rtnew1 W).mono ?_; rintro e' w' ⟨v', rfl, hx', hm'⟩)
      exact hK _ _ hx' hm'
    refine opsOkA_cons ?_ ?_
    · intro K vs W hR hD hK
      have dq2 : vs 2 = .int .i64 1 := hD 2 (by decide)
      have dq9 : (TmN) (vs 9) W := hD 9 (by decide)
      clear hD
      try dsimp only at hK ⊢
      simp only [Act.put, List.setIfInBounds_toArray, List.set_cons_succ, List.set_cons_zero] at hK
      generalize vs 2 = vq2 at hK dq2 ⊢
      subst vq2
      generalize vs 9 = vq9 at hK dq9 ⊢
      obtain ⟨tq9, rfl, ht9⟩ := dq9
      go_wp2_with (go_at_call 53; refine (rsnew1 W tq9 ht9).mono ?_; rintro e' w' ⟨v', rfl, hx', hm'⟩)
      exact hK _ _ hx' hm'
    refine opsOkA_cons ?_ ?_
    · intro K vs W hR hD hK
      clear hD
      try dsimp only at hK ⊢
      simp only [Act.put, List.setIfInBounds_toArray, List.set_cons_succ, List.set_cons_zero] at hK
      go_wp2
      exact hK _ _ rfl (Mod.refl _ _)
    refine opsOkA_cons ?_ ?_
    · intro K vs W hR hD hK
      have dq11 : vs 11 = .pointer (some ⟨g, 1, none⟩) := hD 11 (by decide)
      clear hD
      try dsimp only at hK ⊢
      simp only [Act.put, List.setIfInBounds_toArray, List.set_cons_succ, List.set_cons_zero] at hK
      generalize vs 11 = vq11 at hK dq11 ⊢
      subst vq11
      have q0 := ((HSd.out.at (hR)).1).cell 1 rfl
      go_wp2
      exact hK _ _ rfl (Mod.refl _ _)
    refine opsOkA_cons ?_ ?_
    · intro K vs W hR hD hK
      have dq12 : vs 12 = .int .i64 1 := hD 12 (by decide)
      clear hD
      try dsimp only at hK ⊢
      simp only [Act.put, List.setIfInBounds_toArray, List.set_cons_succ, List.set_cons_zero] at hK
      generalize vs 12 = vq12 at hK dq12 ⊢
      subst vq12
      go_wp2_with (go_at_call 55; refine (rtk1 W).mono ?_; rintro e' w' ⟨v', rfl, hx', hm'⟩)
      exact hK _ _ hx' hm'
    refine opsOkA_cons ?_ ?_
    · intro K vs W hR hD hK
      have dq0 : vs 0 = .int .i64 conn := hD 0 (by decide)
      have dq10 : (PtV) (vs 10) W := hD 10 (by decide)
      have dq13 : (PtV) (vs 13) W := hD 13 (by decide)
      clear hD
      try dsimp only at hK ⊢
      simp only [Act.put, List.setIfInBounds_toArray, List.set_cons_succ, List.set_cons_zero] at hK
      generalize vs 0 = vq0 at hK dq0 ⊢
      subst vq0
      generalize vs 10 = vq10 at hK dq10 ⊢
      generalize vs 13 = vq13 at hK dq13 ⊢
      obtain ⟨px10, rfl⟩ := dq10
      obtain ⟨px13, rfl⟩ := dq13
      go_wp2
      exact hK _ _ ⟨_, _, rfl⟩ (Mod.refl _ _)
    refine opsOkA_cons ?_ ?_
    · intro K vs W hR hD hK
      have dq14 : (ChB conn) (vs 14) W := hD 14 (by decide)
      clear hD
      try dsimp only at hK ⊢
      simp only [Act.put, List.setIfInBounds_toArray, List.set_cons_succ, List.set_cons_zero] at hK
      generalize vs 14 = vq14 at hK dq14 ⊢
      obtain ⟨ra14, rb14, rfl⟩ := dq14
      have hz : B0 ≤ W.heap.size := by have h1 := ((HSd.out.at (hR)).2).size; have h2 := HB0.out; omega
      go_wp2
      exact hK _ _ ⟨W.heap.size, _, _, rfl, Blk.new W 59 [.int .i64 conn, ra14, rb14, .slice none 0 0], hz⟩ (Mod.alloc _ _ _)
    refine opsOkA_cons ?_ ?_
    · intro K vs W hR hD hK
      have dq15 : (ChP B0 conn) (vs 15) W := hD 15 (by decide)
      clear hD
      try dsimp only at hK ⊢
      simp only [Act.put, List.setIfInBounds_toArray, List.set_cons_succ, List.set_cons_zero] at hK
      generalize vs 15 = vq15 at hK dq15 ⊢
      go_wp2
      exact hK _ _ dq15 (Mod.refl _ _)
    exact opsOkA_nil
  · intro vs wq1 hR hF
    have dq16 : (ChP B0 conn) (vs 16) wq1 := hF 16 (by decide)
    clear hF
    try dsimp only
    generalize vs 16 = vq16 at dq16 ⊢
    replace HS := Lib.hid (HSd.out.step hR)
    clear HSd hR
    have hbg := (HS.out.now).1
    have qg_0 := hbg.cell 0 rfl
    have qg_1 := hbg.cell 1 rfl
    have qg_2 := hbg.cell 2 rfl
    have qg_3 := hbg.cell 3 rfl
    have qg_4 := hbg.cell 4 rfl
    have qg_5 := hbg.cell 5 rfl
    have lg := hbg.lt
    clear hbg
    obtain ⟨cb, r1, r2, rfl, hcb, hlo⟩ := dq16
    have HCB := Lib.hid hcb
    clear hcb
    go_wp2_with fail
    go_ret
    exact ⟨cb, r1, r2, _, rfl, HCB.out, by have h1 := HB0.out; have h2 := HM1.out.size; omega, HM1.out.of2 (HS.out.now).2⟩
/-- An entry is put there. -/
theorem svput_any (w : World) (q M : Nat) (a : Option Addr) (n c : Nat) (gr : Nat → Int) (L : List SE) (es : Nat → TbE) (h : SV w q M a n c gr L) (hL : SvR es gr L) (hn16 : n ≤ 16) (ip : Nat) (hi : ip < 16) (conn : Int) (hc : 1 ≤ conn ∧ conn ≤ 2147483648) (y : Nat × Value) :
    Calls Try.prog 36 #[.pointer (some ⟨q, 0, none⟩), .int .i64 (ip : Int), .int .i64 conn] w fun e w' => e = .returned (.tuple #[]) ∧ ∃ a' n' c' L', SV w' q M a' n' c' (updT gr ip conn) L' ∧ SvR (updT es ip (some y)) (updT gr ip conn) L' ∧ Mod (fun k => k = q) w w' := by
  have HT := Lib.hid h
  have HL := Lib.hid hL
  have hm1 := h.m1
  have hm16 := h.m16
  have cm : w.cell? ⟨q, 3, none⟩ = some (.int .i64 (M : Int)) := h.cellM
  have cells : w.cell? ⟨q, 4, none⟩ = some (.int .i64 1) ∧ w.cell? ⟨q, 5, none⟩ = some (.int .i64 0) ∧ w.cell? ⟨q, 6, none⟩ = some (.int .i64 1) ∧ w.cell? ⟨q, 7, none⟩ = some (.int .i64 1) ∧ w.cell? ⟨q, 8, none⟩ = some (.int .i64 1) := by
    obtain ⟨g1, g2, g3, xv, hb⟩ := h.blk
    exact ⟨hb.cell 4 rfl, hb.cell 5 rfl, hb.cell 6 rfl, hb.cell 7 rfl, hb.cell 8 rfl⟩
  obtain ⟨c4, c5, c6, c7, c8⟩ := cells
  have HC := Lib.hid (rchnew_any w M hm1 hm16 conn hc)
  clear h hL hc
  go_enter Try.func36, Try.ntmps36
  go_wp2_with fail
  refine HC.out.mono ?_
  rintro e w1 ⟨cb, r1, r2, r3, rfl, hcb, hlo, hm⟩
  have HM := Lib.hid hm
  have hT1 := HT.out.later hm
  have ha : Mod (fun _ => False) w1 (w1.alloc (.cells #[.int .i64 (ip : Int), .pointer (some ⟨cb, 0, none⟩), .pointer none, .int .i64 0, .bool false] 156)) := Mod.alloc _ _ _
  have hql := HT.out.lt
  have hse : SEin (w1.alloc (.cells #[.int .i64 (ip : Int), .pointer (some ⟨cb, 0, none⟩), .pointer none, .int .i64 0, .bool false] 156)) q ⟨ip, conn, w1.heap.size, cb, r1, r2, r3⟩ :=
    ⟨Blk.new w1 156 [.int .i64 (ip : Int), .pointer (some ⟨cb, 0, none⟩), .pointer none, .int .i64 0, .bool false], hcb.keep ha (fun e => e), by have := hm.size; show w1.heap.size ≠ q; omega, by show cb ≠ q; omega⟩
  have HA := Lib.hid (svadd_any _ q M a n c gr L es (hT1.later ha) HL.out hn16 ⟨ip, conn, w1.heap.size, cb, r1, r2, r3⟩ hse hi y)
  have HAL := Lib.hid ha
  clear hm hT1 ha hse hcb hlo HC cm c4 c5 c6 c7 c8
  go_wp2_with fail
  refine HA.out.mono ?_
  rintro e w2 ⟨rfl, a', n', c', L', hs, hr, hm⟩
  have HS := Lib.hid hs
  have HR := Lib.hid hr
  have HM2 := Lib.hid ((HM.out.of2 HAL.out).trans hm (H := fun k => k = q) (fun _ _ e => e.elim) (fun _ _ e => e))
  clear hs hr hm HA
  go_wp2_with fail
  go_end0
  exact ⟨rfl, a', n', c', L', HS.out, HR.out, HM2.out⟩

end Go.Proofs.Ytfdmjnhhgcidbaa
namespace Go.Proofs.Ytfdmjnhhgcidbaa
open Go.RowKit Mile
set_option maxRecDepth 100000
theorem Sv.infoN : (Try.prog.info? 80).map (fun i => (i.zero, i.size, i.bytes)) = some (some (.agg #[.int .i64 0, .int .i64 0]), 2, 16) := by kernel_rfl
theorem Sv.infoI : (Try.prog.info? 3).map (fun i => (i.zero, i.size, i.bytes)) = some (some (.int .i64 0), 1, 8) := by kernel_rfl
theorem rshuts0 (w : World) : Calls Try.prog 72 #[.int .i64 0] w fun e w' => ∃ v, e = .returned v ∧ PtV v w' ∧ Mod (fun _ => False) w w' := by
  obtain ⟨iI, hiI, hzI, hsI, hbI⟩ := info_parts Sv.infoI
  have hmk : ∀ wx, (Instr.makeSlice 70 (.int .i64 0) (.int .i64 0)).run Try.prog wx = .ok (.slice (some ⟨wx.heap.size, 0, none⟩) 0 0) (wx.alloc (.cells (zrow (.int .i64 0) 0) 3)) := run_makeS (P := Try.prog) 70 3 iI (.int .i64 0) Try.underlying70 hiI hzI rfl hsI 0 (by rw [hbI]; omega) (by omega)
  go_enter Try.func72, Try.ntmps72
  go_wp2_with fail
  refine (r4within_yes _ _ _ _ (by decide)).mono ?_
  rintro e w' ⟨rfl, rfl⟩
  go_wp2_with fail
  go_ret
  have hA : Mod (fun _ => False) w (World.alloc w (.cells (zrow (.int .i64 0) 0) 3)) := Mod.alloc _ _ _
  exact ⟨_, rfl, ⟨_, rfl⟩, hA.thenAlloc _⟩
set_option maxHeartbeats 4000000 in
theorem mayone (w : World) (nb : Nat) (c0 : w.cell? ⟨nb, 0, none⟩ = some (.int .i64 0)) (c1 : w.cell? ⟨nb, 1, none⟩ = some (.int .i64 0)) :
    Calls Try.prog 71 #[.agg #[.slice (some ⟨nb, 0, none⟩) 1 1, .slice none 0 0, .slice none 0 0]] w fun e w' => e = .returned (.bool true) ∧ Mod (fun _ => False) w w' := by
  obtain ⟨iN, hiN, hzN, hsN, hbN⟩ := info_parts Sv.infoN
  obtain ⟨g, hg⟩ : ∃ y, w.heap.size = y := ⟨_, rfl⟩
  obtain ⟨wA, hwA⟩ : ∃ y, w.alloc (.cells #[.slice (some ⟨nb, 0, none⟩) 1 1, .slice none 0 0, .slice none 0 0] 85) = y := ⟨_, rfl⟩
  have hgA : Blk wA g 85 [.slice (some ⟨nb, 0, none⟩) 1 1, .slice none 0 0, .slice none 0 0] := by rw [← hwA, ← hg]; exact Blk.new w 85 [.slice (some ⟨nb, 0, none⟩) 1 1, .slice none 0 0, .slice none 0 0]
  have hmA : Mod (fun _ => False) w wA := by rw [← hwA]; exact Mod.alloc _ _ _
  have d0 := hmA.cell c0 (fun e => e)
  have d1 := hmA.cell c1 (fun e => e)
  have HMA := Lib.hid hmA
  have hix := fun wx => run_indexS (P := Try.prog) wx 81 80 iN 2 Try.underlying81 hiN hsN (some ⟨nb, 0, none⟩) 1 1 0 (by omega) (by simp)
  replace hix : ∀ wx, (Instr.indexAt 81 (.slice (some ⟨nb, 0, none⟩) 1 1) (.int .i64 0)).run Try.prog wx = .ok (.pointer (some ⟨nb, 0, none⟩)) wx := hix
  clear c0 c1 hmA
  go_enter Try.func71, Try.ntmps71
  go_upto_region 1 with fail
  (try rw [hwA])
  (try rw [hg])
  have q0 := hgA.cell 0 rfl
  have q1 := hgA.cell 1 rfl
  have q2 := hgA.cell 2 rfl
  clear hwA hg hgA
  go_wp2_with fail
  refine (r1within_is _ _ _ _ true (by decide)).mono ?_
  rintro e w' ⟨rfl, rfl⟩
  go_wp2_with fail
  go_loopw [3] (fun i wr => ∃ j : Nat, j ≤ 1 ∧ i = .int .i64 j ∧ wA = wr) (fun i _ => 1 - (intOf i).toNat)
  case atStart => exact ⟨0, by omega, rfl, rfl⟩
  case round =>
    obtain ⟨j, hj, rfl, rfl⟩ := hrel
    by_cases hj0 : j = 0
    case pos =>
      subst hj0
      go_wp2_with fail
      refine (r1within_is _ _ _ _ true (by decide)).mono ?_
      rintro e w' ⟨rfl, rfl⟩
      go_wp2_with fail
      refine (r1within_is _ _ _ _ true (by decide)).mono ?_
      rintro e w' ⟨rfl, rfl⟩
      go_wp2_with fail
      go_roundw
      case rel => exact ⟨1, by omega, by go_num, by first | trivial | rfl⟩
      case measure => simp [intOf]
    case neg =>
      obtain rfl : j = 1 := by omega
      go_wp2_with fail
      go_loopw [4] (fun i wr => i = .int .i64 0 ∧ wA = wr) (fun _ _ => 0)
      case atStart => exact ⟨rfl, rfl⟩
      case round =>
        obtain ⟨rfl, rfl⟩ := hrel
        go_wp2_with fail
        go_loopw [6] (fun i wr => i = .int .i64 0 ∧ wA = wr) (fun _ _ => 0)
        case atStart => exact ⟨rfl, rfl⟩
        case round =>
          obtain ⟨rfl, rfl⟩ := hrel
          go_wp2_with fail
          go_ret
          exact ⟨rfl, HMA.out⟩
end Go.Proofs.Ytfdmjnhhgcidbaa
namespace Go.Proofs.Ytfdmjnhhgcidbaa
open Go.RowKit Mile
set_option maxRecDepth 100000
abbrev svNew (M nb : Nat) (xv : Value) : List Value := svC (.slice (some ⟨nb, 0, none⟩) 1 1) (.slice none 0 0) (.slice none 0 0) xv M (.slice none 0 0) fun _ => 0
abbrev svVal (M nb : Nat) (xv : Value) : Value := .agg (svNew M nb xv).toArray
def SvB (M nb : Nat) : Value → World → Prop := fun v _ => ∃ xv, v = svVal M nb xv
theorem SvB.st (M nb : Nat) : Stable (Mod (fun _ => False)) (SvB M nb) := fun _ _ _ h _ => h
def SvP (B0 M nb : Nat) : Value → World → Prop := fun v W => ∃ b xv, v = .pointer (some ⟨b, 0, none⟩) ∧ Blk W b 106 (svNew M nb xv) ∧ B0 ≤ b
theorem SvP.st (B0 M nb : Nat) : Stable (Mod (fun _ => False)) (SvP B0 M nb) := fun _ _ _ ⟨b, xv, h, hb, hl⟩ m => ⟨b, xv, h, hb.keep m (fun e => e), hl⟩
/-- What each operation of the statement leaves. -/
def sn_r3_0_F (g : Nat) (M : Nat) (B0 : Nat) (nb : Nat) : List (Value → World → Prop) :=
  [IsV (.agg #[.slice (some ⟨nb, 0, none⟩) 1 1, .slice none 0 0, .slice none 0 0]),
   IsV (.agg #[.int .i64 (M : Int), .int .i64 1, .int .i64 0, .int .i64 1, .int .i64 1, .int .i64 1]),
   IsV (.pointer (some ⟨g, 1, none⟩)),
   IsV (.slice none 0 0),
   IsV (.int .i64 0),
   (PtV),
   (SvB M nb),
   (SvP B0 M nb),
   (SvP B0 M nb)]
def sn_r3_0_D : List (List Nat) := [[], [], [], [2], [3], [4], [0, 1, 5], [6], [7]]

set_option maxHeartbeats 4000000 in
theorem svnew_any (w : World) (nb M : Nat) (h1 : 1 ≤ M) (h2 : M ≤ 16) (c0 : w.cell? ⟨nb, 0, none⟩ = some (.int .i64 0)) (c1 : w.cell? ⟨nb, 1, none⟩ = some (.int .i64 0)) :
    Calls Try.prog 31 #[.agg #[.slice (some ⟨nb, 0, none⟩) 1 1, .slice none 0 0, .slice none 0 0], .agg #[.int .i64 (M : Int), .int .i64 1, .int .i64 0, .int .i64 1, .int .i64 1, .int .i64 1]] w fun e w' => ∃ q, e = .returned (.pointer (some ⟨q, 0, none⟩)) ∧ SV w' q M none 0 0 (fun _ => 0) [] ∧ w.heap.size ≤ q ∧ Mod (fun _ => False) w w' := by
  obtain ⟨g, hg⟩ : ∃ y, w.heap.size = y := ⟨_, rfl⟩
  obtain ⟨wA, hwA⟩ : ∃ y, w.alloc (.cells #[.slice (some ⟨nb, 0, none⟩) 1 1, .slice none 0 0, .slice none 0 0] 85) = y := ⟨_, rfl⟩
  have hgA : Blk wA g 85 [.slice (some ⟨nb, 0, none⟩) 1 1, .slice none 0 0, .slice none 0 0] := by rw [← hwA, ← hg]; exact Blk.new w 85 [.slice (some ⟨nb, 0, none⟩) 1 1, .slice none 0 0, .slice none 0 0]
  have hmA : Mod (fun _ => False) w wA := by rw [← hwA]; exact Mod.alloc _ _ _
  obtain ⟨g2, hg2⟩ : ∃ y, wA.heap.size = y := ⟨_, rfl⟩
  obtain ⟨wB, hwB⟩ : ∃ y, wA.alloc (.cells #[.int .i64 (M : Int), .int .i64 1, .int .i64 0, .int .i64 1, .int .i64 1, .int .i64 1] 23) = y := ⟨_, rfl⟩
  have hgB : Blk wB g2 23 [.int .i64 (M : Int), .int .i64 1, .int .i64 0, .int .i64 1, .int .i64 1, .int .i64 1] := by rw [← hwB, ← hg2]; exact Blk.new wA 23 [.int .i64 (M : Int), .int .i64 1, .int .i64 0, .int .i64 1, .int .i64 1, .int .i64 1]
  have hmB : Mod (fun _ => False) wA wB := by rw [← hwB]; exact Mod.alloc _ _ _
  have hgA2 := hgA.keep hmB (fun e => e)
  have hMB := hmA.of2 hmB
  have HC := Lib.hid (mayone wB nb (hMB.cell c0 (fun e => e)) (hMB.cell c1 (fun e => e)))
  have HGL := Lib.hid hg
  have HMB := Lib.hid hMB
  have hsz : g2 = g + 1 := by rw [← hg2, ← hwA, ← hg]; exact heap_size_alloc _ _
  have HSZ := Lib.hid hsz
  clear c0 c1 hmA hmB hMB
  go_enter Try.func31, Try.ntmps31
  go_upto_region 1 with fail
  (try rw [hwA])
  (try rw [hg])
  (try rw [hwB])
  (try rw [← hsz])
  have q0 := hgA2.cell 0 rfl
  have q1 := hgA2.cell 1 rfl
  have q2 := hgA2.cell 2 rfl
  have p0 := hgB.cell 0 rfl
  have p1 := hgB.cell 1 rfl
  have p2 := hgB.cell 2 rfl
  have p3 := hgB.cell 3 rfl
  have p4 := hgB.cell 4 rfl
  have p5 := hgB.cell 5 rfl
  have HGA := Lib.hid hgA2
  have HGB := Lib.hid hgB
  clear hwA hg hgA hgA2 hg2 hwB hgB hsz
  go_wp2_with fail
  refine HC.out.mono ?_
  rintro e w1 ⟨rfl, hm⟩
  have HM1 := Lib.hid (HMB.out.of2 hm)
  have hA := HGA.out.keep hm (fun e => e)
  have hB := HGB.out.keep hm (fun e => e)
  have p0 := hB.cell 0 rfl
  have p1 := hB.cell 1 rfl
  have p2 := hB.cell 2 rfl
  have p3 := hB.cell 3 rfl
  have p4 := hB.cell 4 rfl
  have p5 := hB.cell 5 rfl
  have HGA1 := Lib.hid hA
  have HGB1 := Lib.hid hB
  clear hm hA hB HMB HGA HGB HC
  go_wp2_with fail
  refine (ccheck_ok w1 M h1 h2).mono ?_
  rintro e w2 ⟨rfl, hm⟩
  have HM2 := Lib.hid (HM1.out.of2 hm)
  have HGA2 := Lib.hid (HGA1.out.keep hm (fun e => e))
  have HGB2 := Lib.hid (HGB1.out.keep hm (fun e => e))
  clear hm HM1 HGA1 HGB1 p0 p1 p2 p3 p4 p5 q0 q1 q2
  have HS : Hid (Ev (Mod (fun _ => False) w2) w2) := Lib.hid (Ev.mod w2)
  replace HS := Lib.hid ((Ev.blk HGA2.out).and HS.out)
  replace HS := Lib.hid ((Ev.blk HGB2.out).and HS.out)
  have hbg := (HS.out.now).2.1
  have qg_0 := hbg.cell 0 rfl
  have qg_1 := hbg.cell 1 rfl
  have qg_2 := hbg.cell 2 rfl
  have lg := hbg.lt
  clear hbg
  have hbg2 := (HS.out.now).1
  have qg2_0 := hbg2.cell 0 rfl
  have qg2_1 := hbg2.cell 1 rfl
  have qg2_2 := hbg2.cell 2 rfl
  have qg2_3 := hbg2.cell 3 rfl
  have qg2_4 := hbg2.cell 4 rfl
  have qg2_5 := hbg2.cell 5 rfl
  have lg2 := hbg2.lt
  clear hbg2
  obtain ⟨B0, hB0⟩ : ∃ n, w2.heap.size = n := ⟨_, rfl⟩
  have HB0 := Lib.hid hB0
  clear hB0
  have HOLD : Hid (∀ W, Mod (fun k => B0 ≤ k) (World.drew w2) W → Mod (fun _ => False) (World.drew w2) W) := Lib.hid fun W h => h.mono (fun i hi e => by have := HB0.out; simp at hi; omega)
  go_upto_region 3 with fail
  clear qg_0 qg_1 qg_2 lg qg2_0 qg2_1 qg2_2 qg2_3 qg2_4 qg2_5 lg2
  have HSd := Lib.hid HS.out.drew
  refine wp_region_inv3 (act := ?actsn_r3_0) (Mod (fun _ => False)) (fun i => (sn_r3_0_F g M B0 nb).getD i (fun _ _ => True)) (fun i => sn_r3_0_D.getD i []) (by kernel_rfl) (by kernel_rfl) (by kernel_rfl) (by kernel_rfl) (fun _ => Mod.refl _ _)
    (fun _ _ _ h k => h.trans k (fun _ _ e => e) (fun _ _ e => e)) ?hactsn_r3_0 (stable_list ?_) ?_ ?_
  case hactsn_r3_0 => intro vs; simp only [putAll, Nat.zero_add, Nat.reduceAdd, Act.put, List.setIfInBounds_toArray, List.set_cons_succ, List.set_cons_zero]; exact rfl
  · unfold sn_r3_0_F
    exact stable_cons (stable_val _) <| stable_cons (stable_val _) <| stable_cons (stable_val _) <| stable_cons (stable_val _) <| stable_cons (stable_val _) <| stable_cons (PtV.st) <| stable_cons (SvB.st _ _) <| stable_cons (SvP.st _ _ _) <| stable_cons (SvP.st _ _ _) <| stable_nil
  · refine opsOkA_cons ?_ ?_
    · intro K vs W hR hD hK
      clear hD
      try dsimp only at hK ⊢
      simp only [Act.put, List.setIfInBounds_toArray, List.set_cons_succ, List.set_cons_zero] at hK
      have hbx := (HSd.out.at (hR)).2.1
      have z0 := hbx.cell 0 rfl
      have z1 := hbx.cell 1 rfl
      have z2 := hbx.cell 2 rfl
      go_wp2
      exact hK _ _ rfl (Mod.refl _ _)
    refine opsOkA_cons ?_ ?_
    · intro K vs W hR hD hK
      clear hD
      try dsimp only at hK ⊢
      simp only [Act.put, List.setIfInBounds_toArray, List.set_cons_succ, List.set_cons_zero] at hK
      have hbx := (HSd.out.at (hR)).1
      have z0 := hbx.cell 0 rfl
      have z1 := hbx.cell 1 rfl
      have z2 := hbx.cell 2 rfl
      have z3 := hbx.cell 3 rfl
      have z4 := hbx.cell 4 rfl
      have z5 := hbx.cell 5 rfl
      go_wp2
      exact hK _ _ rfl (Mod.refl _ _)
    refine opsOkA_cons ?_ ?_
    · intro K vs W hR hD hK
      clear hD
      try dsimp only at hK ⊢
      simp only [Act.put, List.setIfInBounds_toArray, List.set_cons_succ, List.set_cons_zero] at hK
      go_wp2
      exact hK _ _ rfl (Mod.refl _ _)
    refine opsOkA_cons ?_ ?_
    · intro K vs W hR hD hK
      have dq2 : vs 2 = .pointer (some ⟨g, 1, none⟩) := hD 2 (by decide)
      clear hD
      try dsimp only at hK ⊢
      simp only [Act.put, List.setIfInBounds_toArray, List.set_cons_succ, List.set_cons_zero] at hK
      generalize vs 2 = vq2 at hK dq2 ⊢
      subst vq2
      have q0 := ((HSd.out.at (hR)).2.1).cell 1 rfl
      go_wp2
      exact hK _ _ rfl (Mod.refl _ _)
    refine opsOkA_cons ?_ ?_
    · intro K vs W hR hD hK
      have dq3 : vs 3 = .slice none 0 0 := hD 3 (by decide)
      clear hD
      try dsimp only at hK ⊢
      simp only [Act.put, List.setIfInBounds_toArray, List.set_cons_succ, List.set_cons_zero] at hK
      generalize vs 3 = vq3 at hK dq3 ⊢
      subst vq3
      go_wp2_with fail
      exact hK _ _ rfl (Mod.refl _ _)
    refine opsOkA_cons ?_ ?_
    · intro K vs W hR hD hK
      have dq4 : vs 4 = .int .i64 0 := hD 4 (by decide)
      clear hD
      try dsimp only at hK ⊢
      simp only [Act.put, List.setIfInBounds_toArray, List.set_cons_succ, List.set_cons_zero] at hK
      generalize vs 4 = vq4 at hK dq4 ⊢
      subst vq4
      go_wp2_with (go_at_call 72; refine (rshuts0 W).mono ?_; rintro e' w' ⟨v', rfl, hx', hm'⟩)
      exact hK _ _ hx' hm'
    refine opsOkA_cons ?_ ?_
    · intro K vs W hR hD hK
      have dq0 : vs 0 = .agg #[.slice (some ⟨nb, 0, none⟩) 1 1, .slice none 0 0, .slice none 0 0] := hD 0 (by decide)
      have dq1 : vs 1 = .agg #[.int .i64 (M : Int), .int .i64 1, .int .i64 0, .int .i64 1, .int .i64 1, .int .i64 1] := hD 1 (by decide)
      have dq5 : (PtV) (vs 5) W := hD 5 (by decide)
      clear hD
      try dsimp only at hK ⊢
      simp only [Act.put, List.setIfInBounds_toArray, List.set_cons_succ, List.set_cons_zero] at hK
      generalize vs 0 = vq0 at hK dq0 ⊢
      subst vq0
      generalize vs 1 = vq1 at hK dq1 ⊢
      subst vq1
      generalize vs 5 = vq5 at hK dq5 ⊢
      obtain ⟨px5, rfl⟩ := dq5
      go_wp2
      exact hK _ _ ⟨_, rfl⟩ (Mod.refl _ _)
    refine opsOkA_cons ?_ ?_
    · intro K vs W hR hD hK
      have dq6 : (SvB M nb) (vs 6) W := hD 6 (by decide)
      clear hD
      try dsimp only at hK ⊢
      simp only [Act.put, List.setIfInBounds_toArray, List.set_cons_succ, List.set_cons_zero] at hK
      generalize vs 6 = vq6 at hK dq6 ⊢
      obtain ⟨xv6, rfl⟩ := dq6
      have hz : B0 ≤ W.heap.size := by have h1 := ((HSd.out.at (hR)).2.2).size; have h2 := HB0.out; omega
      go_wp2
      exact hK _ _ ⟨W.heap.size, xv6, rfl, Blk.new W 106 (svNew M nb xv6), hz⟩ (Mod.alloc _ _ _)
    refine opsOkA_cons ?_ ?_
    · intro K vs W hR hD hK
      have dq7 : (SvP B0 M nb) (vs 7) W := hD 7 (by decide)
      clear hD
      try dsimp only at hK ⊢
      simp only [Act.put, List.setIfInBounds_toArray, List.set_cons_succ, List.set_cons_zero] at hK
      generalize vs 7 = vq7 at hK dq7 ⊢
      go_wp2
      exact hK _ _ dq7 (Mod.refl _ _)
    exact opsOkA_nil
  · intro vs wq1 hR hF
    have dq8 : (SvP B0 M nb) (vs 8) wq1 := hF 8 (by decide)
    clear hF
    try dsimp only
    generalize vs 8 = vq8 at dq8 ⊢
    replace HS := Lib.hid (HSd.out.step hR)
    clear HSd hR
    have hbg := (HS.out.now).2.1
    have qg_0 := hbg.cell 0 rfl
    have qg_1 := hbg.cell 1 rfl
    have qg_2 := hbg.cell 2 rfl
    have lg := hbg.lt
    clear hbg
    have hbg2 := (HS.out.now).1
    have qg2_0 := hbg2.cell 0 rfl
    have qg2_1 := hbg2.cell 1 rfl
    have qg2_2 := hbg2.cell 2 rfl
    have qg2_3 := hbg2.cell 3 rfl
    have qg2_4 := hbg2.cell 4 rfl
    have qg2_5 := hbg2.cell 5 rfl
    have lg2 := hbg2.lt
    clear hbg2
    obtain ⟨q, xv, rfl, hq, hlo⟩ := dq8
    have HQ := Lib.hid hq
    clear hq
    go_wp2_with fail
    go_ret
    refine ⟨q, rfl, ⟨h1, h2, rfl, ⟨_, _, _, xv, HQ.out⟩, Rd.nil _ _, fun _ _ _ => rfl, fun x hx => by simp at hx⟩, by have h1 := HB0.out; have h2 := HM2.out.size; omega, HM2.out.of2 (HS.out.now).2.2⟩
end Go.Proofs.Ytfdmjnhhgcidbaa
