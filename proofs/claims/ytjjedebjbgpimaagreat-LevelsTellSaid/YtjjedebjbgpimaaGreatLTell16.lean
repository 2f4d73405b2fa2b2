/- LevelsTell by contract. -/
import Derived.Test.YtjjedebjbgpimaaGreatLaw16
import Derived.Test.YtjjedebjbgpimaaGreatKReg
import Derived.Deep.DeepCutAuto
import Derived.Deep.CutBlock
namespace Go.Proofs.YtjjedebjbgpimaaGreat
open Go.RowKit Mile
set_option maxRecDepth 100000
/-- What each operation of the statement leaves. -/
def lt_r7_0_F (m : Nat) (q : Nat) (L : List Ar) (ra : Option Addr) (rc : Nat) : List (Value → World → Prop) :=
  [IsV (.pointer (some ⟨q, 0, none⟩)),
   IsV (.bool false),
   IsV (.bool false),
   IsV (.pointer (some ⟨q, 0, none⟩)),
   (PtrP),
   IsV (.bool false),
   IsV (.bool false),
   IsV (.bool false),
   IsV (.pointer (some ⟨q, 0, none⟩)),
   (ArP16 (L)),
   IsV (.pointer (some ⟨m, 0, none⟩)),
   IsV (.pointer (some ⟨m, 0, none⟩)),
   IsV (.pointer (some ⟨m, 1, none⟩)),
   IsV (.slice ra L.length rc),
   IsV (.bool true),
   IsV (.bool false),
   IsV (.bool false)]
def lt_r7_0_D : List (List Nat) := [[], [0], [1], [2], [2, 3], [2, 4], [2, 5], [6], [7], [7, 8], [7], [7, 10], [7, 11], [7, 12], [7, 9, 13], [7, 14], [7, 15]]

/-- What each operation of the statement leaves. -/
def lt_r14_1_F (n : Nat) (p : Nat) (p2 : Nat) (tq : Nat) (tl : Nat) (T : List Ar) (ta : Option Addr) (tc : Nat) (od : Int) (rv : Int) : List (Value → World → Prop) :=
  [IsV (.pointer (some ⟨p, 0, none⟩)),
   IsV (.pointer (some ⟨p, 0, none⟩)),
   IsV (.pointer (some ⟨p, 0, none⟩)),
   IsV (.pointer (some ⟨tl, 0, none⟩)),
   (ArP16 (T)),
   IsV (.pointer (some ⟨p2, 0, none⟩)),
   IsV (.pointer (some ⟨p2, 0, none⟩)),
   IsV (.pointer (some ⟨p2, 0, none⟩)),
   IsV (.pointer (some ⟨tq, 0, none⟩)),
   IsV (.pointer (some ⟨tq, 0, none⟩)),
   IsV (.pointer (some ⟨tq, 1, none⟩)),
   IsV (.slice ta T.length tc),
   IsV (.bool true),
   IsV (.bool true),
   IsV (.pointer (some ⟨p, 0, none⟩)),
   IsV (.int .i64 (((cutsL T : Nat) : Int))),
   IsV (.pointer (some ⟨p2, 0, none⟩)),
   IsV (.int .i64 (((cutsL T : Nat) : Int))),
   IsV (.bool true),
   IsV (.bool true),
   IsV (.bool true),
   IsV (.pointer (some ⟨p, 0, none⟩)),
   IsV (.int .i64 od),
   IsV (.int .i64 rv),
   IsV (.pointer (some ⟨p2, 0, none⟩)),
   IsV (.int .i64 od),
   IsV (.int .i64 rv),
   IsV (.bool true),
   IsV (.bool true),
   IsV (.bool true),
   IsV (.pointer (some ⟨p, 0, none⟩)),
   IsV (.pointer (some ⟨p, 0, none⟩)),
   IsV (.pointer (some ⟨p, 0, none⟩)),
   IsV (.pointer (some ⟨tl, 0, none⟩)),
   IsV (.int .i64 (n : Int)),
   IsV (.int .i64 (n : Int)),
   IsV (.bool true),
   IsV (.bool true),
   IsV (.bool true),
   IsV (.bool true),
   IsV (.bool true),
   IsV (.bool true)]
def lt_r14_1_D : List (List Nat) := [[], [0], [1], [2], [3], [], [5], [6], [7], [8], [9], [10], [4, 11], [12], [13], [13, 14], [13], [13, 16], [13, 15, 17], [13, 18], [19], [20], [20], [20, 21, 22], [20], [20], [20, 24, 25], [20, 23, 26], [20, 27], [28], [29], [29, 30], [29, 31], [29, 32], [29, 33], [29], [29, 34, 35], [29, 36], [37], [38], [38, 39], [40]]

set_option maxHeartbeats 64000000 in
theorem ltell_all (w : World) (n : Nat) (h20 : n ≤ 20) (a : Option Addr) (ln c : Nat) (T0 : List T3) (hT : T0.length = ln) (hr : Rd w 3 (.slice a ln c) ln (T0.flatMap c3T)) (hln : ln ≤ 60) (od : Int) :
    Calls Tryz.prog 3 #[.int .i64 (n : Int), .slice a ln c, .int .i64 od] w fun e w' => e = .returned (.bool true) ∧ Mod (fun _ => False) w w' := by
  have y0 : decide ((n : Int) < 0) = false := by simp
  have y1 : decide ((20 : Int) < (n : Int)) = false := by simp; omega
  have y2 : decide ((60 : Int) < (ln : Int)) = false := by simp; omega
  have y2n : decide (60 < ln) = false := by simp; omega
  obtain ⟨P, hP⟩ := pick16 n (by omega)
  have HBU := Lib.hid (built16_any w n (by omega) a ln c T0 hT hr (by omega) P hP)
  have HMD := Lib.hid (fun W (mm : Mod (fun _ => False) w W) => made16_any W n (by omega) a ln c T0 hT (hr.keep mm (fun _ _ e => e)) (by omega))
  have hok := net16_ok n T0
  have HIN := Lib.hid (net16_in n T0)
  have hbo := bAt_ok P hok n (Nat.le_refl _)
  obtain ⟨L, hL⟩ : ∃ L, net16 n T0 = L := ⟨_, rfl⟩
  unfold Bu16P at HBU
  unfold net16 at hL HBU hok HIN hbo
  rw [hL] at HBU HMD hok HIN hbo
  obtain ⟨T, hTT⟩ : ∃ y, (bAt n P L n).T = y := ⟨_, rfl⟩
  obtain ⟨V, hVV⟩ : ∃ y, (bAt n P L n).V = y := ⟨_, rfl⟩
  have htok := hbo.tok
  rw [hTT, hVV] at HBU
  rw [hTT] at htok
  have hnn : n * n ≤ 20 * 20 := Nat.mul_le_mul h20 h20
  have hlL : L.length ≤ 400 := by have := net_len hok; omega
  have hlT : T.length ≤ 400 := by have := net_len htok; omega
  obtain ⟨rv, hrv⟩ : ∃ y, rankV n V od = y := ⟨_, rfl⟩
  have HRV := Lib.hid hrv
  have HP := Lib.hid hP
  have HOK := Lib.hid (And.intro hok htok)
  clear hT hr hP hok hbo hL hTT hVV htok hnn hrv
  go_enter Tryz.func3, Tryz.ntmps3
  go_wp2_with fail
  refine HBU.out.mono ?_
  rintro e w1 ⟨p, F, p2, tq, rd, m, rfl, hlo, hrl, hrn, hm⟩
  have HMK := Lib.hid (HMD.out w1 hm)
  have H1 := Lib.hid (And.intro hlo (And.intro hrl (And.intro hrn hm)))
  clear hlo hrl hrn hm HBU
  go_wp2_with fail
  refine HMK.out.mono ?_
  rintro e w2 ⟨q, FQ, m2, rfl, hnt, _, _, _, hm2⟩
  clear HMK
  obtain ⟨hlo, hrl, hrn, hm1⟩ := H1.out
  have hlo2 := hlo.later hm2
  have hrl2 := hrl.later hm2
  have hrn2 := hrn.later hm2
  obtain ⟨ra, rc, rb, rr, _⟩ := id hrn2
  obtain ⟨tl, rd1, mb, FT, hlv, _⟩ := id hlo2
  obtain ⟨ta, tc, tb, tr, _⟩ := hrl2.net
  have HM2 := Lib.hid (hm1.of2 hm2)
  have HS : Hid (Ev (Mod (fun _ => False) w2) w2) := Lib.hid (Ev.mod w2)
  replace HS := Lib.hid ((Ev.lo hlo2).and HS.out)
  replace HS := Lib.hid ((Ev.rl hrl2).and HS.out)
  replace HS := Lib.hid ((Ev.nt hnt).and HS.out)
  replace HS := Lib.hid ((Ev.blk rb).and HS.out)
  replace HS := Lib.hid ((Ev.rd rr).and HS.out)
  replace HS := Lib.hid ((Ev.blk hlv.blk).and HS.out)
  replace HS := Lib.hid ((Ev.nt hlv.net).and HS.out)
  replace HS := Lib.hid ((Ev.blk hrl2.blk).and HS.out)
  replace HS := Lib.hid ((Ev.blk tb).and HS.out)
  replace HS := Lib.hid ((Ev.rd tr).and HS.out)
  clear hlo hrl hrn hm1 hlo2 hrl2 hrn2 rb rr hlv tb tr hnt hm2
  go_upto_region 7 with fail
  have hbm := (HS.out.now).2.2.2.2.2.2.1
  have qm_0 := hbm.cell 0 rfl
  have qm_1 := hbm.cell 1 rfl
  have lm := hbm.lt
  clear hbm
  have hbp := (HS.out.now).2.2.2.2.1
  have qp_0 := hbp.cell 0 rfl
  have qp_1 := hbp.cell 1 rfl
  have qp_2 := hbp.cell 2 rfl
  have lp := hbp.lt
  clear hbp
  have hbp2 := (HS.out.now).2.2.1
  have qp2_0 := hbp2.cell 0 rfl
  have qp2_1 := hbp2.cell 1 rfl
  have lp2 := hbp2.lt
  clear hbp2
  have hbtq := (HS.out.now).2.1
  have qtq_0 := hbtq.cell 0 rfl
  have qtq_1 := hbtq.cell 1 rfl
  have ltq := hbtq.lt
  clear hbtq
  clear qm_0 qm_1 lm qp_0 qp_1 qp_2 lp qp2_0 qp2_1 lp2 qtq_0 qtq_1 ltq
  have HSd := Lib.hid HS.out.drew
  refine wp_region_inv3 (act := ?actlt_r7_0) (Mod (fun _ => False)) (fun i => (lt_r7_0_F m q L ra rc).getD i (fun _ _ => True)) (fun i => lt_r7_0_D.getD i []) (by kernel_rfl) (by kernel_rfl) (by kernel_rfl) (by kernel_rfl) (fun _ => Mod.refl _ _)
    (fun _ _ _ h k => h.trans k (fun _ _ e => e) (fun _ _ e => e)) ?hactlt_r7_0 (stable_list ?_) ?_ ?_
  case hactlt_r7_0 => intro vs; simp only [putAll, Nat.zero_add, Nat.reduceAdd, Act.put, List.setIfInBounds_toArray, List.set_cons_succ, List.set_cons_zero]; exact rfl
  · unfold lt_r7_0_F
    exact stable_cons (stable_val _) <| stable_cons (stable_val _) <| stable_cons (stable_val _) <| stable_cons (stable_val _) <| stable_cons (PtrP.st) <| stable_cons (stable_val _) <| stable_cons (stable_val _) <| stable_cons (stable_val _) <| stable_cons (stable_val _) <| stable_cons (ArP16.st _) <| stable_cons (stable_val _) <| stable_cons (stable_val _) <| stable_cons (stable_val _) <| stable_cons (stable_val _) <| stable_cons (stable_val _) <| stable_cons (stable_val _) <| stable_cons (stable_val _) <| stable_nil
  · refine opsOkA_cons ?_ ?_
    · intro K vs W hR hD hK
      clear hD
      try dsimp only at hK ⊢
      simp only [Act.put, List.setIfInBounds_toArray, List.set_cons_succ, List.set_cons_zero] at hK
      go_wp2
      exact hK _ _ rfl (Mod.refl _ _)
    refine opsOkA_cons ?_ ?_
    · intro K vs W hR hD hK
      have dq0 : vs 0 = .pointer (some ⟨q, 0, none⟩) := hD 0 (by decide)
      clear hD
      try dsimp only at hK ⊢
      simp only [Act.put, List.setIfInBounds_toArray, List.set_cons_succ, List.set_cons_zero] at hK
      generalize vs 0 = vq0 at hK dq0 ⊢
      subst vq0
      go_wp2
      exact hK _ _ rfl (Mod.refl _ _)
    refine opsOkA_cons ?_ ?_
    · intro K vs W hR hD hK
      have dq1 : vs 1 = .bool false := hD 1 (by decide)
      clear hD
      try dsimp only at hK ⊢
      simp only [Act.put, List.setIfInBounds_toArray, List.set_cons_succ, List.set_cons_zero] at hK
      generalize vs 1 = vq1 at hK dq1 ⊢
      subst vq1
      go_wp2
      exact hK _ _ rfl (Mod.refl _ _)
    refine opsOkA_cons ?_ ?_
    · intro K vs W hR hD hK
      have dq2 : vs 2 = .bool false := hD 2 (by decide)
      clear hD
      try dsimp only at hK ⊢
      simp only [Act.put, List.setIfInBounds_toArray, List.set_cons_succ, List.set_cons_zero] at hK
      generalize vs 2 = vq2 at hK dq2 ⊢
      subst vq2
      go_wp2
      exact hK _ _ rfl (Mod.refl _ _)
    refine opsOkA_cons ?_ ?_
    · intro K vs W hR hD hK
      have dq2 : vs 2 = .bool false := hD 2 (by decide)
      have dq3 : vs 3 = .pointer (some ⟨q, 0, none⟩) := hD 3 (by decide)
      clear hD
      try dsimp only at hK ⊢
      simp only [Act.put, List.setIfInBounds_toArray, List.set_cons_succ, List.set_cons_zero] at hK
      generalize vs 2 = vq2 at hK dq2 ⊢
      subst vq2
      generalize vs 3 = vq3 at hK dq3 ⊢
      subst vq3
      go_wp2_with (go_at_call 16; refine (build_any ((HSd.out.at (hR)).2.2.2.2.2.2.2.1) (fun a ha => by have := (HIN.out a ha).1; omega) P HP.out).mono ?_; rintro e' w' ⟨pp', FF', rfl, _, _, hm'⟩)
      exact hK _ _ ⟨_, rfl⟩ hm'
    refine opsOkA_cons ?_ ?_
    · intro K vs W hR hD hK
      have dq2 : vs 2 = .bool false := hD 2 (by decide)
      have dq4 : (PtrP) (vs 4) W := hD 4 (by decide)
      clear hD
      try dsimp only at hK ⊢
      simp only [Act.put, List.setIfInBounds_toArray, List.set_cons_succ, List.set_cons_zero] at hK
      generalize vs 2 = vq2 at hK dq2 ⊢
      subst vq2
      generalize vs 4 = vq4 at hK dq4 ⊢
      obtain ⟨pz4, rfl⟩ := dq4
      go_wp2
      exact hK _ _ rfl (Mod.refl _ _)
    refine opsOkA_cons ?_ ?_
    · intro K vs W hR hD hK
      have dq2 : vs 2 = .bool false := hD 2 (by decide)
      have dq5 : vs 5 = .bool false := hD 5 (by decide)
      clear hD
      try dsimp only at hK ⊢
      simp only [Act.put, List.setIfInBounds_toArray, List.set_cons_succ, List.set_cons_zero] at hK
      generalize vs 2 = vq2 at hK dq2 ⊢
      subst vq2
      generalize vs 5 = vq5 at hK dq5 ⊢
      subst vq5
      go_wp2
      exact hK _ _ rfl (Mod.refl _ _)
    refine opsOkA_cons ?_ ?_
    · intro K vs W hR hD hK
      have dq6 : vs 6 = .bool false := hD 6 (by decide)
      clear hD
      try dsimp only at hK ⊢
      simp only [Act.put, List.setIfInBounds_toArray, List.set_cons_succ, List.set_cons_zero] at hK
      generalize vs 6 = vq6 at hK dq6 ⊢
      subst vq6
      go_wp2
      exact hK _ _ rfl (Mod.refl _ _)
    refine opsOkA_cons ?_ ?_
    · intro K vs W hR hD hK
      have dq7 : vs 7 = .bool false := hD 7 (by decide)
      clear hD
      try dsimp only at hK ⊢
      simp only [Act.put, List.setIfInBounds_toArray, List.set_cons_succ, List.set_cons_zero] at hK
      generalize vs 7 = vq7 at hK dq7 ⊢
      subst vq7
      go_wp2
      exact hK _ _ rfl (Mod.refl _ _)
    refine opsOkA_cons ?_ ?_
    · intro K vs W hR hD hK
      have dq7 : vs 7 = .bool false := hD 7 (by decide)
      have dq8 : vs 8 = .pointer (some ⟨q, 0, none⟩) := hD 8 (by decide)
      clear hD
      try dsimp only at hK ⊢
      simp only [Act.put, List.setIfInBounds_toArray, List.set_cons_succ, List.set_cons_zero] at hK
      generalize vs 7 = vq7 at hK dq7 ⊢
      subst vq7
      generalize vs 8 = vq8 at hK dq8 ⊢
      subst vq8
      go_wp2_with (go_at_call 18; refine (nt_all ((HSd.out.at (hR)).2.2.2.2.2.2.2.1)).mono ?_; rintro e' w' ⟨xa', xc', rfl, ho', hm'⟩)
      exact hK _ _ ⟨_, _, rfl, Rd.ofOwn ho'⟩ hm'
    refine opsOkA_cons ?_ ?_
    · intro K vs W hR hD hK
      have dq7 : vs 7 = .bool false := hD 7 (by decide)
      clear hD
      try dsimp only at hK ⊢
      simp only [Act.put, List.setIfInBounds_toArray, List.set_cons_succ, List.set_cons_zero] at hK
      generalize vs 7 = vq7 at hK dq7 ⊢
      subst vq7
      go_wp2
      exact hK _ _ rfl (Mod.refl _ _)
    refine opsOkA_cons ?_ ?_
    · intro K vs W hR hD hK
      have dq7 : vs 7 = .bool false := hD 7 (by decide)
      have dq10 : vs 10 = .pointer (some ⟨m, 0, none⟩) := hD 10 (by decide)
      clear hD
      try dsimp only at hK ⊢
      simp only [Act.put, List.setIfInBounds_toArray, List.set_cons_succ, List.set_cons_zero] at hK
      generalize vs 7 = vq7 at hK dq7 ⊢
      subst vq7
      generalize vs 10 = vq10 at hK dq10 ⊢
      subst vq10
      go_wp2
      exact hK _ _ rfl (Mod.refl _ _)
    refine opsOkA_cons ?_ ?_
    · intro K vs W hR hD hK
      have dq7 : vs 7 = .bool false := hD 7 (by decide)
      have dq11 : vs 11 = .pointer (some ⟨m, 0, none⟩) := hD 11 (by decide)
      clear hD
      try dsimp only at hK ⊢
      simp only [Act.put, List.setIfInBounds_toArray, List.set_cons_succ, List.set_cons_zero] at hK
      generalize vs 7 = vq7 at hK dq7 ⊢
      subst vq7
      generalize vs 11 = vq11 at hK dq11 ⊢
      subst vq11
      go_wp2
      exact hK _ _ rfl (Mod.refl _ _)
    refine opsOkA_cons ?_ ?_
    · intro K vs W hR hD hK
      have dq7 : vs 7 = .bool false := hD 7 (by decide)
      have dq12 : vs 12 = .pointer (some ⟨m, 1, none⟩) := hD 12 (by decide)
      clear hD
      try dsimp only at hK ⊢
      simp only [Act.put, List.setIfInBounds_toArray, List.set_cons_succ, List.set_cons_zero] at hK
      generalize vs 7 = vq7 at hK dq7 ⊢
      subst vq7
      generalize vs 12 = vq12 at hK dq12 ⊢
      subst vq12
      have q0 := ((HSd.out.at (hR)).2.2.2.2.2.2.1).cell 1 rfl
      go_wp2
      exact hK _ _ rfl (Mod.refl _ _)
    refine opsOkA_cons ?_ ?_
    · intro K vs W hR hD hK
      have dq7 : vs 7 = .bool false := hD 7 (by decide)
      have dq9 : (ArP16 (L)) (vs 9) W := hD 9 (by decide)
      have dq13 : vs 13 = .slice ra L.length rc := hD 13 (by decide)
      clear hD
      try dsimp only at hK ⊢
      simp only [Act.put, List.setIfInBounds_toArray, List.set_cons_succ, List.set_cons_zero] at hK
      generalize vs 7 = vq7 at hK dq7 ⊢
      subst vq7
      generalize vs 9 = vq9 at hK dq9 ⊢
      generalize vs 13 = vq13 at hK dq13 ⊢
      subst vq13
      obtain ⟨xa9, xc9, rfl, hr9⟩ := dq9
      go_wp2_with (go_at_call 17; refine (same13_any W L xa9 _ xc9 ra rc rfl (by omega) hr9 ((HSd.out.at (hR)).2.2.2.2.2.1)).mono ?_; rintro e' w' ⟨rfl, hm'⟩)
      exact hK _ _ rfl hm'
    refine opsOkA_cons ?_ ?_
    · intro K vs W hR hD hK
      have dq7 : vs 7 = .bool false := hD 7 (by decide)
      have dq14 : vs 14 = .bool true := hD 14 (by decide)
      clear hD
      try dsimp only at hK ⊢
      simp only [Act.put, List.setIfInBounds_toArray, List.set_cons_succ, List.set_cons_zero] at hK
      generalize vs 7 = vq7 at hK dq7 ⊢
      subst vq7
      generalize vs 14 = vq14 at hK dq14 ⊢
      subst vq14
      go_wp2
      exact hK _ _ rfl (Mod.refl _ _)
    refine opsOkA_cons ?_ ?_
    · intro K vs W hR hD hK
      have dq7 : vs 7 = .bool false := hD 7 (by decide)
      have dq15 : vs 15 = .bool false := hD 15 (by decide)
      clear hD
      try dsimp only at hK ⊢
      simp only [Act.put, List.setIfInBounds_toArray, List.set_cons_succ, List.set_cons_zero] at hK
      generalize vs 7 = vq7 at hK dq7 ⊢
      subst vq7
      generalize vs 15 = vq15 at hK dq15 ⊢
      subst vq15
      go_wp2
      exact hK _ _ rfl (Mod.refl _ _)
    exact opsOkA_nil
  · intro vs wq1 hR hF
    have dq16 : vs 16 = .bool false := hF 16 (by decide)
    clear hF
    try dsimp only
    generalize vs 16 = vq16 at dq16 ⊢
    subst dq16
    replace HS := Lib.hid (HSd.out.step hR)
    clear HSd hR
    have hbm := (HS.out.now).2.2.2.2.2.2.1
    have qm_0 := hbm.cell 0 rfl
    have qm_1 := hbm.cell 1 rfl
    have lm := hbm.lt
    clear hbm
    have hbp := (HS.out.now).2.2.2.2.1
    have qp_0 := hbp.cell 0 rfl
    have qp_1 := hbp.cell 1 rfl
    have qp_2 := hbp.cell 2 rfl
    have lp := hbp.lt
    clear hbp
    have hbp2 := (HS.out.now).2.2.1
    have qp2_0 := hbp2.cell 0 rfl
    have qp2_1 := hbp2.cell 1 rfl
    have lp2 := hbp2.lt
    clear hbp2
    have hbtq := (HS.out.now).2.1
    have qtq_0 := hbtq.cell 0 rfl
    have qtq_1 := hbtq.cell 1 rfl
    have ltq := hbtq.lt
    clear hbtq
    go_wp2_with fail
    replace HS := Lib.hid ((Ev.mod wq1).and HS.out)
    go_loopw [12] (fun i wr => ∃ k : Nat, k ≤ n ∧ i = .int .i64 (k : Int) ∧ Mod (fun _ => False) wq1 wr) (fun i _ => n - (intOf i).toNat)
    case atStart => exact ⟨0, by omega, rfl, Mod.refl _ _⟩
    case round =>
      obtain ⟨k, hk, rfl, hmr⟩ := hrel
      obtain ⟨wo, hwo⟩ : ∃ x : World, x = wr := ⟨_, rfl⟩
      subst hwo
      replace HS := Lib.hid (HS.out.step hmr)
      clear hmr
      clear qm_0 qm_1 lm qp_0 qp_1 qp_2 lp qp2_0 qp2_1 lp2 qtq_0 qtq_1 ltq
      have hbm := (HS.out.now).2.2.2.2.2.2.2.1
      have qm_0 := hbm.cell 0 rfl
      have qm_1 := hbm.cell 1 rfl
      have lm := hbm.lt
      clear hbm
      have hbp := (HS.out.now).2.2.2.2.2.1
      have qp_0 := hbp.cell 0 rfl
      have qp_1 := hbp.cell 1 rfl
      have qp_2 := hbp.cell 2 rfl
      have lp := hbp.lt
      clear hbp
      have hbp2 := (HS.out.now).2.2.2.1
      have qp2_0 := hbp2.cell 0 rfl
      have qp2_1 := hbp2.cell 1 rfl
      have lp2 := hbp2.lt
      clear hbp2
      have hbtq := (HS.out.now).2.2.1
      have qtq_0 := hbtq.cell 0 rfl
      have qtq_1 := hbtq.cell 1 rfl
      have ltq := hbtq.lt
      clear hbtq
      by_cases hlt : k < n
      case neg =>
        have z0 : decide ((k : Int) < (n : Int)) = false := by simp; omega
        go_upto_region 14 with fail
        clear qm_0 qm_1 lm qp_0 qp_1 qp_2 lp qp2_0 qp2_1 lp2 qtq_0 qtq_1 ltq
        have HSd := Lib.hid HS.out.drew
        refine wp_region_inv3 (act := ?actlt_r14_1) (Mod (fun _ => False)) (fun i => (lt_r14_1_F n p p2 tq tl T ta tc od rv).getD i (fun _ _ => True)) (fun i => lt_r14_1_D.getD i []) (by kernel_rfl) (by kernel_rfl) (by kernel_rfl) (by kernel_rfl) (fun _ => Mod.refl _ _)
          (fun _ _ _ h k => h.trans k (fun _ _ e => e) (fun _ _ e => e)) ?hactlt_r14_1 (stable_list ?_) ?_ ?_
        case hactlt_r14_1 => intro vs; simp only [putAll, Nat.zero_add, Nat.reduceAdd, Act.put, List.setIfInBounds_toArray, List.set_cons_succ, List.set_cons_zero]; exact rfl
        · unfold lt_r14_1_F
          exact stable_cons (stable_val _) <| stable_cons (stable_val _) <| stable_cons (stable_val _) <| stable_cons (stable_val _) <| stable_cons (ArP16.st _) <| stable_cons (stable_val _) <| stable_cons (stable_val _) <| stable_cons (stable_val _) <| stable_cons (stable_val _) <| stable_cons (stable_val _) <| stable_cons (stable_val _) <| stable_cons (stable_val _) <| stable_cons (stable_val _) <| stable_cons (stable_val _) <| stable_cons (stable_val _) <| stable_cons (stable_val _) <| stable_cons (stable_val _) <| stable_cons (stable_val _) <| stable_cons (stable_val _) <| stable_cons (stable_val _) <| stable_cons (stable_val _) <| stable_cons (stable_val _) <| stable_cons (stable_val _) <| stable_cons (stable_val _) <| stable_cons (stable_val _) <| stable_cons (stable_val _) <| stable_cons (stable_val _) <| stable_cons (stable_val _) <| stable_cons (stable_val _) <| stable_cons (stable_val _) <| stable_cons (stable_val _) <| stable_cons (stable_val _) <| stable_cons (stable_val _) <| stable_cons (stable_val _) <| stable_cons (stable_val _) <| stable_cons (stable_val _) <| stable_cons (stable_val _) <| stable_cons (stable_val _) <| stable_cons (stable_val _) <| stable_cons (stable_val _) <| stable_cons (stable_val _) <| stable_cons (stable_val _) <| stable_nil
        · refine opsOkA_cons ?_ ?_
          · intro K vs W hR hD hK
            clear hD
            try dsimp only at hK ⊢
            simp only [Act.put, List.setIfInBounds_toArray, List.set_cons_succ, List.set_cons_zero] at hK
            go_wp2
            exact hK _ _ rfl (Mod.refl _ _)
          refine opsOkA_cons ?_ ?_
          · intro K vs W hR hD hK
            have dq0 : vs 0 = .pointer (some ⟨p, 0, none⟩) := hD 0 (by decide)
            clear hD
            try dsimp only at hK ⊢
            simp only [Act.put, List.setIfInBounds_toArray, List.set_cons_succ, List.set_cons_zero] at hK
            generalize vs 0 = vq0 at hK dq0 ⊢
            subst vq0
            go_wp2
            exact hK _ _ rfl (Mod.refl _ _)
          refine opsOkA_cons ?_ ?_
          · intro K vs W hR hD hK
            have dq1 : vs 1 = .pointer (some ⟨p, 0, none⟩) := hD 1 (by decide)
            clear hD
            try dsimp only at hK ⊢
            simp only [Act.put, List.setIfInBounds_toArray, List.set_cons_succ, List.set_cons_zero] at hK
            generalize vs 1 = vq1 at hK dq1 ⊢
            subst vq1
            go_wp2
            exact hK _ _ rfl (Mod.refl _ _)
          refine opsOkA_cons ?_ ?_
          · intro K vs W hR hD hK
            have dq2 : vs 2 = .pointer (some ⟨p, 0, none⟩) := hD 2 (by decide)
            clear hD
            try dsimp only at hK ⊢
            simp only [Act.put, List.setIfInBounds_toArray, List.set_cons_succ, List.set_cons_zero] at hK
            generalize vs 2 = vq2 at hK dq2 ⊢
            subst vq2
            have q0 := ((HSd.out.at (hR)).2.2.2.2.2.1).cell 0 rfl
            go_wp2
            exact hK _ _ rfl (Mod.refl _ _)
          refine opsOkA_cons ?_ ?_
          · intro K vs W hR hD hK
            have dq3 : vs 3 = .pointer (some ⟨tl, 0, none⟩) := hD 3 (by decide)
            clear hD
            try dsimp only at hK ⊢
            simp only [Act.put, List.setIfInBounds_toArray, List.set_cons_succ, List.set_cons_zero] at hK
            generalize vs 3 = vq3 at hK dq3 ⊢
            subst vq3
            go_wp2_with (go_at_call 18; refine (nt_all ((HSd.out.at (hR)).2.2.2.2.1)).mono ?_; rintro e' w' ⟨xa', xc', rfl, ho', hm'⟩)
            exact hK _ _ ⟨_, _, rfl, Rd.ofOwn ho'⟩ hm'
          refine opsOkA_cons ?_ ?_
          · intro K vs W hR hD hK
            clear hD
            try dsimp only at hK ⊢
            simp only [Act.put, List.setIfInBounds_toArray, List.set_cons_succ, List.set_cons_zero] at hK
            go_wp2
            exact hK _ _ rfl (Mod.refl _ _)
          refine opsOkA_cons ?_ ?_
          · intro K vs W hR hD hK
            have dq5 : vs 5 = .pointer (some ⟨p2, 0, none⟩) := hD 5 (by decide)
            clear hD
            try dsimp only at hK ⊢
            simp only [Act.put, List.setIfInBounds_toArray, List.set_cons_succ, List.set_cons_zero] at hK
            generalize vs 5 = vq5 at hK dq5 ⊢
            subst vq5
            go_wp2
            exact hK _ _ rfl (Mod.refl _ _)
          refine opsOkA_cons ?_ ?_
          · intro K vs W hR hD hK
            have dq6 : vs 6 = .pointer (some ⟨p2, 0, none⟩) := hD 6 (by decide)
            clear hD
            try dsimp only at hK ⊢
            simp only [Act.put, List.setIfInBounds_toArray, List.set_cons_succ, List.set_cons_zero] at hK
            generalize vs 6 = vq6 at hK dq6 ⊢
            subst vq6
            go_wp2
            exact hK _ _ rfl (Mod.refl _ _)
          refine opsOkA_cons ?_ ?_
          · intro K vs W hR hD hK
            have dq7 : vs 7 = .pointer (some ⟨p2, 0, none⟩) := hD 7 (by decide)
            clear hD
            try dsimp only at hK ⊢
            simp only [Act.put, List.setIfInBounds_toArray, List.set_cons_succ, List.set_cons_zero] at hK
            generalize vs 7 = vq7 at hK dq7 ⊢
            subst vq7
            have q0 := ((HSd.out.at (hR)).2.2.2.1).cell 0 rfl
            go_wp2
            exact hK _ _ rfl (Mod.refl _ _)
          refine opsOkA_cons ?_ ?_
          · intro K vs W hR hD hK
            have dq8 : vs 8 = .pointer (some ⟨tq, 0, none⟩) := hD 8 (by decide)
            clear hD
            try dsimp only at hK ⊢
            simp only [Act.put, List.setIfInBounds_toArray, List.set_cons_succ, List.set_cons_zero] at hK
            generalize vs 8 = vq8 at hK dq8 ⊢
            subst vq8
            go_wp2
            exact hK _ _ rfl (Mod.refl _ _)
          refine opsOkA_cons ?_ ?_
          · intro K vs W hR hD hK
            have dq9 : vs 9 = .pointer (some ⟨tq, 0, none⟩) := hD 9 (by decide)
            clear hD
            try dsimp only at hK ⊢
            simp only [Act.put, List.setIfInBounds_toArray, List.set_cons_succ, List.set_cons_zero] at hK
            generalize vs 9 = vq9 at hK dq9 ⊢
            subst vq9
            go_wp2
            exact hK _ _ rfl (Mod.refl _ _)
          refine opsOkA_cons ?_ ?_
          · intro K vs W hR hD hK
            have dq10 : vs 10 = .pointer (some ⟨tq, 1, none⟩) := hD 10 (by decide)
            clear hD
            try dsimp only at hK ⊢
            simp only [Act.put, List.setIfInBounds_toArray, List.set_cons_succ, List.set_cons_zero] at hK
            generalize vs 10 = vq10 at hK dq10 ⊢
            subst vq10
            have q0 := ((HSd.out.at (hR)).2.2.1).cell 1 rfl
            go_wp2
            exact hK _ _ rfl (Mod.refl _ _)
          refine opsOkA_cons ?_ ?_
          · intro K vs W hR hD hK
            have dq4 : (ArP16 (T)) (vs 4) W := hD 4 (by decide)
            have dq11 : vs 11 = .slice ta T.length tc := hD 11 (by decide)
            clear hD
            try dsimp only at hK ⊢
            simp only [Act.put, List.setIfInBounds_toArray, List.set_cons_succ, List.set_cons_zero] at hK
            generalize vs 4 = vq4 at hK dq4 ⊢
            generalize vs 11 = vq11 at hK dq11 ⊢
            subst vq11
            obtain ⟨xa4, xc4, rfl, hr4⟩ := dq4
            go_wp2_with (go_at_call 17; refine (same13_any W T xa4 _ xc4 ta tc rfl (by omega) hr4 ((HSd.out.at (hR)).2.1)).mono ?_; rintro e' w' ⟨rfl, hm'⟩)
            exact hK _ _ rfl hm'
          refine opsOkA_cons ?_ ?_
          · intro K vs W hR hD hK
            have dq12 : vs 12 = .bool true := hD 12 (by decide)
            clear hD
            try dsimp only at hK ⊢
            simp only [Act.put, List.setIfInBounds_toArray, List.set_cons_succ, List.set_cons_zero] at hK
            generalize vs 12 = vq12 at hK dq12 ⊢
            subst vq12
            go_wp2
            exact hK _ _ rfl (Mod.refl _ _)
          refine opsOkA_cons ?_ ?_
          · intro K vs W hR hD hK
            have dq13 : vs 13 = .bool true := hD 13 (by decide)
            clear hD
            try dsimp only at hK ⊢
            simp only [Act.put, List.setIfInBounds_toArray, List.set_cons_succ, List.set_cons_zero] at hK
            generalize vs 13 = vq13 at hK dq13 ⊢
            subst vq13
            go_wp2
            exact hK _ _ rfl (Mod.refl _ _)
          refine opsOkA_cons ?_ ?_
          · intro K vs W hR hD hK
            have dq13 : vs 13 = .bool true := hD 13 (by decide)
            have dq14 : vs 14 = .pointer (some ⟨p, 0, none⟩) := hD 14 (by decide)
            clear hD
            try dsimp only at hK ⊢
            simp only [Act.put, List.setIfInBounds_toArray, List.set_cons_succ, List.set_cons_zero] at hK
            generalize vs 13 = vq13 at hK dq13 ⊢
            subst vq13
            generalize vs 14 = vq14 at hK dq14 ⊢
            subst vq14
            go_wp2_with (go_at_call 25; refine (lv_cuts ((HSd.out.at (hR)).2.2.2.2.2.2.2.2.2.2.1)).mono ?_; rintro e' w' ⟨rfl, hm'⟩)
            exact hK _ _ rfl hm'
          refine opsOkA_cons ?_ ?_
          · intro K vs W hR hD hK
            have dq13 : vs 13 = .bool true := hD 13 (by decide)
            clear hD
            try dsimp only at hK ⊢
            simp only [Act.put, List.setIfInBounds_toArray, List.set_cons_succ, List.set_cons_zero] at hK
            generalize vs 13 = vq13 at hK dq13 ⊢
            subst vq13
            go_wp2
            exact hK _ _ rfl (Mod.refl _ _)
          refine opsOkA_cons ?_ ?_
          · intro K vs W hR hD hK
            have dq13 : vs 13 = .bool true := hD 13 (by decide)
            have dq16 : vs 16 = .pointer (some ⟨p2, 0, none⟩) := hD 16 (by decide)
            clear hD
            try dsimp only at hK ⊢
            simp only [Act.put, List.setIfInBounds_toArray, List.set_cons_succ, List.set_cons_zero] at hK
            generalize vs 13 = vq13 at hK dq13 ⊢
            subst vq13
            generalize vs 16 = vq16 at hK dq16 ⊢
            subst vq16
            go_wp2_with (go_at_call 26; refine (rl_cuts ((HSd.out.at (hR)).2.2.2.2.2.2.2.2.2.1) (by omega)).mono ?_; rintro e' w' ⟨rfl, hm'⟩)
            exact hK _ _ rfl hm'
          refine opsOkA_cons ?_ ?_
          · intro K vs W hR hD hK
            have dq13 : vs 13 = .bool true := hD 13 (by decide)
            have dq15 : vs 15 = .int .i64 (((cutsL T : Nat) : Int)) := hD 15 (by decide)
            have dq17 : vs 17 = .int .i64 (((cutsL T : Nat) : Int)) := hD 17 (by decide)
            clear hD
            try dsimp only at hK ⊢
            simp only [Act.put, List.setIfInBounds_toArray, List.set_cons_succ, List.set_cons_zero] at hK
            generalize vs 13 = vq13 at hK dq13 ⊢
            subst vq13
            generalize vs 15 = vq15 at hK dq15 ⊢
            subst vq15
            generalize vs 17 = vq17 at hK dq17 ⊢
            subst vq17
            go_wp2
            exact hK _ _ rfl (Mod.refl _ _)
          refine opsOkA_cons ?_ ?_
          · intro K vs W hR hD hK
            have dq13 : vs 13 = .bool true := hD 13 (by decide)
            have dq18 : vs 18 = .bool true := hD 18 (by decide)
            clear hD
            try dsimp only at hK ⊢
            simp only [Act.put, List.setIfInBounds_toArray, List.set_cons_succ, List.set_cons_zero] at hK
            generalize vs 13 = vq13 at hK dq13 ⊢
            subst vq13
            generalize vs 18 = vq18 at hK dq18 ⊢
            subst vq18
            go_wp2
            exact hK _ _ rfl (Mod.refl _ _)
          refine opsOkA_cons ?_ ?_
          · intro K vs W hR hD hK
            have dq19 : vs 19 = .bool true := hD 19 (by decide)
            clear hD
            try dsimp only at hK ⊢
            simp only [Act.put, List.setIfInBounds_toArray, List.set_cons_succ, List.set_cons_zero] at hK
            generalize vs 19 = vq19 at hK dq19 ⊢
            subst vq19
            go_wp2
            exact hK _ _ rfl (Mod.refl _ _)
          refine opsOkA_cons ?_ ?_
          · intro K vs W hR hD hK
            have dq20 : vs 20 = .bool true := hD 20 (by decide)
            clear hD
            try dsimp only at hK ⊢
            simp only [Act.put, List.setIfInBounds_toArray, List.set_cons_succ, List.set_cons_zero] at hK
            generalize vs 20 = vq20 at hK dq20 ⊢
            subst vq20
            go_wp2
            exact hK _ _ rfl (Mod.refl _ _)
          refine opsOkA_cons ?_ ?_
          · intro K vs W hR hD hK
            have dq20 : vs 20 = .bool true := hD 20 (by decide)
            clear hD
            try dsimp only at hK ⊢
            simp only [Act.put, List.setIfInBounds_toArray, List.set_cons_succ, List.set_cons_zero] at hK
            generalize vs 20 = vq20 at hK dq20 ⊢
            subst vq20
            go_wp2
            exact hK _ _ rfl (Mod.refl _ _)
          refine opsOkA_cons ?_ ?_
          · intro K vs W hR hD hK
            have dq20 : vs 20 = .bool true := hD 20 (by decide)
            have dq21 : vs 21 = .pointer (some ⟨p, 0, none⟩) := hD 21 (by decide)
            have dq22 : vs 22 = .int .i64 od := hD 22 (by decide)
            clear hD
            try dsimp only at hK ⊢
            simp only [Act.put, List.setIfInBounds_toArray, List.set_cons_succ, List.set_cons_zero] at hK
            generalize vs 20 = vq20 at hK dq20 ⊢
            subst vq20
            generalize vs 21 = vq21 at hK dq21 ⊢
            subst vq21
            generalize vs 22 = vq22 at hK dq22 ⊢
            subst vq22
            go_wp2_with (go_at_call 19; refine (lv_rank ((HSd.out.at (hR)).2.2.2.2.2.2.2.2.2.2.1) od rv HRV.out).mono ?_; rintro e' w' ⟨rfl, rfl⟩)
            exact hK _ _ rfl (Mod.refl _ _)
          refine opsOkA_cons ?_ ?_
          · intro K vs W hR hD hK
            have dq20 : vs 20 = .bool true := hD 20 (by decide)
            clear hD
            try dsimp only at hK ⊢
            simp only [Act.put, List.setIfInBounds_toArray, List.set_cons_succ, List.set_cons_zero] at hK
            generalize vs 20 = vq20 at hK dq20 ⊢
            subst vq20
            go_wp2
            exact hK _ _ rfl (Mod.refl _ _)
          refine opsOkA_cons ?_ ?_
          · intro K vs W hR hD hK
            have dq20 : vs 20 = .bool true := hD 20 (by decide)
            clear hD
            try dsimp only at hK ⊢
            simp only [Act.put, List.setIfInBounds_toArray, List.set_cons_succ, List.set_cons_zero] at hK
            generalize vs 20 = vq20 at hK dq20 ⊢
            subst vq20
            go_wp2
            exact hK _ _ rfl (Mod.refl _ _)
          refine opsOkA_cons ?_ ?_
          · intro K vs W hR hD hK
            have dq20 : vs 20 = .bool true := hD 20 (by decide)
            have dq24 : vs 24 = .pointer (some ⟨p2, 0, none⟩) := hD 24 (by decide)
            have dq25 : vs 25 = .int .i64 od := hD 25 (by decide)
            clear hD
            try dsimp only at hK ⊢
            simp only [Act.put, List.setIfInBounds_toArray, List.set_cons_succ, List.set_cons_zero] at hK
            generalize vs 20 = vq20 at hK dq20 ⊢
            subst vq20
            generalize vs 24 = vq24 at hK dq24 ⊢
            subst vq24
            generalize vs 25 = vq25 at hK dq25 ⊢
            subst vq25
            go_wp2_with (go_at_call 20; refine (rl_rank ((HSd.out.at (hR)).2.2.2.2.2.2.2.2.2.1) (by omega) od).mono ?_; rintro e' w' ⟨rfl, rfl⟩; rw [HRV.out])
            exact hK _ _ rfl (Mod.refl _ _)
          refine opsOkA_cons ?_ ?_
          · intro K vs W hR hD hK
            have dq20 : vs 20 = .bool true := hD 20 (by decide)
            have dq23 : vs 23 = .int .i64 rv := hD 23 (by decide)
            have dq26 : vs 26 = .int .i64 rv := hD 26 (by decide)
            clear hD
            try dsimp only at hK ⊢
            simp only [Act.put, List.setIfInBounds_toArray, List.set_cons_succ, List.set_cons_zero] at hK
            generalize vs 20 = vq20 at hK dq20 ⊢
            subst vq20
            generalize vs 23 = vq23 at hK dq23 ⊢
            subst vq23
            generalize vs 26 = vq26 at hK dq26 ⊢
            subst vq26
            go_wp2
            exact hK _ _ rfl (Mod.refl _ _)
          refine opsOkA_cons ?_ ?_
          · intro K vs W hR hD hK
            have dq20 : vs 20 = .bool true := hD 20 (by decide)
            have dq27 : vs 27 = .bool true := hD 27 (by decide)
            clear hD
            try dsimp only at hK ⊢
            simp only [Act.put, List.setIfInBounds_toArray, List.set_cons_succ, List.set_cons_zero] at hK
            generalize vs 20 = vq20 at hK dq20 ⊢
            subst vq20
            generalize vs 27 = vq27 at hK dq27 ⊢
            subst vq27
            go_wp2
            exact hK _ _ rfl (Mod.refl _ _)
          refine opsOkA_cons ?_ ?_
          · intro K vs W hR hD hK
            have dq28 : vs 28 = .bool true := hD 28 (by decide)
            clear hD
            try dsimp only at hK ⊢
            simp only [Act.put, List.setIfInBounds_toArray, List.set_cons_succ, List.set_cons_zero] at hK
            generalize vs 28 = vq28 at hK dq28 ⊢
            subst vq28
            go_wp2
            exact hK _ _ rfl (Mod.refl _ _)
          refine opsOkA_cons ?_ ?_
          · intro K vs W hR hD hK
            have dq29 : vs 29 = .bool true := hD 29 (by decide)
            clear hD
            try dsimp only at hK ⊢
            simp only [Act.put, List.setIfInBounds_toArray, List.set_cons_succ, List.set_cons_zero] at hK
            generalize vs 29 = vq29 at hK dq29 ⊢
            subst vq29
            go_wp2
            exact hK _ _ rfl (Mod.refl _ _)
          refine opsOkA_cons ?_ ?_
          · intro K vs W hR hD hK
            have dq29 : vs 29 = .bool true := hD 29 (by decide)
            have dq30 : vs 30 = .pointer (some ⟨p, 0, none⟩) := hD 30 (by decide)
            clear hD
            try dsimp only at hK ⊢
            simp only [Act.put, List.setIfInBounds_toArray, List.set_cons_succ, List.set_cons_zero] at hK
            generalize vs 29 = vq29 at hK dq29 ⊢
            subst vq29
            generalize vs 30 = vq30 at hK dq30 ⊢
            subst vq30
            go_wp2
            exact hK _ _ rfl (Mod.refl _ _)
          refine opsOkA_cons ?_ ?_
          · intro K vs W hR hD hK
            have dq29 : vs 29 = .bool true := hD 29 (by decide)
            have dq31 : vs 31 = .pointer (some ⟨p, 0, none⟩) := hD 31 (by decide)
            clear hD
            try dsimp only at hK ⊢
            simp only [Act.put, List.setIfInBounds_toArray, List.set_cons_succ, List.set_cons_zero] at hK
            generalize vs 29 = vq29 at hK dq29 ⊢
            subst vq29
            generalize vs 31 = vq31 at hK dq31 ⊢
            subst vq31
            go_wp2
            exact hK _ _ rfl (Mod.refl _ _)
          refine opsOkA_cons ?_ ?_
          · intro K vs W hR hD hK
            have dq29 : vs 29 = .bool true := hD 29 (by decide)
            have dq32 : vs 32 = .pointer (some ⟨p, 0, none⟩) := hD 32 (by decide)
            clear hD
            try dsimp only at hK ⊢
            simp only [Act.put, List.setIfInBounds_toArray, List.set_cons_succ, List.set_cons_zero] at hK
            generalize vs 29 = vq29 at hK dq29 ⊢
            subst vq29
            generalize vs 32 = vq32 at hK dq32 ⊢
            subst vq32
            have q0 := ((HSd.out.at (hR)).2.2.2.2.2.1).cell 0 rfl
            go_wp2
            exact hK _ _ rfl (Mod.refl _ _)
          refine opsOkA_cons ?_ ?_
          · intro K vs W hR hD hK
            have dq29 : vs 29 = .bool true := hD 29 (by decide)
            have dq33 : vs 33 = .pointer (some ⟨tl, 0, none⟩) := hD 33 (by decide)
            clear hD
            try dsimp only at hK ⊢
            simp only [Act.put, List.setIfInBounds_toArray, List.set_cons_succ, List.set_cons_zero] at hK
            generalize vs 29 = vq29 at hK dq29 ⊢
            subst vq29
            generalize vs 33 = vq33 at hK dq33 ⊢
            subst vq33
            go_wp2_with (go_at_call 27; refine (nt_len ((HSd.out.at (hR)).2.2.2.2.1)).mono ?_; rintro e' w' ⟨rfl, rfl⟩)
            exact hK _ _ rfl (Mod.refl _ _)
          refine opsOkA_cons ?_ ?_
          · intro K vs W hR hD hK
            have dq29 : vs 29 = .bool true := hD 29 (by decide)
            clear hD
            try dsimp only at hK ⊢
            simp only [Act.put, List.setIfInBounds_toArray, List.set_cons_succ, List.set_cons_zero] at hK
            generalize vs 29 = vq29 at hK dq29 ⊢
            subst vq29
            go_wp2
            exact hK _ _ rfl (Mod.refl _ _)
          refine opsOkA_cons ?_ ?_
          · intro K vs W hR hD hK
            have dq29 : vs 29 = .bool true := hD 29 (by decide)
            have dq34 : vs 34 = .int .i64 (n : Int) := hD 34 (by decide)
            have dq35 : vs 35 = .int .i64 (n : Int) := hD 35 (by decide)
            clear hD
            try dsimp only at hK ⊢
            simp only [Act.put, List.setIfInBounds_toArray, List.set_cons_succ, List.set_cons_zero] at hK
            generalize vs 29 = vq29 at hK dq29 ⊢
            subst vq29
            generalize vs 34 = vq34 at hK dq34 ⊢
            subst vq34
            generalize vs 35 = vq35 at hK dq35 ⊢
            subst vq35
            go_wp2
            exact hK _ _ rfl (Mod.refl _ _)
          refine opsOkA_cons ?_ ?_
          · intro K vs W hR hD hK
            have dq29 : vs 29 = .bool true := hD 29 (by decide)
            have dq36 : vs 36 = .bool true := hD 36 (by decide)
            clear hD
            try dsimp only at hK ⊢
            simp only [Act.put, List.setIfInBounds_toArray, List.set_cons_succ, List.set_cons_zero] at hK
            generalize vs 29 = vq29 at hK dq29 ⊢
            subst vq29
            generalize vs 36 = vq36 at hK dq36 ⊢
            subst vq36
            go_wp2
            exact hK _ _ rfl (Mod.refl _ _)
          refine opsOkA_cons ?_ ?_
          · intro K vs W hR hD hK
            have dq37 : vs 37 = .bool true := hD 37 (by decide)
            clear hD
            try dsimp only at hK ⊢
            simp only [Act.put, List.setIfInBounds_toArray, List.set_cons_succ, List.set_cons_zero] at hK
            generalize vs 37 = vq37 at hK dq37 ⊢
            subst vq37
            go_wp2
            exact hK _ _ rfl (Mod.refl _ _)
          refine opsOkA_cons ?_ ?_
          · intro K vs W hR hD hK
            have dq38 : vs 38 = .bool true := hD 38 (by decide)
            clear hD
            try dsimp only at hK ⊢
            simp only [Act.put, List.setIfInBounds_toArray, List.set_cons_succ, List.set_cons_zero] at hK
            generalize vs 38 = vq38 at hK dq38 ⊢
            subst vq38
            go_wp2_with (go_at_call 13; refine (awake16_any W).mono ?_; rintro e' w' ⟨rfl, hm'⟩)
            exact hK _ _ rfl hm'
          refine opsOkA_cons ?_ ?_
          · intro K vs W hR hD hK
            have dq38 : vs 38 = .bool true := hD 38 (by decide)
            have dq39 : vs 39 = .bool true := hD 39 (by decide)
            clear hD
            try dsimp only at hK ⊢
            simp only [Act.put, List.setIfInBounds_toArray, List.set_cons_succ, List.set_cons_zero] at hK
            generalize vs 38 = vq38 at hK dq38 ⊢
            subst vq38
            generalize vs 39 = vq39 at hK dq39 ⊢
            subst vq39
            go_wp2
            exact hK _ _ rfl (Mod.refl _ _)
          refine opsOkA_cons ?_ ?_
          · intro K vs W hR hD hK
            have dq40 : vs 40 = .bool true := hD 40 (by decide)
            clear hD
            try dsimp only at hK ⊢
            simp only [Act.put, List.setIfInBounds_toArray, List.set_cons_succ, List.set_cons_zero] at hK
            generalize vs 40 = vq40 at hK dq40 ⊢
            subst vq40
            go_wp2
            exact hK _ _ rfl (Mod.refl _ _)
          exact opsOkA_nil
        · intro vs wq2 hR hF
          have dq41 : vs 41 = .bool true := hF 41 (by decide)
          clear hF
          try dsimp only
          generalize vs 41 = vq41 at dq41 ⊢
          subst dq41
          replace HS := Lib.hid (HSd.out.step hR)
          clear HSd hR
          have hbm := (HS.out.now).2.2.2.2.2.2.2.1
          have qm_0 := hbm.cell 0 rfl
          have qm_1 := hbm.cell 1 rfl
          have lm := hbm.lt
          clear hbm
          have hbp := (HS.out.now).2.2.2.2.2.1
          have qp_0 := hbp.cell 0 rfl
          have qp_1 := hbp.cell 1 rfl
          have qp_2 := hbp.cell 2 rfl
          have lp := hbp.lt
          clear hbp
          have hbp2 := (HS.out.now).2.2.2.1
          have qp2_0 := hbp2.cell 0 rfl
          have qp2_1 := hbp2.cell 1 rfl
          have lp2 := hbp2.lt
          clear hbp2
          have hbtq := (HS.out.now).2.2.1
          have qtq_0 := hbtq.cell 0 rfl
          have qtq_1 := hbtq.cell 1 rfl
          have ltq := hbtq.lt
          clear hbtq
          go_wp2_with fail
          go_ret
          exact ⟨rfl, HM2.out.of2 (HS.out.now).2.2.2.2.2.2.2.2.2.2.2⟩
      case pos =>
        have z0 : decide ((k : Int) < (n : Int)) = true := by simp; omega
        obtain ⟨rk, hrk⟩ : ∃ y, rankV n V (k : Int) = y := ⟨_, rfl⟩
        have HRK := Lib.hid hrk
        clear hrk
        have hlu := upV_len (V := V) HOK.out.2 (k : Int)
        have hld := downV_len (V := V) HOK.out.2 (k : Int)
        have HLO := Lib.hid (And.intro ((HS.out.now).2.2.2.2.2.2.2.2.2.2.1) ((HS.out.now).2.2.2.2.2.2.2.2.2.1))
        have HK1 := Lib.hid (lv_rank HLO.out.1 (k : Int) rk HRK.out)
        go_wp2_with fail
        refine HK1.out.mono ?_
        rintro e w5 ⟨rfl, rfl⟩
        clear HK1
        have HK2 := Lib.hid (rl_rank HLO.out.2 (by omega) (k : Int))
        go_wp2_with fail
        refine HK2.out.mono ?_
        rintro e w6 ⟨rfl, rfl⟩
        rw [HRK.out]
        clear HK2
        have HK3 := Lib.hid (lv_up HLO.out.1 (k : Int))
        go_wp2_with fail
        refine HK3.out.mono ?_
        rintro e w6 ⟨a6, c6, rfl, hr6, hm6⟩
        have HK4 := Lib.hid (rl_up (HLO.out.2.later hm6) HOK.out.2 (by omega) k hlt)
        have H6 := Lib.hid (And.intro hr6 hm6)
        obtain ⟨nu, hnu⟩ : ∃ y, (upV n T V (k : Int)).length = y := ⟨_, rfl⟩
        have HNU := Lib.hid hnu
        unfold UpP at HK4
        rw [hnu] at HK4 hlu ⊢
        clear HK3 hr6 hm6 hnu
        go_wp2_with fail
        refine HK4.out.mono ?_
        rintro e w7 ⟨a7, c7, rfl, hr7, hm7⟩
        have HR7 := Lib.hid hr7
        have HM7 := Lib.hid hm7
        have hr6 := H6.out.1.keep hm7 (fun _ _ e => e)
        rw [HNU.out] at hr6
        have HS7 := Lib.hid (same13_any w7 (upV n T V (k : Int)) a6 nu c6 a7 c7 HNU.out (by omega) hr6 hr7)
        clear hr7 hr6 hm7 HK4
        go_wp2_with fail
        refine HS7.out.mono ?_
        rintro e w8 ⟨rfl, hm8⟩
        have HM8 := Lib.hid ((H6.out.2.of2 HM7.out).of2 hm8)
        clear hm8 HS7 HM7 H6 HNU HR7
        have HK3 := Lib.hid (lv_down (HLO.out.1.later HM8.out) (k : Int))
        go_wp2_with fail
        refine HK3.out.mono ?_
        rintro e w9 ⟨a6, c6, rfl, hr6, hm6⟩
        have HK4 := Lib.hid (rl_down (HLO.out.2.later (HM8.out.of2 hm6)) HOK.out.2 (by omega) k hlt)
        have H6 := Lib.hid (And.intro hr6 hm6)
        obtain ⟨nu, hnu⟩ : ∃ y, (downV n T V (k : Int)).length = y := ⟨_, rfl⟩
        have HNU := Lib.hid hnu
        unfold DownP at HK4
        rw [hnu] at HK4 hld ⊢
        clear HK3 hr6 hm6 hnu
        go_wp2_with fail
        refine HK4.out.mono ?_
        rintro e w10 ⟨a7, c7, rfl, hr7, hm7⟩
        have HR7 := Lib.hid hr7
        have HM7 := Lib.hid hm7
        have hr6 := H6.out.1.keep hm7 (fun _ _ e => e)
        rw [HNU.out] at hr6
        have HS7 := Lib.hid (same13_any w10 (downV n T V (k : Int)) a6 nu c6 a7 c7 HNU.out (by omega) hr6 hr7)
        clear hr7 hr6 hm7 HK4
        go_wp2_with fail
        refine HS7.out.mono ?_
        rintro e w11 ⟨rfl, hm8⟩
        have HM11 := Lib.hid (HM8.out.of2 ((H6.out.2.of2 HM7.out).of2 hm8))
        clear hm8 HS7
        go_wp2_with fail
        go_roundw
        case rel => exact ⟨k + 1, hlt, by go_num, ((HS.out.now).1).of2 HM11.out⟩
        case measure => simp [intOf]; omega
theorem ltell_law (w : World) (nv : Int) (_ : (Lit.int .i64 nv).wf = true) (a : Option Addr) (ln c : Nat) (T : List T3) (ok : (encSlice enc3).ok w (.slice a ln c, T)) (od : Int) (_ : (Lit.int .i64 od).wf = true) :
    Calls Tryz.prog 3 #[.int .i64 nv, .slice a ln c, .int .i64 od] w fun e w' => e = .returned (.bool true) ∧ Below w.heap.size w w' := by
  obtain ⟨hT, hr⟩ := ok_t3 ok
  suffices h : Calls Tryz.prog 3 #[.int .i64 nv, .slice a ln c, .int .i64 od] w fun e w' => e = .returned (.bool true) ∧ Mod (fun _ => False) w w' from
    h.mono fun e w' h => ⟨h.1, h.2.below (Nat.le_refl _) (fun _ e => e.elim)⟩
  by_cases hno : ¬ (0 ≤ nv ∧ nv ≤ 20 ∧ ln ≤ 60)
  case pos =>
    clear hr hT ok
    have hend : ∀ (b0 b1 b2 : Bool), decide (nv < 0) = b0 → decide (20 < nv) = b1 → decide (60 < (ln : Int)) = b2 → (b0 || b1 || b2) = true →
        Calls Tryz.prog 3 #[.int .i64 nv, .slice a ln c, .int .i64 od] w fun e w' => e = .returned (.bool true) ∧ Mod (fun _ => False) w w' := by
      intro b0 b1 b2 hc0 hc1 hc2 hbb
      clear hno
      cases b0
      · skip
        cases b1
        · skip
          cases b2
          · cases hbb
          · clear hbb 
            go_enter Tryz.func3, Tryz.ntmps3
            go_wp2_with fail
            refine (awake16_any _).mono ?_
            rintro e w9 ⟨rfl, hm9⟩
            go_wp2_with fail
            go_ret
            exact ⟨rfl, hm9⟩
        · clear hbb hc2
          go_enter Tryz.func3, Tryz.ntmps3
          go_wp2_with fail
          refine (awake16_any _).mono ?_
          rintro e w9 ⟨rfl, hm9⟩
          go_wp2_with fail
          go_ret
          exact ⟨rfl, hm9⟩
      · clear hbb hc1 hc2
        go_enter Tryz.func3, Tryz.ntmps3
        go_wp2_with fail
        refine (awake16_any _).mono ?_
        rintro e w9 ⟨rfl, hm9⟩
        go_wp2_with fail
        go_ret
        exact ⟨rfl, hm9⟩
    refine hend _ _ _ rfl rfl rfl ?_
    simp only [Bool.or_eq_true, decide_eq_true_eq]
    omega
  case neg =>
    have hyes := Decidable.not_not.1 hno
    obtain ⟨n, rfl⟩ := Int.eq_ofNat_of_zero_le (show 0 ≤ nv by omega)
    exact ltell_all w n (by omega) a ln c T hT hr (by omega) od

end Go.Proofs.YtjjedebjbgpimaaGreat
