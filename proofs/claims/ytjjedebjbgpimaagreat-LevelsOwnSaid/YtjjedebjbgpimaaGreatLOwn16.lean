/- LevelsOwn by contract. -/
import Derived.Test.YtjjedebjbgpimaaGreatLaw16
import Derived.Test.YtjjedebjbgpimaaGreatKReg
import Derived.Deep.DeepCutAuto
import Derived.Deep.CutBlock
namespace Go.Proofs.YtjjedebjbgpimaaGreat
open Go.RowKit Mile
set_option maxRecDepth 100000
theorem udN_le {n : Nat} {T : List Ar} {V : List Nat} (hok : NetOk n T) (k : Nat) : udN n T V k ≤ k * (2 * n) := by
  induction k with
  | zero => exact Nat.le_of_eq (by simp [udN])
  | succ k ih =>
    rw [udN_succ, Nat.succ_mul]
    have h1 := upV_len (V := V) hok (k : Int)
    have h2 := downV_len (V := V) hok (k : Int)
    omega
/-- What each operation of the statement leaves. -/
def lo_r9_0_V (p : Nat) (m : Nat) (tl : Nat) (k : Nat) (lL : Nat) (ra : Option Addr) (rc : Nat) (yf : Int) (yt : Int) (yw : Int) (ym : Int) (eb : Nat) (eo : Nat) : List Value :=
  [.pointer (some ⟨p, 0, none⟩),
   .pointer (some ⟨p, 0, none⟩),
   .pointer (some ⟨p, 0, none⟩),
   .pointer (some ⟨tl, 0, none⟩),
   .pointer (some ⟨m, 0, none⟩),
   .pointer (some ⟨m, 0, none⟩),
   .pointer (some ⟨m, 1, none⟩),
   .slice ra lL rc,
   .int .i64 (k : Int),
   .pointer (some ⟨eb, eo, none⟩),
   .pointer (some ⟨eb, eo, none⟩),
   .int .i64 yf,
   .pointer (some ⟨m, 0, none⟩),
   .pointer (some ⟨m, 0, none⟩),
   .pointer (some ⟨m, 1, none⟩),
   .slice ra lL rc,
   .int .i64 (k : Int),
   .pointer (some ⟨eb, eo, none⟩),
   .pointer (some ⟨eb, eo + 1, none⟩),
   .int .i64 yt,
   .tuple #[.agg #[.int .i64 yf, .int .i64 yt, .int .i64 yw, .int .i64 ym], .bool true],
   .tuple #[.agg #[.int .i64 yf, .int .i64 yt, .int .i64 yw, .int .i64 ym], .bool true],
   .agg #[.int .i64 yf, .int .i64 yt, .int .i64 yw, .int .i64 ym],
   .bool true,
   undef,
   undef,
   .bool true]
def lo_r9_0_D : List (List Nat) := [[], [0], [1], [2], [], [4], [5], [6], [], [7, 8], [9], [10], [], [12], [13], [14], [], [15, 16], [17], [18], [3, 11, 19], [20], [21], [21], [], [22, 24], [23]]

/-- What each operation of the statement leaves. -/
def lo_r9_1_V (p : Nat) (m : Nat) (tl : Nat) (k : Nat) (lL : Nat) (ra : Option Addr) (rc : Nat) (zw : Int) (zm : Int) (eb : Nat) (eo : Nat) (zf : Int) (zt : Int) : List Value :=
  [.pointer (some ⟨p, 0, none⟩),
   .pointer (some ⟨p, 0, none⟩),
   .pointer (some ⟨p, 0, none⟩),
   .pointer (some ⟨tl, 0, none⟩),
   .pointer (some ⟨m, 0, none⟩),
   .pointer (some ⟨m, 0, none⟩),
   .pointer (some ⟨m, 1, none⟩),
   .slice ra lL rc,
   .int .i64 (k : Int),
   .pointer (some ⟨eb, eo, none⟩),
   .pointer (some ⟨eb, eo, none⟩),
   .int .i64 zf,
   .pointer (some ⟨m, 0, none⟩),
   .pointer (some ⟨m, 0, none⟩),
   .pointer (some ⟨m, 1, none⟩),
   .slice ra lL rc,
   .int .i64 (k : Int),
   .pointer (some ⟨eb, eo, none⟩),
   .pointer (some ⟨eb, eo + 1, none⟩),
   .int .i64 zt,
   .tuple #[.agg #[.int .i64 zf, .int .i64 zt, .int .i64 zw, .int .i64 zm], .bool true],
   .tuple #[.agg #[.int .i64 zf, .int .i64 zt, .int .i64 zw, .int .i64 zm], .bool true],
   .agg #[.int .i64 zf, .int .i64 zt, .int .i64 zw, .int .i64 zm],
   .bool true,
   undef,
   undef,
   .bool true]
def lo_r9_1_D : List (List Nat) := [[], [0], [1], [2], [], [4], [5], [6], [], [7, 8], [9], [10], [], [12], [13], [14], [], [15, 16], [17], [18], [3, 11, 19], [20], [21], [21], [], [22, 24], [23]]

/-- What each operation of the statement leaves. -/
def lo_r19_2_V (p : Nat) (tl : Nat) (k : Nat) (lT : Nat) (aa : Option Addr) (ca : Nat) (ym : Int) (pf : Int) (pw : Int) (pm : Int) (eb : Nat) (eo : Nat) : List Value :=
  [.pointer (some ⟨p, 0, none⟩),
   .pointer (some ⟨p, 0, none⟩),
   .pointer (some ⟨p, 0, none⟩),
   .pointer (some ⟨tl, 0, none⟩),
   .slice aa lT ca,
   .int .i64 (k : Int),
   .pointer (some ⟨eb, eo, none⟩),
   .pointer (some ⟨eb, eo, none⟩),
   .int .i64 pf,
   .slice aa lT ca,
   .int .i64 (k : Int),
   .pointer (some ⟨eb, eo, none⟩),
   .pointer (some ⟨eb, eo + 3, none⟩),
   .int .i64 ym,
   .tuple #[.agg #[.int .i64 pf, .int .i64 ym, .int .i64 pw, .int .i64 pm], .bool true],
   .tuple #[.agg #[.int .i64 pf, .int .i64 ym, .int .i64 pw, .int .i64 pm], .bool true],
   .agg #[.int .i64 pf, .int .i64 ym, .int .i64 pw, .int .i64 pm],
   .bool true,
   undef,
   undef,
   .bool true]
def lo_r19_2_D : List (List Nat) := [[], [0], [1], [2], [], [], [4, 5], [6], [7], [], [], [9, 10], [11], [12], [3, 8, 13], [14], [15], [15], [], [16, 18], [17]]

/-- What each operation of the statement leaves. -/
def lo_r20_3_V (p : Nat) (tl : Nat) (k : Nat) (lT : Nat) (aa : Option Addr) (ca : Nat) (ym : Int) (qt : Int) (qw : Int) (qm : Int) (eb : Nat) (eo : Nat) : List Value :=
  [.pointer (some ⟨p, 0, none⟩),
   .pointer (some ⟨p, 0, none⟩),
   .pointer (some ⟨p, 0, none⟩),
   .pointer (some ⟨tl, 0, none⟩),
   .slice aa lT ca,
   .int .i64 (k : Int),
   .pointer (some ⟨eb, eo, none⟩),
   .pointer (some ⟨eb, eo + 3, none⟩),
   .int .i64 ym,
   .slice aa lT ca,
   .int .i64 (k : Int),
   .pointer (some ⟨eb, eo, none⟩),
   .pointer (some ⟨eb, eo + 1, none⟩),
   .int .i64 qt,
   .tuple #[.agg #[.int .i64 ym, .int .i64 qt, .int .i64 qw, .int .i64 qm], .bool true],
   .tuple #[.agg #[.int .i64 ym, .int .i64 qt, .int .i64 qw, .int .i64 qm], .bool true],
   .agg #[.int .i64 ym, .int .i64 qt, .int .i64 qw, .int .i64 qm],
   .bool true,
   undef,
   undef,
   .bool true]
def lo_r20_3_D : List (List Nat) := [[], [0], [1], [2], [], [], [4, 5], [6], [7], [], [], [9, 10], [11], [12], [3, 8, 13], [14], [15], [15], [], [16, 18], [17]]

set_option maxHeartbeats 64000000 in
theorem lown_all (w : World) (n : Nat) (h1n : 1 ≤ n) (h20 : n ≤ 20) (a : Option Addr) (ln c : Nat) (T0 : List T3) (hT : T0.length = ln) (hr : Rd w 3 (.slice a ln c) ln (T0.flatMap c3T)) (hln : ln ≤ 80) :
    Calls Tryz.prog 5 #[.int .i64 (n : Int), .slice a ln c] w fun e w' => e = .returned (.bool true) ∧ Mod (fun _ => False) w w' := by
  have y0 : decide ((n : Int) < 1) = false := by simp; omega
  have y1 : decide ((20 : Int) < (n : Int)) = false := by simp; omega
  have y2 : decide ((80 : Int) < (ln : Int)) = false := by simp; omega
  have y2n : decide (80 < ln) = false := by simp; omega
  obtain ⟨iA, hiA, hzA, hsA, hbA⟩ := info_parts Nt.infoA
  obtain ⟨P, hP⟩ := pick16 n (by omega)
  have HBU := Lib.hid (built16_any w n (by omega) a ln c T0 hT hr (by omega) P hP)
  have hok := net16_ok n T0
  have HIN := Lib.hid (net16_in n T0)
  obtain ⟨L, hL⟩ : ∃ L, net16 n T0 = L := ⟨_, rfl⟩
  unfold Bu16P at HBU
  rw [hL] at HBU hok HIN
  have hbo := bAt_ok P hok n (Nat.le_refl _)
  have hown := fun (y : Ar) (hy : y ∈ L) => bAt_own (n := n) P n hy
  have hhalf := bAt_half P hok n (Nat.le_refl _)
  have hall := fun (v : Nat) (hv : v < n) => bAt_all P hok hv
  obtain ⟨T, hTT⟩ : ∃ y, (bAt n P L n).T = y := ⟨_, rfl⟩
  obtain ⟨V, hVV⟩ : ∃ y, (bAt n P L n).V = y := ⟨_, rfl⟩
  have htok := hbo.tok
  have hvn := hbo.nod
  rw [hTT, hVV] at HBU
  rw [hTT] at htok hown hhalf
  rw [hVV] at hvn hall
  have hud := udN_all htok hvn hall
  have hul := fun (k : Nat) => udN_le (V := V) htok k
  have hnn : n * n ≤ 20 * 20 := Nat.mul_le_mul h20 h20
  have hlL4 : L.length ≤ 400 := by have := net_len hok; omega
  have hlT4 : T.length ≤ 400 := by have := net_len htok; omega
  obtain ⟨lL, hlL⟩ : ∃ y, L.length = y := ⟨_, rfl⟩
  obtain ⟨lT, hlT⟩ : ∃ y, T.length = y := ⟨_, rfl⟩
  rw [hlL] at hlL4
  rw [hlT] at hlT4 hud
  have HLL := Lib.hid hlL
  have HLT := Lib.hid hlT
  have HOK := Lib.hid (And.intro hok htok)
  have HOWN := Lib.hid hown
  have HHALF := Lib.hid hhalf
  have HUD := Lib.hid hud
  have HUL := Lib.hid hul
  clear hT hr hP hok hbo hL hTT hVV htok hnn hlL hlT hown hhalf hud hul hvn hall
  go_enter Tryz.func5, Tryz.ntmps5
  go_wp2_with fail
  refine HBU.out.mono ?_
  rintro e w1 ⟨p, F, p2, tq, rd, m, rfl, hlo, _, hrn, hm⟩
  obtain ⟨ra, rc, rb, rr, _⟩ := id hrn
  obtain ⟨tl, rd1, mb, FT, hlv, _⟩ := id hlo
  rw [HLL.out] at rb rr
  have HM1 := Lib.hid hm
  clear HBU hm
  have HS : Hid (Ev (Mod (fun _ => False) w1) w1) := Lib.hid (Ev.mod w1)
  replace HS := Lib.hid ((Ev.lo hlo).and HS.out)
  replace HS := Lib.hid ((Ev.blk rb).and HS.out)
  replace HS := Lib.hid ((Ev.rd rr).and HS.out)
  replace HS := Lib.hid ((Ev.blk hlv.blk).and HS.out)
  replace HS := Lib.hid ((Ev.nt hlv.net).and HS.out)
  clear hlo hrn rb rr hlv
  have hbm := (HS.out.now).2.2.2.1
  have qm_0 := hbm.cell 0 rfl
  have qm_1 := hbm.cell 1 rfl
  have lm := hbm.lt
  clear hbm
  have hbp := (HS.out.now).2.1
  have qp_0 := hbp.cell 0 rfl
  have qp_1 := hbp.cell 1 rfl
  have qp_2 := hbp.cell 2 rfl
  have lp := hbp.lt
  clear hbp
  go_wp2_with fail
  replace HS := Lib.hid ((Ev.mod w1).and HS.out)
  go_loopw [8] (fun i wr => ∃ k : Nat, k ≤ lL ∧ i = .int .i64 (k : Int) ∧ Mod (fun _ => False) w1 wr) (fun i _ => lL - (intOf i).toNat)
  case atStart => exact ⟨0, by omega, rfl, Mod.refl _ _⟩
  case round =>
    obtain ⟨k, hk, rfl, hmr⟩ := hrel
    obtain ⟨wo, hwo⟩ : ∃ x : World, x = wr := ⟨_, rfl⟩
    subst hwo
    replace HS := Lib.hid (HS.out.step hmr)
    clear hmr
    clear qm_0 qm_1 lm qp_0 qp_1 qp_2 lp
    have hbm := (HS.out.now).2.2.2.2.1
    have qm_0 := hbm.cell 0 rfl
    have qm_1 := hbm.cell 1 rfl
    have lm := hbm.lt
    clear hbm
    have hbp := (HS.out.now).2.2.1
    have qp_0 := hbp.cell 0 rfl
    have qp_1 := hbp.cell 1 rfl
    have qp_2 := hbp.cell 2 rfl
    have lp := hbp.lt
    clear hbp
    by_cases hlt : k < lL
    case pos =>
      have z0 : decide ((k : Int) < (lL : Int)) = true := by simp; omega
      have hkl : k < L.length := by rw [HLL.out]; exact hlt
      obtain ⟨z, hzT, hz1, hz2, hz3, hz4⟩ := HOWN.out L[k] (List.getElem_mem hkl)
      obtain ⟨y, hy⟩ : ∃ y, L[k] = y := ⟨_, rfl⟩
      rw [hy] at hz1 hz2 hz3 hz4
      obtain ⟨yf, yt, yw, ym⟩ := y
      have HX := Lib.hid hy
      clear hy
      simp only at hz1 hz2 hz3
      obtain ⟨eb, eo, hpe, e0, e1, e2, e3⟩ := rd4 ((HS.out.now).2.2.2.1) k hkl
      have hix := fun wx => run_indexS (P := Tryz.prog) wx 34 50 iA 4 Tryz.underlying34 hiA hsA ra lL rc k hlt (((HS.out.now).2.2.2.1).some_ (by omega))
      rw [hpe] at hix
      have HIe := Lib.hid hix
      clear hix hpe
      rw [HX.out] at e0 e1 e2 e3
      simp only at e0 e1 e2 e3
      replace HS := Lib.hid ((Ev.cell e0).and HS.out)
      replace HS := Lib.hid ((Ev.cell e1).and HS.out)
      replace HS := Lib.hid ((Ev.cell e2).and HS.out)
      replace HS := Lib.hid ((Ev.cell e3).and HS.out)
      clear e0 e1 e2 e3
      have hfz := findN_some HOK.out.2.sort hzT
      rw [hz1, hz2] at hfz
      by_cases hzm : z.m < 0
      · skip
        obtain rfl := hz4 hzm
        have HF1 := Lib.hid hfz
        simp only at hzm
        have z5 : decide (yw < yw) = false := by simp
        have z6 : decide (ym < 0) = true := decide_eq_true hzm
        clear hfz hz1 hz2 hz3 hz4 hzT hzm
        go_upto_region 9 with fail
        clear qm_0 qm_1 lm qp_0 qp_1 qp_2 lp
        obtain ⟨B0, hB0⟩ : ∃ n, wo.heap.size = n := ⟨_, rfl⟩
        have HB0 := Lib.hid hB0
        clear hB0
        have HSd := Lib.hid HS.out.drew
        refine wp_region_box (act := ?actlo_r9_0) B0 50 [.int .i64 0, .int .i64 0, .int .i64 0, .int .i64 0] [.int .i64 yf, .int .i64 yt, .int .i64 yw, .int .i64 ym] 24 25 (lo_r9_0_V p m tl k lL ra rc yf yt yw ym eb eo) (fun i => lo_r9_0_D.getD i []) (by decide) (by kernel_rfl) (by kernel_rfl) (by kernel_rfl) (by kernel_rfl) ?hactlo_r9_0 ?_ ?_
        case hactlo_r9_0 => intro vs; simp only [putAll, Nat.zero_add, Nat.reduceAdd, Act.put, List.setIfInBounds_toArray, List.set_cons_succ, List.set_cons_zero]; exact rfl
        · refine opsOkV_cons ?_ ?_
          · intro K vs W hR hD hK
            clear hD
            try dsimp only at hK ⊢
            simp only [Act.put, List.setIfInBounds_toArray, List.set_cons_succ, List.set_cons_zero] at hK
            go_wp2
            exact hK _ _ (boxF_of (by decide) (by decide) rfl) (BoxR.refl _ _ _ _ _)
          refine opsOkV_cons ?_ ?_
          · intro K vs W hR hD hK
            have dq0 : vs 0 = .pointer (some ⟨p, 0, none⟩) := boxF_val (by decide) (by decide) (hD 0 (by decide))
            clear hD
            try dsimp only at hK ⊢
            simp only [Act.put, List.setIfInBounds_toArray, List.set_cons_succ, List.set_cons_zero] at hK
            generalize vs 0 = vq0 at hK dq0 ⊢
            subst vq0
            go_wp2
            exact hK _ _ (boxF_of (by decide) (by decide) rfl) (BoxR.refl _ _ _ _ _)
          refine opsOkV_cons ?_ ?_
          · intro K vs W hR hD hK
            have dq1 : vs 1 = .pointer (some ⟨p, 0, none⟩) := boxF_val (by decide) (by decide) (hD 1 (by decide))
            clear hD
            try dsimp only at hK ⊢
            simp only [Act.put, List.setIfInBounds_toArray, List.set_cons_succ, List.set_cons_zero] at hK
            generalize vs 1 = vq1 at hK dq1 ⊢
            subst vq1
            go_wp2
            exact hK _ _ (boxF_of (by decide) (by decide) rfl) (BoxR.refl _ _ _ _ _)
          refine opsOkV_cons ?_ ?_
          · intro K vs W hR hD hK
            have dq2 : vs 2 = .pointer (some ⟨p, 0, none⟩) := boxF_val (by decide) (by decide) (hD 2 (by decide))
            clear hD
            try dsimp only at hK ⊢
            simp only [Act.put, List.setIfInBounds_toArray, List.set_cons_succ, List.set_cons_zero] at hK
            generalize vs 2 = vq2 at hK dq2 ⊢
            subst vq2
            have q0 := ((HSd.out.at ((hR.mod.mono (fun k hk e => by have h := HB0.out; simp at hk; omega)))).2.2.2.2.2.2.1).cell 0 rfl
            go_wp2
            exact hK _ _ (boxF_of (by decide) (by decide) rfl) (BoxR.refl _ _ _ _ _)
          refine opsOkV_cons ?_ ?_
          · intro K vs W hR hD hK
            clear hD
            try dsimp only at hK ⊢
            simp only [Act.put, List.setIfInBounds_toArray, List.set_cons_succ, List.set_cons_zero] at hK
            go_wp2
            exact hK _ _ (boxF_of (by decide) (by decide) rfl) (BoxR.refl _ _ _ _ _)
          refine opsOkV_cons ?_ ?_
          · intro K vs W hR hD hK
            have dq4 : vs 4 = .pointer (some ⟨m, 0, none⟩) := boxF_val (by decide) (by decide) (hD 4 (by decide))
            clear hD
            try dsimp only at hK ⊢
            simp only [Act.put, List.setIfInBounds_toArray, List.set_cons_succ, List.set_cons_zero] at hK
            generalize vs 4 = vq4 at hK dq4 ⊢
            subst vq4
            go_wp2
            exact hK _ _ (boxF_of (by decide) (by decide) rfl) (BoxR.refl _ _ _ _ _)
          refine opsOkV_cons ?_ ?_
          · intro K vs W hR hD hK
            have dq5 : vs 5 = .pointer (some ⟨m, 0, none⟩) := boxF_val (by decide) (by decide) (hD 5 (by decide))
            clear hD
            try dsimp only at hK ⊢
            simp only [Act.put, List.setIfInBounds_toArray, List.set_cons_succ, List.set_cons_zero] at hK
            generalize vs 5 = vq5 at hK dq5 ⊢
            subst vq5
            go_wp2
            exact hK _ _ (boxF_of (by decide) (by decide) rfl) (BoxR.refl _ _ _ _ _)
          refine opsOkV_cons ?_ ?_
          · intro K vs W hR hD hK
            have dq6 : vs 6 = .pointer (some ⟨m, 1, none⟩) := boxF_val (by decide) (by decide) (hD 6 (by decide))
            clear hD
            try dsimp only at hK ⊢
            simp only [Act.put, List.setIfInBounds_toArray, List.set_cons_succ, List.set_cons_zero] at hK
            generalize vs 6 = vq6 at hK dq6 ⊢
            subst vq6
            have q0 := ((HSd.out.at ((hR.mod.mono (fun k hk e => by have h := HB0.out; simp at hk; omega)))).2.2.2.2.2.2.2.2.1).cell 1 rfl
            go_wp2
            exact hK _ _ (boxF_of (by decide) (by decide) rfl) (BoxR.refl _ _ _ _ _)
          refine opsOkV_cons ?_ ?_
          · intro K vs W hR hD hK
            clear hD
            try dsimp only at hK ⊢
            simp only [Act.put, List.setIfInBounds_toArray, List.set_cons_succ, List.set_cons_zero] at hK
            go_wp2
            exact hK _ _ (boxF_of (by decide) (by decide) rfl) (BoxR.refl _ _ _ _ _)
          refine opsOkV_cons ?_ ?_
          · intro K vs W hR hD hK
            have dq7 : vs 7 = .slice ra lL rc := boxF_val (by decide) (by decide) (hD 7 (by decide))
            have dq8 : vs 8 = .int .i64 (k : Int) := boxF_val (by decide) (by decide) (hD 8 (by decide))
            clear hD
            try dsimp only at hK ⊢
            simp only [Act.put, List.setIfInBounds_toArray, List.set_cons_succ, List.set_cons_zero] at hK
            generalize vs 7 = vq7 at hK dq7 ⊢
            subst vq7
            generalize vs 8 = vq8 at hK dq8 ⊢
            subst vq8
            have hix := HIe.out
            go_wp2_with fail
            exact hK _ _ (boxF_of (by decide) (by decide) rfl) (BoxR.refl _ _ _ _ _)
          refine opsOkV_cons ?_ ?_
          · intro K vs W hR hD hK
            have dq9 : vs 9 = .pointer (some ⟨eb, eo, none⟩) := boxF_val (by decide) (by decide) (hD 9 (by decide))
            clear hD
            try dsimp only at hK ⊢
            simp only [Act.put, List.setIfInBounds_toArray, List.set_cons_succ, List.set_cons_zero] at hK
            generalize vs 9 = vq9 at hK dq9 ⊢
            subst vq9
            go_wp2
            exact hK _ _ (boxF_of (by decide) (by decide) rfl) (BoxR.refl _ _ _ _ _)
          refine opsOkV_cons ?_ ?_
          · intro K vs W hR hD hK
            have dq10 : vs 10 = .pointer (some ⟨eb, eo, none⟩) := boxF_val (by decide) (by decide) (hD 10 (by decide))
            clear hD
            try dsimp only at hK ⊢
            simp only [Act.put, List.setIfInBounds_toArray, List.set_cons_succ, List.set_cons_zero] at hK
            generalize vs 10 = vq10 at hK dq10 ⊢
            subst vq10
            have c0 := (HSd.out.at ((hR.mod.mono (fun k hk e => by have h := HB0.out; simp at hk; omega)))).2.2.2.1
            go_wp2
            exact hK _ _ (boxF_of (by decide) (by decide) rfl) (BoxR.refl _ _ _ _ _)
          refine opsOkV_cons ?_ ?_
          · intro K vs W hR hD hK
            clear hD
            try dsimp only at hK ⊢
            simp only [Act.put, List.setIfInBounds_toArray, List.set_cons_succ, List.set_cons_zero] at hK
            go_wp2
            exact hK _ _ (boxF_of (by decide) (by decide) rfl) (BoxR.refl _ _ _ _ _)
          refine opsOkV_cons ?_ ?_
          · intro K vs W hR hD hK
            have dq12 : vs 12 = .pointer (some ⟨m, 0, none⟩) := boxF_val (by decide) (by decide) (hD 12 (by decide))
            clear hD
            try dsimp only at hK ⊢
            simp only [Act.put, List.setIfInBounds_toArray, List.set_cons_succ, List.set_cons_zero] at hK
            generalize vs 12 = vq12 at hK dq12 ⊢
            subst vq12
            go_wp2
            exact hK _ _ (boxF_of (by decide) (by decide) rfl) (BoxR.refl _ _ _ _ _)
          refine opsOkV_cons ?_ ?_
          · intro K vs W hR hD hK
            have dq13 : vs 13 = .pointer (some ⟨m, 0, none⟩) := boxF_val (by decide) (by decide) (hD 13 (by decide))
            clear hD
            try dsimp only at hK ⊢
            simp only [Act.put, List.setIfInBounds_toArray, List.set_cons_succ, List.set_cons_zero] at hK
            generalize vs 13 = vq13 at hK dq13 ⊢
            subst vq13
            go_wp2
            exact hK _ _ (boxF_of (by decide) (by decide) rfl) (BoxR.refl _ _ _ _ _)
          refine opsOkV_cons ?_ ?_
          · intro K vs W hR hD hK
            have dq14 : vs 14 = .pointer (some ⟨m, 1, none⟩) := boxF_val (by decide) (by decide) (hD 14 (by decide))
            clear hD
            try dsimp only at hK ⊢
            simp only [Act.put, List.setIfInBounds_toArray, List.set_cons_succ, List.set_cons_zero] at hK
            generalize vs 14 = vq14 at hK dq14 ⊢
            subst vq14
            have q0 := ((HSd.out.at ((hR.mod.mono (fun k hk e => by have h := HB0.out; simp at hk; omega)))).2.2.2.2.2.2.2.2.1).cell 1 rfl
            go_wp2
            exact hK _ _ (boxF_of (by decide) (by decide) rfl) (BoxR.refl _ _ _ _ _)
          refine opsOkV_cons ?_ ?_
          · intro K vs W hR hD hK
            clear hD
            try dsimp only at hK ⊢
            simp only [Act.put, List.setIfInBounds_toArray, List.set_cons_succ, List.set_cons_zero] at hK
            go_wp2
            exact hK _ _ (boxF_of (by decide) (by decide) rfl) (BoxR.refl _ _ _ _ _)
          refine opsOkV_cons ?_ ?_
          · intro K vs W hR hD hK
            have dq15 : vs 15 = .slice ra lL rc := boxF_val (by decide) (by decide) (hD 15 (by decide))
            have dq16 : vs 16 = .int .i64 (k : Int) := boxF_val (by decide) (by decide) (hD 16 (by decide))
            clear hD
            try dsimp only at hK ⊢
            simp only [Act.put, List.setIfInBounds_toArray, List.set_cons_succ, List.set_cons_zero] at hK
            generalize vs 15 = vq15 at hK dq15 ⊢
            subst vq15
            generalize vs 16 = vq16 at hK dq16 ⊢
            subst vq16
            have hix := HIe.out
            go_wp2_with fail
            exact hK _ _ (boxF_of (by decide) (by decide) rfl) (BoxR.refl _ _ _ _ _)
          refine opsOkV_cons ?_ ?_
          · intro K vs W hR hD hK
            have dq17 : vs 17 = .pointer (some ⟨eb, eo, none⟩) := boxF_val (by decide) (by decide) (hD 17 (by decide))
            clear hD
            try dsimp only at hK ⊢
            simp only [Act.put, List.setIfInBounds_toArray, List.set_cons_succ, List.set_cons_zero] at hK
            generalize vs 17 = vq17 at hK dq17 ⊢
            subst vq17
            go_wp2
            exact hK _ _ (boxF_of (by decide) (by decide) rfl) (BoxR.refl _ _ _ _ _)
          refine opsOkV_cons ?_ ?_
          · intro K vs W hR hD hK
            have dq18 : vs 18 = .pointer (some ⟨eb, eo + 1, none⟩) := boxF_val (by decide) (by decide) (hD 18 (by decide))
            clear hD
            try dsimp only at hK ⊢
            simp only [Act.put, List.setIfInBounds_toArray, List.set_cons_succ, List.set_cons_zero] at hK
            generalize vs 18 = vq18 at hK dq18 ⊢
            subst vq18
            have c1 := (HSd.out.at ((hR.mod.mono (fun k hk e => by have h := HB0.out; simp at hk; omega)))).2.2.1
            go_wp2
            exact hK _ _ (boxF_of (by decide) (by decide) rfl) (BoxR.refl _ _ _ _ _)
          refine opsOkV_cons ?_ ?_
          · intro K vs W hR hD hK
            have dq3 : vs 3 = .pointer (some ⟨tl, 0, none⟩) := boxF_val (by decide) (by decide) (hD 3 (by decide))
            have dq11 : vs 11 = .int .i64 yf := boxF_val (by decide) (by decide) (hD 11 (by decide))
            have dq19 : vs 19 = .int .i64 yt := boxF_val (by decide) (by decide) (hD 19 (by decide))
            clear hD
            try dsimp only at hK ⊢
            simp only [Act.put, List.setIfInBounds_toArray, List.set_cons_succ, List.set_cons_zero] at hK
            generalize vs 3 = vq3 at hK dq3 ⊢
            subst vq3
            generalize vs 11 = vq11 at hK dq11 ⊢
            subst vq11
            generalize vs 19 = vq19 at hK dq19 ⊢
            subst vq19
            go_wp2_with (go_at_call 30; refine (nt_arc ((HSd.out.at ((hR.mod.mono (fun k hk e => by have h := HB0.out; simp at hk; omega)))).2.2.2.2.2.1) yf yt).mono ?_; rintro e' w' ⟨rfl, hm'⟩; rw [HF1.out])
            exact hK _ _ (boxF_of (by decide) (by decide) rfl) (BoxR.of hm')
          refine opsOkV_cons ?_ ?_
          · intro K vs W hR hD hK
            have dq20 : vs 20 = .tuple #[.agg #[.int .i64 yf, .int .i64 yt, .int .i64 yw, .int .i64 ym], .bool true] := boxF_val (by decide) (by decide) (hD 20 (by decide))
            clear hD
            try dsimp only at hK ⊢
            simp only [Act.put, List.setIfInBounds_toArray, List.set_cons_succ, List.set_cons_zero] at hK
            generalize vs 20 = vq20 at hK dq20 ⊢
            subst vq20
            go_wp2
            exact hK _ _ (boxF_of (by decide) (by decide) rfl) (BoxR.refl _ _ _ _ _)
          refine opsOkV_cons ?_ ?_
          · intro K vs W hR hD hK
            have dq21 : vs 21 = .tuple #[.agg #[.int .i64 yf, .int .i64 yt, .int .i64 yw, .int .i64 ym], .bool true] := boxF_val (by decide) (by decide) (hD 21 (by decide))
            clear hD
            try dsimp only at hK ⊢
            simp only [Act.put, List.setIfInBounds_toArray, List.set_cons_succ, List.set_cons_zero] at hK
            generalize vs 21 = vq21 at hK dq21 ⊢
            subst vq21
            go_wp2
            exact hK _ _ (boxF_of (by decide) (by decide) rfl) (BoxR.refl _ _ _ _ _)
          refine opsOkV_cons ?_ ?_
          · intro K vs W hR hD hK
            have dq21 : vs 21 = .tuple #[.agg #[.int .i64 yf, .int .i64 yt, .int .i64 yw, .int .i64 ym], .bool true] := boxF_val (by decide) (by decide) (hD 21 (by decide))
            clear hD
            try dsimp only at hK ⊢
            simp only [Act.put, List.setIfInBounds_toArray, List.set_cons_succ, List.set_cons_zero] at hK
            generalize vs 21 = vq21 at hK dq21 ⊢
            subst vq21
            go_wp2
            exact hK _ _ (boxF_of (by decide) (by decide) rfl) (BoxR.refl _ _ _ _ _)
          refine opsOkV_cons ?_ ?_
          · intro K vs W hR hD hK
            clear hD
            try dsimp only at hK ⊢
            simp only [Act.put, List.setIfInBounds_toArray, List.set_cons_succ, List.set_cons_zero] at hK
            have hz : B0 ≤ W.heap.size := by have h := HB0.out; have h2 := hR.mod.size; simp at h2; omega
            go_wp2
            exact hK _ _ (boxF_of_var hz (Blk.new W 50 [.int .i64 0, .int .i64 0, .int .i64 0, .int .i64 0])) (BoxR.of (Mod.alloc _ _ _))
          refine opsOkV_cons ?_ ?_
          · intro K vs W hR hD hK
            obtain ⟨bb, hvb, hB, hbl⟩ := boxF_var (hD 24 (by decide))
            have dq22 : vs 22 = .agg #[.int .i64 yf, .int .i64 yt, .int .i64 yw, .int .i64 ym] := boxF_val (by decide) (by decide) (hD 22 (by decide))
            clear hD
            try dsimp only at hK ⊢
            simp only [Act.put, List.setIfInBounds_toArray, List.set_cons_succ, List.set_cons_zero] at hK
            generalize vs 22 = vq22 at hK dq22 ⊢
            subst vq22
            rw [hvb] at hK ⊢
            rcases hbl with hbl | hbl
            all_goals
              have c0 := hbl.cell 0 rfl
              have c1 := hbl.cell 1 rfl
              have c2 := hbl.cell 2 rfl
              have c3 := hbl.cell 3 rfl
              have f0 := hbl.free 0
              have f1 := hbl.free 1
              have f2 := hbl.free 2
              have f3 := hbl.free 3
              go_wp2
              exact hK undef _ (boxF_of_fill (by decide) hvb hB ((((hbl.set 0 (.int .i64 yf)).set 1 (.int .i64 yt)).set 2 (.int .i64 yw)).set 3 (.int .i64 ym))) (BoxR.fill hB ((((Mod.setCell (F := fun k => k = bb) (W) ⟨bb, 0, none⟩ (.int .i64 yf) rfl).trans (Mod.setCell (F := fun k => k = bb) (World.setCell (W) ⟨bb, 0, none⟩ (.int .i64 yf)) ⟨bb, 1, none⟩ (.int .i64 yt) rfl) (fun _ _ e => e) (fun _ _ e => e)).trans (Mod.setCell (F := fun k => k = bb) (World.setCell (World.setCell (W) ⟨bb, 0, none⟩ (.int .i64 yf)) ⟨bb, 1, none⟩ (.int .i64 yt)) ⟨bb, 2, none⟩ (.int .i64 yw) rfl) (fun _ _ e => e) (fun _ _ e => e)).trans (Mod.setCell (F := fun k => k = bb) (World.setCell (World.setCell (World.setCell (W) ⟨bb, 0, none⟩ (.int .i64 yf)) ⟨bb, 1, none⟩ (.int .i64 yt)) ⟨bb, 2, none⟩ (.int .i64 yw)) ⟨bb, 3, none⟩ (.int .i64 ym) rfl) (fun _ _ e => e) (fun _ _ e => e)) ((((hbl.set 0 (.int .i64 yf)).set 1 (.int .i64 yt)).set 2 (.int .i64 yw)).set 3 (.int .i64 ym)))
          refine opsOkV_cons ?_ ?_
          · intro K vs W hR hD hK
            have dq23 : vs 23 = .bool true := boxF_val (by decide) (by decide) (hD 23 (by decide))
            clear hD
            try dsimp only at hK ⊢
            simp only [Act.put, List.setIfInBounds_toArray, List.set_cons_succ, List.set_cons_zero] at hK
            generalize vs 23 = vq23 at hK dq23 ⊢
            subst vq23
            go_wp2
            exact hK _ _ (boxF_of (by decide) (by decide) rfl) (BoxR.refl _ _ _ _ _)
          exact opsOkV_nil
        · intro vs wq1 hR hF
          obtain ⟨bx, hvb, _, hbl⟩ := boxF_fill (by decide) (hF 25 (by decide))
          have dq26 : vs 26 = .bool true := boxF_val (by decide) (by decide) (hF 26 (by decide))
          clear hF
          try dsimp only
          rw [hvb]
          generalize vs 26 = vq26 at dq26 ⊢
          subst dq26
          replace HS := Lib.hid (HSd.out.step (hR.mod.mono (fun k hk e => by have h := HB0.out; simp at hk; omega)))
          clear HSd hR hvb
          replace HS := Lib.hid ((Ev.blk hbl).and HS.out)
          clear hbl
          have hbm := (HS.out.now).2.2.2.2.2.2.2.2.2.1
          have qm_0 := hbm.cell 0 rfl
          have qm_1 := hbm.cell 1 rfl
          have lm := hbm.lt
          clear hbm
          have hbp := (HS.out.now).2.2.2.2.2.2.2.1
          have qp_0 := hbp.cell 0 rfl
          have qp_1 := hbp.cell 1 rfl
          have qp_2 := hbp.cell 2 rfl
          have lp := hbp.lt
          clear hbp
          have hbbx := (HS.out.now).1
          have qbx_0 := hbbx.cell 0 rfl
          have qbx_1 := hbbx.cell 1 rfl
          have qbx_2 := hbbx.cell 2 rfl
          have qbx_3 := hbbx.cell 3 rfl
          have lbx := hbbx.lt
          clear hbbx
          have c0 := (HS.out.now).2.2.2.2.1
          have c1 := (HS.out.now).2.2.2.1
          have c2 := (HS.out.now).2.2.1
          have c3 := (HS.out.now).2.1
          have hix := HIe.out
          go_upto_region 10 with fail
          go_quiet (fail)
          go_wp2_with fail
          have HMQ := Lib.hid (Mod.drewN (fun _ => False) wq1 nq)
          go_roundw
          case rel => exact ⟨k + 1, hlt, by go_num, ((HS.out.now).2.2.2.2.2.1).of2 HMQ.out⟩
          case measure => simp [intOf]; omega
      · skip
        obtain ⟨zf, zt, zw, zm⟩ := z
        simp only at hz1 hz2 hz3 hzm
        subst hz1
        subst hz2
        have HF1 := Lib.hid hfz
        have z5 : decide (yw < zw) = false := by simp; omega
        have z6 : decide (zm < 0) = false := by simp; omega
        clear hfz hz3 hz4 hzT hzm
        go_upto_region 9 with fail
        clear qm_0 qm_1 lm qp_0 qp_1 qp_2 lp
        obtain ⟨B0, hB0⟩ : ∃ n, wo.heap.size = n := ⟨_, rfl⟩
        have HB0 := Lib.hid hB0
        clear hB0
        have HSd := Lib.hid HS.out.drew
        refine wp_region_box (act := ?actlo_r9_1) B0 50 [.int .i64 0, .int .i64 0, .int .i64 0, .int .i64 0] [.int .i64 zf, .int .i64 zt, .int .i64 zw, .int .i64 zm] 24 25 (lo_r9_1_V p m tl k lL ra rc zw zm eb eo zf zt) (fun i => lo_r9_1_D.getD i []) (by decide) (by kernel_rfl) (by kernel_rfl) (by kernel_rfl) (by kernel_rfl) ?hactlo_r9_1 ?_ ?_
        case hactlo_r9_1 => intro vs; simp only [putAll, Nat.zero_add, Nat.reduceAdd, Act.put, List.setIfInBounds_toArray, List.set_cons_succ, List.set_cons_zero]; exact rfl
        · refine opsOkV_cons ?_ ?_
          · intro K vs W hR hD hK
            clear hD
            try dsimp only at hK ⊢
            simp only [Act.put, List.setIfInBounds_toArray, List.set_cons_succ, List.set_cons_zero] at hK
            go_wp2
            exact hK _ _ (boxF_of (by decide) (by decide) rfl) (BoxR.refl _ _ _ _ _)
          refine opsOkV_cons ?_ ?_
          · intro K vs W hR hD hK
            have dq0 : vs 0 = .pointer (some ⟨p, 0, none⟩) := boxF_val (by decide) (by decide) (hD 0 (by decide))
            clear hD
            try dsimp only at hK ⊢
            simp only [Act.put, List.setIfInBounds_toArray, List.set_cons_succ, List.set_cons_zero] at hK
            generalize vs 0 = vq0 at hK dq0 ⊢
            subst vq0
            go_wp2
            exact hK _ _ (boxF_of (by decide) (by decide) rfl) (BoxR.refl _ _ _ _ _)
          refine opsOkV_cons ?_ ?_
          · intro K vs W hR hD hK
            have dq1 : vs 1 = .pointer (some ⟨p, 0, none⟩) := boxF_val (by decide) (by decide) (hD 1 (by decide))
            clear hD
            try dsimp only at hK ⊢
            simp only [Act.put, List.setIfInBounds_toArray, List.set_cons_succ, List.set_cons_zero] at hK
            generalize vs 1 = vq1 at hK dq1 ⊢
            subst vq1
            go_wp2
            exact hK _ _ (boxF_of (by decide) (by decide) rfl) (BoxR.refl _ _ _ _ _)
          refine opsOkV_cons ?_ ?_
          · intro K vs W hR hD hK
            have dq2 : vs 2 = .pointer (some ⟨p, 0, none⟩) := boxF_val (by decide) (by decide) (hD 2 (by decide))
            clear hD
            try dsimp only at hK ⊢
            simp only [Act.put, List.setIfInBounds_toArray, List.set_cons_succ, List.set_cons_zero] at hK
            generalize vs 2 = vq2 at hK dq2 ⊢
            subst vq2
            have q0 := ((HSd.out.at ((hR.mod.mono (fun k hk e => by have h := HB0.out; simp at hk; omega)))).2.2.2.2.2.2.1).cell 0 rfl
            go_wp2
            exact hK _ _ (boxF_of (by decide) (by decide) rfl) (BoxR.refl _ _ _ _ _)
          refine opsOkV_cons ?_ ?_
          · intro K vs W hR hD hK
            clear hD
            try dsimp only at hK ⊢
            simp only [Act.put, List.setIfInBounds_toArray, List.set_cons_succ, List.set_cons_zero] at hK
            go_wp2
            exact hK _ _ (boxF_of (by decide) (by decide) rfl) (BoxR.refl _ _ _ _ _)
          refine opsOkV_cons ?_ ?_
          · intro K vs W hR hD hK
            have dq4 : vs 4 = .pointer (some ⟨m, 0, none⟩) := boxF_val (by decide) (by decide) (hD 4 (by decide))
            clear hD
            try dsimp only at hK ⊢
            simp only [Act.put, List.setIfInBounds_toArray, List.set_cons_succ, List.set_cons_zero] at hK
            generalize vs 4 = vq4 at hK dq4 ⊢
            subst vq4
            go_wp2
            exact hK _ _ (boxF_of (by decide) (by decide) rfl) (BoxR.refl _ _ _ _ _)
          refine opsOkV_cons ?_ ?_
          · intro K vs W hR hD hK
            have dq5 : vs 5 = .pointer (some ⟨m, 0, none⟩) := boxF_val (by decide) (by decide) (hD 5 (by decide))
            clear hD
            try dsimp only at hK ⊢
            simp only [Act.put, List.setIfInBounds_toArray, List.set_cons_succ, List.set_cons_zero] at hK
            generalize vs 5 = vq5 at hK dq5 ⊢
            subst vq5
            go_wp2
            exact hK _ _ (boxF_of (by decide) (by decide) rfl) (BoxR.refl _ _ _ _ _)
          refine opsOkV_cons ?_ ?_
          · intro K vs W hR hD hK
            have dq6 : vs 6 = .pointer (some ⟨m, 1, none⟩) := boxF_val (by decide) (by decide) (hD 6 (by decide))
            clear hD
            try dsimp only at hK ⊢
            simp only [Act.put, List.setIfInBounds_toArray, List.set_cons_succ, List.set_cons_zero] at hK
            generalize vs 6 = vq6 at hK dq6 ⊢
            subst vq6
            have q0 := ((HSd.out.at ((hR.mod.mono (fun k hk e => by have h := HB0.out; simp at hk; omega)))).2.2.2.2.2.2.2.2.1).cell 1 rfl
            go_wp2
            exact hK _ _ (boxF_of (by decide) (by decide) rfl) (BoxR.refl _ _ _ _ _)
          refine opsOkV_cons ?_ ?_
          · intro K vs W hR hD hK
            clear hD
            try dsimp only at hK ⊢
            simp only [Act.put, List.setIfInBounds_toArray, List.set_cons_succ, List.set_cons_zero] at hK
            go_wp2
            exact hK _ _ (boxF_of (by decide) (by decide) rfl) (BoxR.refl _ _ _ _ _)
          refine opsOkV_cons ?_ ?_
          · intro K vs W hR hD hK
            have dq7 : vs 7 = .slice ra lL rc := boxF_val (by decide) (by decide) (hD 7 (by decide))
            have dq8 : vs 8 = .int .i64 (k : Int) := boxF_val (by decide) (by decide) (hD 8 (by decide))
            clear hD
            try dsimp only at hK ⊢
            simp only [Act.put, List.setIfInBounds_toArray, List.set_cons_succ, List.set_cons_zero] at hK
            generalize vs 7 = vq7 at hK dq7 ⊢
            subst vq7
            generalize vs 8 = vq8 at hK dq8 ⊢
            subst vq8
            have hix := HIe.out
            go_wp2_with fail
            exact hK _ _ (boxF_of (by decide) (by decide) rfl) (BoxR.refl _ _ _ _ _)
          refine opsOkV_cons ?_ ?_
          · intro K vs W hR hD hK
            have dq9 : vs 9 = .pointer (some ⟨eb, eo, none⟩) := boxF_val (by decide) (by decide) (hD 9 (by decide))
            clear hD
            try dsimp only at hK ⊢
            simp only [Act.put, List.setIfInBounds_toArray, List.set_cons_succ, List.set_cons_zero] at hK
            generalize vs 9 = vq9 at hK dq9 ⊢
            subst vq9
            go_wp2
            exact hK _ _ (boxF_of (by decide) (by decide) rfl) (BoxR.refl _ _ _ _ _)
          refine opsOkV_cons ?_ ?_
          · intro K vs W hR hD hK
            have dq10 : vs 10 = .pointer (some ⟨eb, eo, none⟩) := boxF_val (by decide) (by decide) (hD 10 (by decide))
            clear hD
            try dsimp only at hK ⊢
            simp only [Act.put, List.setIfInBounds_toArray, List.set_cons_succ, List.set_cons_zero] at hK
            generalize vs 10 = vq10 at hK dq10 ⊢
            subst vq10
            have c0 := (HSd.out.at ((hR.mod.mono (fun k hk e => by have h := HB0.out; simp at hk; omega)))).2.2.2.1
            go_wp2
            exact hK _ _ (boxF_of (by decide) (by decide) rfl) (BoxR.refl _ _ _ _ _)
          refine opsOkV_cons ?_ ?_
          · intro K vs W hR hD hK
            clear hD
            try dsimp only at hK ⊢
            simp only [Act.put, List.setIfInBounds_toArray, List.set_cons_succ, List.set_cons_zero] at hK
            go_wp2
            exact hK _ _ (boxF_of (by decide) (by decide) rfl) (BoxR.refl _ _ _ _ _)
          refine opsOkV_cons ?_ ?_
          · intro K vs W hR hD hK
            have dq12 : vs 12 = .pointer (some ⟨m, 0, none⟩) := boxF_val (by decide) (by decide) (hD 12 (by decide))
            clear hD
            try dsimp only at hK ⊢
            simp only [Act.put, List.setIfInBounds_toArray, List.set_cons_succ, List.set_cons_zero] at hK
            generalize vs 12 = vq12 at hK dq12 ⊢
            subst vq12
            go_wp2
            exact hK _ _ (boxF_of (by decide) (by decide) rfl) (BoxR.refl _ _ _ _ _)
          refine opsOkV_cons ?_ ?_
          · intro K vs W hR hD hK
            have dq13 : vs 13 = .pointer (some ⟨m, 0, none⟩) := boxF_val (by decide) (by decide) (hD 13 (by decide))
            clear hD
            try dsimp only at hK ⊢
            simp only [Act.put, List.setIfInBounds_toArray, List.set_cons_succ, List.set_cons_zero] at hK
            generalize vs 13 = vq13 at hK dq13 ⊢
            subst vq13
            go_wp2
            exact hK _ _ (boxF_of (by decide) (by decide) rfl) (BoxR.refl _ _ _ _ _)
          refine opsOkV_cons ?_ ?_
          · intro K vs W hR hD hK
            have dq14 : vs 14 = .pointer (some ⟨m, 1, none⟩) := boxF_val (by decide) (by decide) (hD 14 (by decide))
            clear hD
            try dsimp only at hK ⊢
            simp only [Act.put, List.setIfInBounds_toArray, List.set_cons_succ, List.set_cons_zero] at hK
            generalize vs 14 = vq14 at hK dq14 ⊢
            subst vq14
            have q0 := ((HSd.out.at ((hR.mod.mono (fun k hk e => by have h := HB0.out; simp at hk; omega)))).2.2.2.2.2.2.2.2.1).cell 1 rfl
            go_wp2
            exact hK _ _ (boxF_of (by decide) (by decide) rfl) (BoxR.refl _ _ _ _ _)
          refine opsOkV_cons ?_ ?_
          · intro K vs W hR hD hK
            clear hD
            try dsimp only at hK ⊢
            simp only [Act.put, List.setIfInBounds_toArray, List.set_cons_succ, List.set_cons_zero] at hK
            go_wp2
            exact hK _ _ (boxF_of (by decide) (by decide) rfl) (BoxR.refl _ _ _ _ _)
          refine opsOkV_cons ?_ ?_
          · intro K vs W hR hD hK
            have dq15 : vs 15 = .slice ra lL rc := boxF_val (by decide) (by decide) (hD 15 (by decide))
            have dq16 : vs 16 = .int .i64 (k : Int) := boxF_val (by decide) (by decide) (hD 16 (by decide))
            clear hD
            try dsimp only at hK ⊢
            simp only [Act.put, List.setIfInBounds_toArray, List.set_cons_succ, List.set_cons_zero] at hK
            generalize vs 15 = vq15 at hK dq15 ⊢
            subst vq15
            generalize vs 16 = vq16 at hK dq16 ⊢
            subst vq16
            have hix := HIe.out
            go_wp2_with fail
            exact hK _ _ (boxF_of (by decide) (by decide) rfl) (BoxR.refl _ _ _ _ _)
          refine opsOkV_cons ?_ ?_
          · intro K vs W hR hD hK
            have dq17 : vs 17 = .pointer (some ⟨eb, eo, none⟩) := boxF_val (by decide) (by decide) (hD 17 (by decide))
            clear hD
            try dsimp only at hK ⊢
            simp only [Act.put, List.setIfInBounds_toArray, List.set_cons_succ, List.set_cons_zero] at hK
            generalize vs 17 = vq17 at hK dq17 ⊢
            subst vq17
            go_wp2
            exact hK _ _ (boxF_of (by decide) (by decide) rfl) (BoxR.refl _ _ _ _ _)
          refine opsOkV_cons ?_ ?_
          · intro K vs W hR hD hK
            have dq18 : vs 18 = .pointer (some ⟨eb, eo + 1, none⟩) := boxF_val (by decide) (by decide) (hD 18 (by decide))
            clear hD
            try dsimp only at hK ⊢
            simp only [Act.put, List.setIfInBounds_toArray, List.set_cons_succ, List.set_cons_zero] at hK
            generalize vs 18 = vq18 at hK dq18 ⊢
            subst vq18
            have c1 := (HSd.out.at ((hR.mod.mono (fun k hk e => by have h := HB0.out; simp at hk; omega)))).2.2.1
            go_wp2
            exact hK _ _ (boxF_of (by decide) (by decide) rfl) (BoxR.refl _ _ _ _ _)
          refine opsOkV_cons ?_ ?_
          · intro K vs W hR hD hK
            have dq3 : vs 3 = .pointer (some ⟨tl, 0, none⟩) := boxF_val (by decide) (by decide) (hD 3 (by decide))
            have dq11 : vs 11 = .int .i64 zf := boxF_val (by decide) (by decide) (hD 11 (by decide))
            have dq19 : vs 19 = .int .i64 zt := boxF_val (by decide) (by decide) (hD 19 (by decide))
            clear hD
            try dsimp only at hK ⊢
            simp only [Act.put, List.setIfInBounds_toArray, List.set_cons_succ, List.set_cons_zero] at hK
            generalize vs 3 = vq3 at hK dq3 ⊢
            subst vq3
            generalize vs 11 = vq11 at hK dq11 ⊢
            subst vq11
            generalize vs 19 = vq19 at hK dq19 ⊢
            subst vq19
            go_wp2_with (go_at_call 30; refine (nt_arc ((HSd.out.at ((hR.mod.mono (fun k hk e => by have h := HB0.out; simp at hk; omega)))).2.2.2.2.2.1) zf zt).mono ?_; rintro e' w' ⟨rfl, hm'⟩; rw [HF1.out])
            exact hK _ _ (boxF_of (by decide) (by decide) rfl) (BoxR.of hm')
          refine opsOkV_cons ?_ ?_
          · intro K vs W hR hD hK
            have dq20 : vs 20 = .tuple #[.agg #[.int .i64 zf, .int .i64 zt, .int .i64 zw, .int .i64 zm], .bool true] := boxF_val (by decide) (by decide) (hD 20 (by decide))
            clear hD
            try dsimp only at hK ⊢
            simp only [Act.put, List.setIfInBounds_toArray, List.set_cons_succ, List.set_cons_zero] at hK
            generalize vs 20 = vq20 at hK dq20 ⊢
            subst vq20
            go_wp2
            exact hK _ _ (boxF_of (by decide) (by decide) rfl) (BoxR.refl _ _ _ _ _)
          refine opsOkV_cons ?_ ?_
          · intro K vs W hR hD hK
            have dq21 : vs 21 = .tuple #[.agg #[.int .i64 zf, .int .i64 zt, .int .i64 zw, .int .i64 zm], .bool true] := boxF_val (by decide) (by decide) (hD 21 (by decide))
            clear hD
            try dsimp only at hK ⊢
            simp only [Act.put, List.setIfInBounds_toArray, List.set_cons_succ, List.set_cons_zero] at hK
            generalize vs 21 = vq21 at hK dq21 ⊢
            subst vq21
            go_wp2
            exact hK _ _ (boxF_of (by decide) (by decide) rfl) (BoxR.refl _ _ _ _ _)
          refine opsOkV_cons ?_ ?_
          · intro K vs W hR hD hK
            have dq21 : vs 21 = .tuple #[.agg #[.int .i64 zf, .int .i64 zt, .int .i64 zw, .int .i64 zm], .bool true] := boxF_val (by decide) (by decide) (hD 21 (by decide))
            clear hD
            try dsimp only at hK ⊢
            simp only [Act.put, List.setIfInBounds_toArray, List.set_cons_succ, List.set_cons_zero] at hK
            generalize vs 21 = vq21 at hK dq21 ⊢
            subst vq21
            go_wp2
            exact hK _ _ (boxF_of (by decide) (by decide) rfl) (BoxR.refl _ _ _ _ _)
          refine opsOkV_cons ?_ ?_
          · intro K vs W hR hD hK
            clear hD
            try dsimp only at hK ⊢
            simp only [Act.put, List.setIfInBounds_toArray, List.set_cons_succ, List.set_cons_zero] at hK
            have hz : B0 ≤ W.heap.size := by have h := HB0.out; have h2 := hR.mod.size; simp at h2; omega
            go_wp2
            exact hK _ _ (boxF_of_var hz (Blk.new W 50 [.int .i64 0, .int .i64 0, .int .i64 0, .int .i64 0])) (BoxR.of (Mod.alloc _ _ _))
          refine opsOkV_cons ?_ ?_
          · intro K vs W hR hD hK
            obtain ⟨bb, hvb, hB, hbl⟩ := boxF_var (hD 24 (by decide))
            have dq22 : vs 22 = .agg #[.int .i64 zf, .int .i64 zt, .int .i64 zw, .int .i64 zm] := boxF_val (by decide) (by decide) (hD 22 (by decide))
            clear hD
            try dsimp only at hK ⊢
            simp only [Act.put, List.setIfInBounds_toArray, List.set_cons_succ, List.set_cons_zero] at hK
            generalize vs 22 = vq22 at hK dq22 ⊢
            subst vq22
            rw [hvb] at hK ⊢
            rcases hbl with hbl | hbl
            all_goals
              have c0 := hbl.cell 0 rfl
              have c1 := hbl.cell 1 rfl
              have c2 := hbl.cell 2 rfl
              have c3 := hbl.cell 3 rfl
              have f0 := hbl.free 0
              have f1 := hbl.free 1
              have f2 := hbl.free 2
              have f3 := hbl.free 3
              go_wp2
              exact hK undef _ (boxF_of_fill (by decide) hvb hB ((((hbl.set 0 (.int .i64 zf)).set 1 (.int .i64 zt)).set 2 (.int .i64 zw)).set 3 (.int .i64 zm))) (BoxR.fill hB ((((Mod.setCell (F := fun k => k = bb) (W) ⟨bb, 0, none⟩ (.int .i64 zf) rfl).trans (Mod.setCell (F := fun k => k = bb) (World.setCell (W) ⟨bb, 0, none⟩ (.int .i64 zf)) ⟨bb, 1, none⟩ (.int .i64 zt) rfl) (fun _ _ e => e) (fun _ _ e => e)).trans (Mod.setCell (F := fun k => k = bb) (World.setCell (World.setCell (W) ⟨bb, 0, none⟩ (.int .i64 zf)) ⟨bb, 1, none⟩ (.int .i64 zt)) ⟨bb, 2, none⟩ (.int .i64 zw) rfl) (fun _ _ e => e) (fun _ _ e => e)).trans (Mod.setCell (F := fun k => k = bb) (World.setCell (World.setCell (World.setCell (W) ⟨bb, 0, none⟩ (.int .i64 zf)) ⟨bb, 1, none⟩ (.int .i64 zt)) ⟨bb, 2, none⟩ (.int .i64 zw)) ⟨bb, 3, none⟩ (.int .i64 zm) rfl) (fun _ _ e => e) (fun _ _ e => e)) ((((hbl.set 0 (.int .i64 zf)).set 1 (.int .i64 zt)).set 2 (.int .i64 zw)).set 3 (.int .i64 zm)))
          refine opsOkV_cons ?_ ?_
          · intro K vs W hR hD hK
            have dq23 : vs 23 = .bool true := boxF_val (by decide) (by decide) (hD 23 (by decide))
            clear hD
            try dsimp only at hK ⊢
            simp only [Act.put, List.setIfInBounds_toArray, List.set_cons_succ, List.set_cons_zero] at hK
            generalize vs 23 = vq23 at hK dq23 ⊢
            subst vq23
            go_wp2
            exact hK _ _ (boxF_of (by decide) (by decide) rfl) (BoxR.refl _ _ _ _ _)
          exact opsOkV_nil
        · intro vs wq2 hR hF
          obtain ⟨bx, hvb, _, hbl⟩ := boxF_fill (by decide) (hF 25 (by decide))
          have dq26 : vs 26 = .bool true := boxF_val (by decide) (by decide) (hF 26 (by decide))
          clear hF
          try dsimp only
          rw [hvb]
          generalize vs 26 = vq26 at dq26 ⊢
          subst dq26
          replace HS := Lib.hid (HSd.out.step (hR.mod.mono (fun k hk e => by have h := HB0.out; simp at hk; omega)))
          clear HSd hR hvb
          replace HS := Lib.hid ((Ev.blk hbl).and HS.out)
          clear hbl
          have hbm := (HS.out.now).2.2.2.2.2.2.2.2.2.1
          have qm_0 := hbm.cell 0 rfl
          have qm_1 := hbm.cell 1 rfl
          have lm := hbm.lt
          clear hbm
          have hbp := (HS.out.now).2.2.2.2.2.2.2.1
          have qp_0 := hbp.cell 0 rfl
          have qp_1 := hbp.cell 1 rfl
          have qp_2 := hbp.cell 2 rfl
          have lp := hbp.lt
          clear hbp
          have hbbx := (HS.out.now).1
          have qbx_0 := hbbx.cell 0 rfl
          have qbx_1 := hbbx.cell 1 rfl
          have qbx_2 := hbbx.cell 2 rfl
          have qbx_3 := hbbx.cell 3 rfl
          have lbx := hbbx.lt
          clear hbbx
          have c0 := (HS.out.now).2.2.2.2.1
          have c1 := (HS.out.now).2.2.2.1
          have c2 := (HS.out.now).2.2.1
          have c3 := (HS.out.now).2.1
          have hix := HIe.out
          go_upto_region 10 with fail
          go_quiet (fail)
          go_wp2_with fail
          have HMQ := Lib.hid (Mod.drewN (fun _ => False) wq2 nq)
          go_roundw
          case rel => exact ⟨k + 1, hlt, by go_num, ((HS.out.now).2.2.2.2.2.1).of2 HMQ.out⟩
          case measure => simp [intOf]; omega
    case neg =>
      have z0 : decide ((k : Int) < (lL : Int)) = false := by simp; omega
      have HAL := Lib.hid (nt_all ((HS.out.now).2.1))
      unfold NewR at HAL
      rw [HLT.out] at HAL
      go_wp2_with fail
      go_wp2_with fail
      refine (HAL.out).mono ?_
      rintro e wq3 ⟨aa, ca, rfl, hoa, hmm⟩
      replace HS := Lib.hid (HS.out.step hmm)
      clear hmm
      replace HS := Lib.hid ((Ev.rd (Rd.ofOwn hoa)).and HS.out)
      clear hoa HAL
      clear qm_0 qm_1 lm qp_0 qp_1 qp_2 lp
      have hbm := (HS.out.now).2.2.2.2.2.1
      have qm_0 := hbm.cell 0 rfl
      have qm_1 := hbm.cell 1 rfl
      have lm := hbm.lt
      clear hbm
      have hbp := (HS.out.now).2.2.2.1
      have qp_0 := hbp.cell 0 rfl
      have qp_1 := hbp.cell 1 rfl
      have qp_2 := hbp.cell 2 rfl
      have lp := hbp.lt
      clear hbp
      go_wp2_with fail
      replace HS := Lib.hid ((Ev.mod wq3).and HS.out)
      go_loopw [12, 14] (fun s i wr => ∃ k : Nat, k ≤ lT ∧ i = .int .i64 (k : Int) ∧ s = .int .i64 ((cutsL (T.take k) : Nat) : Int) ∧ Mod (fun _ => False) wq3 wr) (fun s i _ => lT - (intOf i).toNat)
      case atStart => exact ⟨0, by omega, rfl, rfl, Mod.refl _ _⟩
      case round =>
        obtain ⟨k, hk, rfl, rfl, hmr⟩ := hrel
        obtain ⟨wo, hwo⟩ : ∃ x : World, x = wr := ⟨_, rfl⟩
        subst hwo
        replace HS := Lib.hid (HS.out.step hmr)
        clear hmr
        clear qm_0 qm_1 lm qp_0 qp_1 qp_2 lp
        have hbm := (HS.out.now).2.2.2.2.2.2.1
        have qm_0 := hbm.cell 0 rfl
        have qm_1 := hbm.cell 1 rfl
        have lm := hbm.lt
        clear hbm
        have hbp := (HS.out.now).2.2.2.2.1
        have qp_0 := hbp.cell 0 rfl
        have qp_1 := hbp.cell 1 rfl
        have qp_2 := hbp.cell 2 rfl
        have lp := hbp.lt
        clear hbp
        by_cases hlt : k < lT
        case pos =>
          have z0 : decide ((k : Int) < (lT : Int)) = true := by simp; omega
          have hkl : k < T.length := by rw [HLT.out]; exact hlt
          have hst := cutsL_step T k hkl
          have hcl := cutsL_le (T.take k)
          rw [List.length_take] at hcl
          have hmem := List.getElem_mem hkl
          obtain ⟨y, hy⟩ : ∃ y, T[k] = y := ⟨_, rfl⟩
          rw [hy] at hst hmem
          obtain ⟨yf, yt, yw, ym⟩ := y
          have HX := Lib.hid hy
          clear hy
          simp only at hst
          have HST := Lib.hid hst
          obtain ⟨cc, hcc⟩ : ∃ y, cutsL (T.take k) = y := ⟨_, rfl⟩
          rw [hcc] at hcl ⊢
          have HCC := Lib.hid hcc
          clear hst hcc
          obtain ⟨eb, eo, hpe, e0, e1, e2, e3⟩ := rd4 ((HS.out.now).2.1) k hkl
          have hix := fun wx => run_indexS (P := Tryz.prog) wx 34 50 iA 4 Tryz.underlying34 hiA hsA aa lT ca k hlt (((HS.out.now).2.1).some_ (by omega))
          rw [hpe] at hix
          have HIe := Lib.hid hix
          clear hix hpe
          rw [HX.out] at e0 e1 e2 e3
          simp only at e0 e1 e2 e3
          replace HS := Lib.hid ((Ev.cell e0).and HS.out)
          replace HS := Lib.hid ((Ev.cell e1).and HS.out)
          replace HS := Lib.hid ((Ev.cell e2).and HS.out)
          replace HS := Lib.hid ((Ev.cell e3).and HS.out)
          clear e0 e1 e2 e3
          have c3 := (HS.out.now).1
          have hix := HIe.out
          by_cases hym : ym < 0
          · skip
            have z1 : decide (ym < 0) = true := decide_eq_true hym
            go_wp2_with fail
            go_roundw
            case rel => exact ⟨k + 1, hlt, by go_num, by rw [HST.out, if_neg (by omega), HCC.out]; rfl, (HS.out.now).2.2.2.2.1⟩
            case measure => simp [intOf]; omega
          · skip
            have z1 : decide (ym < 0) = false := decide_eq_false hym
            obtain ⟨p0, hp0, q0, hq0, g1, g2, g3, g4, g5⟩ : ∃ p ∈ T, ∃ q ∈ T, p.f = yf ∧ p.t = ym ∧ q.f = ym ∧ q.t = yt ∧ p.w + q.w = yw := by
                          rcases HHALF.out _ hmem with h | ⟨j, _, _, ⟨p, hp, q, hq, h⟩, _⟩
                          · have := (HIN.out _ h).1; simp only at this; omega
                          · exact ⟨p, hp, q, hq, h⟩
            have hf1 := findN_some HOK.out.2.sort hp0
            have hf2 := findN_some HOK.out.2.sort hq0
            have m1 := HOK.out.2.may p0 hp0
            have m2 := HOK.out.2.may q0 hq0
            obtain ⟨pf, pt, pw, pm⟩ := p0
            obtain ⟨qf, qt, qw, qm⟩ := q0
            unfold mayA at m1 m2
            simp only at g1 g2 g3 g4 g5 hf1 hf2 m1 m2
            rw [g1, g2] at hf1
            rw [g3, g4] at hf2
            subst g1
            subst g4
            have HF1 := Lib.hid hf1
            have HF2 := Lib.hid hf2
            have b1 : 1 ≤ pw ∧ pw ≤ 1099511627776 := ⟨m1.2.2.2.2.2.1, m1.2.2.2.2.2.2.1⟩
            have b2 : 1 ≤ qw ∧ qw ≤ 1099511627776 := ⟨m2.2.2.2.2.2.1, m2.2.2.2.2.2.2.1⟩
            have HG := Lib.hid (And.intro g2 g3)
            have z9 : (pw + qw != yw) = false := by rw [g5]; simp
            have HB12 := Lib.hid (And.intro b1 b2)
            clear hf1 hf2 m1 m2 g2 g3 g5 hp0 hq0 hmem b1 b2
            have HFA := HF1
            have HFB := HF2
            clear HF1 HF2
            go_upto_region 19 with fail
            clear hix c3
            go_upto_region 19 with fail
            clear qm_0 qm_1 lm qp_0 qp_1 qp_2 lp
            obtain ⟨B0, hB0⟩ : ∃ n, wo.heap.size = n := ⟨_, rfl⟩
            have HB0 := Lib.hid hB0
            clear hB0
            have HSd := Lib.hid HS.out.drew
            refine wp_region_box (act := ?actlo_r19_2) B0 50 [.int .i64 0, .int .i64 0, .int .i64 0, .int .i64 0] [.int .i64 pf, .int .i64 ym, .int .i64 pw, .int .i64 pm] 18 19 (lo_r19_2_V p tl k lT aa ca ym pf pw pm eb eo) (fun i => lo_r19_2_D.getD i []) (by decide) (by kernel_rfl) (by kernel_rfl) (by kernel_rfl) (by kernel_rfl) ?hactlo_r19_2 ?_ ?_
            case hactlo_r19_2 => intro vs; simp only [putAll, Nat.zero_add, Nat.reduceAdd, Act.put, List.setIfInBounds_toArray, List.set_cons_succ, List.set_cons_zero]; exact rfl
            · refine opsOkV_cons ?_ ?_
              · intro K vs W hR hD hK
                clear hD
                try dsimp only at hK ⊢
                simp only [Act.put, List.setIfInBounds_toArray, List.set_cons_succ, List.set_cons_zero] at hK
                go_wp2
                exact hK _ _ (boxF_of (by decide) (by decide) rfl) (BoxR.refl _ _ _ _ _)
              refine opsOkV_cons ?_ ?_
              · intro K vs W hR hD hK
                have dq0 : vs 0 = .pointer (some ⟨p, 0, none⟩) := boxF_val (by decide) (by decide) (hD 0 (by decide))
                clear hD
                try dsimp only at hK ⊢
                simp only [Act.put, List.setIfInBounds_toArray, List.set_cons_succ, List.set_cons_zero] at hK
                generalize vs 0 = vq0 at hK dq0 ⊢
                subst vq0
                go_wp2
                exact hK _ _ (boxF_of (by decide) (by decide) rfl) (BoxR.refl _ _ _ _ _)
              refine opsOkV_cons ?_ ?_
              · intro K vs W hR hD hK
                have dq1 : vs 1 = .pointer (some ⟨p, 0, none⟩) := boxF_val (by decide) (by decide) (hD 1 (by decide))
                clear hD
                try dsimp only at hK ⊢
                simp only [Act.put, List.setIfInBounds_toArray, List.set_cons_succ, List.set_cons_zero] at hK
                generalize vs 1 = vq1 at hK dq1 ⊢
                subst vq1
                go_wp2
                exact hK _ _ (boxF_of (by decide) (by decide) rfl) (BoxR.refl _ _ _ _ _)
              refine opsOkV_cons ?_ ?_
              · intro K vs W hR hD hK
                have dq2 : vs 2 = .pointer (some ⟨p, 0, none⟩) := boxF_val (by decide) (by decide) (hD 2 (by decide))
                clear hD
                try dsimp only at hK ⊢
                simp only [Act.put, List.setIfInBounds_toArray, List.set_cons_succ, List.set_cons_zero] at hK
                generalize vs 2 = vq2 at hK dq2 ⊢
                subst vq2
                have q0 := ((HSd.out.at ((hR.mod.mono (fun k hk e => by have h := HB0.out; simp at hk; omega)))).2.2.2.2.2.2.2.2.1).cell 0 rfl
                go_wp2
                exact hK _ _ (boxF_of (by decide) (by decide) rfl) (BoxR.refl _ _ _ _ _)
              refine opsOkV_cons ?_ ?_
              · intro K vs W hR hD hK
                clear hD
                try dsimp only at hK ⊢
                simp only [Act.put, List.setIfInBounds_toArray, List.set_cons_succ, List.set_cons_zero] at hK
                go_wp2
                exact hK _ _ (boxF_of (by decide) (by decide) rfl) (BoxR.refl _ _ _ _ _)
              refine opsOkV_cons ?_ ?_
              · intro K vs W hR hD hK
                clear hD
                try dsimp only at hK ⊢
                simp only [Act.put, List.setIfInBounds_toArray, List.set_cons_succ, List.set_cons_zero] at hK
                go_wp2
                exact hK _ _ (boxF_of (by decide) (by decide) rfl) (BoxR.refl _ _ _ _ _)
              refine opsOkV_cons ?_ ?_
              · intro K vs W hR hD hK
                have dq4 : vs 4 = .slice aa lT ca := boxF_val (by decide) (by decide) (hD 4 (by decide))
                have dq5 : vs 5 = .int .i64 (k : Int) := boxF_val (by decide) (by decide) (hD 5 (by decide))
                clear hD
                try dsimp only at hK ⊢
                simp only [Act.put, List.setIfInBounds_toArray, List.set_cons_succ, List.set_cons_zero] at hK
                generalize vs 4 = vq4 at hK dq4 ⊢
                subst vq4
                generalize vs 5 = vq5 at hK dq5 ⊢
                subst vq5
                have hix := HIe.out
                go_wp2_with fail
                exact hK _ _ (boxF_of (by decide) (by decide) rfl) (BoxR.refl _ _ _ _ _)
              refine opsOkV_cons ?_ ?_
              · intro K vs W hR hD hK
                have dq6 : vs 6 = .pointer (some ⟨eb, eo, none⟩) := boxF_val (by decide) (by decide) (hD 6 (by decide))
                clear hD
                try dsimp only at hK ⊢
                simp only [Act.put, List.setIfInBounds_toArray, List.set_cons_succ, List.set_cons_zero] at hK
                generalize vs 6 = vq6 at hK dq6 ⊢
                subst vq6
                go_wp2
                exact hK _ _ (boxF_of (by decide) (by decide) rfl) (BoxR.refl _ _ _ _ _)
              refine opsOkV_cons ?_ ?_
              · intro K vs W hR hD hK
                have dq7 : vs 7 = .pointer (some ⟨eb, eo, none⟩) := boxF_val (by decide) (by decide) (hD 7 (by decide))
                clear hD
                try dsimp only at hK ⊢
                simp only [Act.put, List.setIfInBounds_toArray, List.set_cons_succ, List.set_cons_zero] at hK
                generalize vs 7 = vq7 at hK dq7 ⊢
                subst vq7
                have c0 := (HSd.out.at ((hR.mod.mono (fun k hk e => by have h := HB0.out; simp at hk; omega)))).2.2.2.1
                go_wp2
                exact hK _ _ (boxF_of (by decide) (by decide) rfl) (BoxR.refl _ _ _ _ _)
              refine opsOkV_cons ?_ ?_
              · intro K vs W hR hD hK
                clear hD
                try dsimp only at hK ⊢
                simp only [Act.put, List.setIfInBounds_toArray, List.set_cons_succ, List.set_cons_zero] at hK
                go_wp2
                exact hK _ _ (boxF_of (by decide) (by decide) rfl) (BoxR.refl _ _ _ _ _)
              refine opsOkV_cons ?_ ?_
              · intro K vs W hR hD hK
                clear hD
                try dsimp only at hK ⊢
                simp only [Act.put, List.setIfInBounds_toArray, List.set_cons_succ, List.set_cons_zero] at hK
                go_wp2
                exact hK _ _ (boxF_of (by decide) (by decide) rfl) (BoxR.refl _ _ _ _ _)
              refine opsOkV_cons ?_ ?_
              · intro K vs W hR hD hK
                have dq9 : vs 9 = .slice aa lT ca := boxF_val (by decide) (by decide) (hD 9 (by decide))
                have dq10 : vs 10 = .int .i64 (k : Int) := boxF_val (by decide) (by decide) (hD 10 (by decide))
                clear hD
                try dsimp only at hK ⊢
                simp only [Act.put, List.setIfInBounds_toArray, List.set_cons_succ, List.set_cons_zero] at hK
                generalize vs 9 = vq9 at hK dq9 ⊢
                subst vq9
                generalize vs 10 = vq10 at hK dq10 ⊢
                subst vq10
                have hix := HIe.out
                go_wp2_with fail
                exact hK _ _ (boxF_of (by decide) (by decide) rfl) (BoxR.refl _ _ _ _ _)
              refine opsOkV_cons ?_ ?_
              · intro K vs W hR hD hK
                have dq11 : vs 11 = .pointer (some ⟨eb, eo, none⟩) := boxF_val (by decide) (by decide) (hD 11 (by decide))
                clear hD
                try dsimp only at hK ⊢
                simp only [Act.put, List.setIfInBounds_toArray, List.set_cons_succ, List.set_cons_zero] at hK
                generalize vs 11 = vq11 at hK dq11 ⊢
                subst vq11
                go_wp2
                exact hK _ _ (boxF_of (by decide) (by decide) rfl) (BoxR.refl _ _ _ _ _)
              refine opsOkV_cons ?_ ?_
              · intro K vs W hR hD hK
                have dq12 : vs 12 = .pointer (some ⟨eb, eo + 3, none⟩) := boxF_val (by decide) (by decide) (hD 12 (by decide))
                clear hD
                try dsimp only at hK ⊢
                simp only [Act.put, List.setIfInBounds_toArray, List.set_cons_succ, List.set_cons_zero] at hK
                generalize vs 12 = vq12 at hK dq12 ⊢
                subst vq12
                have c3 := (HSd.out.at ((hR.mod.mono (fun k hk e => by have h := HB0.out; simp at hk; omega)))).1
                go_wp2
                exact hK _ _ (boxF_of (by decide) (by decide) rfl) (BoxR.refl _ _ _ _ _)
              refine opsOkV_cons ?_ ?_
              · intro K vs W hR hD hK
                have dq3 : vs 3 = .pointer (some ⟨tl, 0, none⟩) := boxF_val (by decide) (by decide) (hD 3 (by decide))
                have dq8 : vs 8 = .int .i64 pf := boxF_val (by decide) (by decide) (hD 8 (by decide))
                have dq13 : vs 13 = .int .i64 ym := boxF_val (by decide) (by decide) (hD 13 (by decide))
                clear hD
                try dsimp only at hK ⊢
                simp only [Act.put, List.setIfInBounds_toArray, List.set_cons_succ, List.set_cons_zero] at hK
                generalize vs 3 = vq3 at hK dq3 ⊢
                subst vq3
                generalize vs 8 = vq8 at hK dq8 ⊢
                subst vq8
                generalize vs 13 = vq13 at hK dq13 ⊢
                subst vq13
                go_wp2_with (go_at_call 30; refine (nt_arc ((HSd.out.at ((hR.mod.mono (fun k hk e => by have h := HB0.out; simp at hk; omega)))).2.2.2.2.2.2.2.1) pf ym).mono ?_; rintro e' w' ⟨rfl, hm'⟩; rw [HFA.out])
                exact hK _ _ (boxF_of (by decide) (by decide) rfl) (BoxR.of hm')
              refine opsOkV_cons ?_ ?_
              · intro K vs W hR hD hK
                have dq14 : vs 14 = .tuple #[.agg #[.int .i64 pf, .int .i64 ym, .int .i64 pw, .int .i64 pm], .bool true] := boxF_val (by decide) (by decide) (hD 14 (by decide))
                clear hD
                try dsimp only at hK ⊢
                simp only [Act.put, List.setIfInBounds_toArray, List.set_cons_succ, List.set_cons_zero] at hK
                generalize vs 14 = vq14 at hK dq14 ⊢
                subst vq14
                go_wp2
                exact hK _ _ (boxF_of (by decide) (by decide) rfl) (BoxR.refl _ _ _ _ _)
              refine opsOkV_cons ?_ ?_
              · intro K vs W hR hD hK
                have dq15 : vs 15 = .tuple #[.agg #[.int .i64 pf, .int .i64 ym, .int .i64 pw, .int .i64 pm], .bool true] := boxF_val (by decide) (by decide) (hD 15 (by decide))
                clear hD
                try dsimp only at hK ⊢
                simp only [Act.put, List.setIfInBounds_toArray, List.set_cons_succ, List.set_cons_zero] at hK
                generalize vs 15 = vq15 at hK dq15 ⊢
                subst vq15
                go_wp2
                exact hK _ _ (boxF_of (by decide) (by decide) rfl) (BoxR.refl _ _ _ _ _)
              refine opsOkV_cons ?_ ?_
              · intro K vs W hR hD hK
                have dq15 : vs 15 = .tuple #[.agg #[.int .i64 pf, .int .i64 ym, .int .i64 pw, .int .i64 pm], .bool true] := boxF_val (by decide) (by decide) (hD 15 (by decide))
                clear hD
                try dsimp only at hK ⊢
                simp only [Act.put, List.setIfInBounds_toArray, List.set_cons_succ, List.set_cons_zero] at hK
                generalize vs 15 = vq15 at hK dq15 ⊢
                subst vq15
                go_wp2
                exact hK _ _ (boxF_of (by decide) (by decide) rfl) (BoxR.refl _ _ _ _ _)
              refine opsOkV_cons ?_ ?_
              · intro K vs W hR hD hK
                clear hD
                try dsimp only at hK ⊢
                simp only [Act.put, List.setIfInBounds_toArray, List.set_cons_succ, List.set_cons_zero] at hK
                have hz : B0 ≤ W.heap.size := by have h := HB0.out; have h2 := hR.mod.size; simp at h2; omega
                go_wp2
                exact hK _ _ (boxF_of_var hz (Blk.new W 50 [.int .i64 0, .int .i64 0, .int .i64 0, .int .i64 0])) (BoxR.of (Mod.alloc _ _ _))
              refine opsOkV_cons ?_ ?_
              · intro K vs W hR hD hK
                obtain ⟨bb, hvb, hB, hbl⟩ := boxF_var (hD 18 (by decide))
                have dq16 : vs 16 = .agg #[.int .i64 pf, .int .i64 ym, .int .i64 pw, .int .i64 pm] := boxF_val (by decide) (by decide) (hD 16 (by decide))
                clear hD
                try dsimp only at hK ⊢
                simp only [Act.put, List.setIfInBounds_toArray, List.set_cons_succ, List.set_cons_zero] at hK
                generalize vs 16 = vq16 at hK dq16 ⊢
                subst vq16
                rw [hvb] at hK ⊢
                rcases hbl with hbl | hbl
                all_goals
                  have c0 := hbl.cell 0 rfl
                  have c1 := hbl.cell 1 rfl
                  have c2 := hbl.cell 2 rfl
                  have c3 := hbl.cell 3 rfl
                  have f0 := hbl.free 0
                  have f1 := hbl.free 1
                  have f2 := hbl.free 2
                  have f3 := hbl.free 3
                  go_wp2
                  exact hK undef _ (boxF_of_fill (by decide) hvb hB ((((hbl.set 0 (.int .i64 pf)).set 1 (.int .i64 ym)).set 2 (.int .i64 pw)).set 3 (.int .i64 pm))) (BoxR.fill hB ((((Mod.setCell (F := fun k => k = bb) (W) ⟨bb, 0, none⟩ (.int .i64 pf) rfl).trans (Mod.setCell (F := fun k => k = bb) (World.setCell (W) ⟨bb, 0, none⟩ (.int .i64 pf)) ⟨bb, 1, none⟩ (.int .i64 ym) rfl) (fun _ _ e => e) (fun _ _ e => e)).trans (Mod.setCell (F := fun k => k = bb) (World.setCell (World.setCell (W) ⟨bb, 0, none⟩ (.int .i64 pf)) ⟨bb, 1, none⟩ (.int .i64 ym)) ⟨bb, 2, none⟩ (.int .i64 pw) rfl) (fun _ _ e => e) (fun _ _ e => e)).trans (Mod.setCell (F := fun k => k = bb) (World.setCell (World.setCell (World.setCell (W) ⟨bb, 0, none⟩ (.int .i64 pf)) ⟨bb, 1, none⟩ (.int .i64 ym)) ⟨bb, 2, none⟩ (.int .i64 pw)) ⟨bb, 3, none⟩ (.int .i64 pm) rfl) (fun _ _ e => e) (fun _ _ e => e)) ((((hbl.set 0 (.int .i64 pf)).set 1 (.int .i64 ym)).set 2 (.int .i64 pw)).set 3 (.int .i64 pm)))
              refine opsOkV_cons ?_ ?_
              · intro K vs W hR hD hK
                have dq17 : vs 17 = .bool true := boxF_val (by decide) (by decide) (hD 17 (by decide))
                clear hD
                try dsimp only at hK ⊢
                simp only [Act.put, List.setIfInBounds_toArray, List.set_cons_succ, List.set_cons_zero] at hK
                generalize vs 17 = vq17 at hK dq17 ⊢
                subst vq17
                go_wp2
                exact hK _ _ (boxF_of (by decide) (by decide) rfl) (BoxR.refl _ _ _ _ _)
              exact opsOkV_nil
            · intro vs wq4 hR hF
              obtain ⟨bx, hvb, _, hbl⟩ := boxF_fill (by decide) (hF 19 (by decide))
              have dq20 : vs 20 = .bool true := boxF_val (by decide) (by decide) (hF 20 (by decide))
              clear hF
              try dsimp only
              rw [hvb]
              generalize vs 20 = vq20 at dq20 ⊢
              subst dq20
              replace HS := Lib.hid (HSd.out.step (hR.mod.mono (fun k hk e => by have h := HB0.out; simp at hk; omega)))
              clear HSd hR hvb
              replace HS := Lib.hid ((Ev.blk hbl).and HS.out)
              clear hbl
              have hbm := (HS.out.now).2.2.2.2.2.2.2.2.2.2.2.1
              have qm_0 := hbm.cell 0 rfl
              have qm_1 := hbm.cell 1 rfl
              have lm := hbm.lt
              clear hbm
              have hbp := (HS.out.now).2.2.2.2.2.2.2.2.2.1
              have qp_0 := hbp.cell 0 rfl
              have qp_1 := hbp.cell 1 rfl
              have qp_2 := hbp.cell 2 rfl
              have lp := hbp.lt
              clear hbp
              have hbbx := (HS.out.now).1
              have qbx_0 := hbbx.cell 0 rfl
              have qbx_1 := hbbx.cell 1 rfl
              have qbx_2 := hbbx.cell 2 rfl
              have qbx_3 := hbbx.cell 3 rfl
              have lbx := hbbx.lt
              clear hbbx
              go_upto_region 20 with fail
              clear qm_0 qm_1 lm qp_0 qp_1 qp_2 lp qbx_0 qbx_1 qbx_2 qbx_3 lbx
              obtain ⟨B0, hB0⟩ : ∃ n, wq4.heap.size = n := ⟨_, rfl⟩
              have HB0 := Lib.hid hB0
              clear hB0
              have HSd := Lib.hid HS.out.drew
              refine wp_region_box (act := ?actlo_r20_3) B0 50 [.int .i64 0, .int .i64 0, .int .i64 0, .int .i64 0] [.int .i64 ym, .int .i64 qt, .int .i64 qw, .int .i64 qm] 18 19 (lo_r20_3_V p tl k lT aa ca ym qt qw qm eb eo) (fun i => lo_r20_3_D.getD i []) (by decide) (by kernel_rfl) (by kernel_rfl) (by kernel_rfl) (by kernel_rfl) ?hactlo_r20_3 ?_ ?_
              case hactlo_r20_3 => intro vs; simp only [putAll, Nat.zero_add, Nat.reduceAdd, Act.put, List.setIfInBounds_toArray, List.set_cons_succ, List.set_cons_zero]; exact rfl
              · refine opsOkV_cons ?_ ?_
                · intro K vs W hR hD hK
                  clear hD
                  try dsimp only at hK ⊢
                  simp only [Act.put, List.setIfInBounds_toArray, List.set_cons_succ, List.set_cons_zero] at hK
                  go_wp2
                  exact hK _ _ (boxF_of (by decide) (by decide) rfl) (BoxR.refl _ _ _ _ _)
                refine opsOkV_cons ?_ ?_
                · intro K vs W hR hD hK
                  have dq0 : vs 0 = .pointer (some ⟨p, 0, none⟩) := boxF_val (by decide) (by decide) (hD 0 (by decide))
                  clear hD
                  try dsimp only at hK ⊢
                  simp only [Act.put, List.setIfInBounds_toArray, List.set_cons_succ, List.set_cons_zero] at hK
                  generalize vs 0 = vq0 at hK dq0 ⊢
                  subst vq0
                  go_wp2
                  exact hK _ _ (boxF_of (by decide) (by decide) rfl) (BoxR.refl _ _ _ _ _)
                refine opsOkV_cons ?_ ?_
                · intro K vs W hR hD hK
                  have dq1 : vs 1 = .pointer (some ⟨p, 0, none⟩) := boxF_val (by decide) (by decide) (hD 1 (by decide))
                  clear hD
                  try dsimp only at hK ⊢
                  simp only [Act.put, List.setIfInBounds_toArray, List.set_cons_succ, List.set_cons_zero] at hK
                  generalize vs 1 = vq1 at hK dq1 ⊢
                  subst vq1
                  go_wp2
                  exact hK _ _ (boxF_of (by decide) (by decide) rfl) (BoxR.refl _ _ _ _ _)
                refine opsOkV_cons ?_ ?_
                · intro K vs W hR hD hK
                  have dq2 : vs 2 = .pointer (some ⟨p, 0, none⟩) := boxF_val (by decide) (by decide) (hD 2 (by decide))
                  clear hD
                  try dsimp only at hK ⊢
                  simp only [Act.put, List.setIfInBounds_toArray, List.set_cons_succ, List.set_cons_zero] at hK
                  generalize vs 2 = vq2 at hK dq2 ⊢
                  subst vq2
                  have q0 := ((HSd.out.at ((hR.mod.mono (fun k hk e => by have h := HB0.out; simp at hk; omega)))).2.2.2.2.2.2.2.2.2.1).cell 0 rfl
                  go_wp2
                  exact hK _ _ (boxF_of (by decide) (by decide) rfl) (BoxR.refl _ _ _ _ _)
                refine opsOkV_cons ?_ ?_
                · intro K vs W hR hD hK
                  clear hD
                  try dsimp only at hK ⊢
                  simp only [Act.put, List.setIfInBounds_toArray, List.set_cons_succ, List.set_cons_zero] at hK
                  go_wp2
                  exact hK _ _ (boxF_of (by decide) (by decide) rfl) (BoxR.refl _ _ _ _ _)
                refine opsOkV_cons ?_ ?_
                · intro K vs W hR hD hK
                  clear hD
                  try dsimp only at hK ⊢
                  simp only [Act.put, List.setIfInBounds_toArray, List.set_cons_succ, List.set_cons_zero] at hK
                  go_wp2
                  exact hK _ _ (boxF_of (by decide) (by decide) rfl) (BoxR.refl _ _ _ _ _)
                refine opsOkV_cons ?_ ?_
                · intro K vs W hR hD hK
                  have dq4 : vs 4 = .slice aa lT ca := boxF_val (by decide) (by decide) (hD 4 (by decide))
                  have dq5 : vs 5 = .int .i64 (k : Int) := boxF_val (by decide) (by decide) (hD 5 (by decide))
                  clear hD
                  try dsimp only at hK ⊢
                  simp only [Act.put, List.setIfInBounds_toArray, List.set_cons_succ, List.set_cons_zero] at hK
                  generalize vs 4 = vq4 at hK dq4 ⊢
                  subst vq4
                  generalize vs 5 = vq5 at hK dq5 ⊢
                  subst vq5
                  have hix := HIe.out
                  go_wp2_with fail
                  exact hK _ _ (boxF_of (by decide) (by decide) rfl) (BoxR.refl _ _ _ _ _)
                refine opsOkV_cons ?_ ?_
                · intro K vs W hR hD hK
                  have dq6 : vs 6 = .pointer (some ⟨eb, eo, none⟩) := boxF_val (by decide) (by decide) (hD 6 (by decide))
                  clear hD
                  try dsimp only at hK ⊢
                  simp only [Act.put, List.setIfInBounds_toArray, List.set_cons_succ, List.set_cons_zero] at hK
                  generalize vs 6 = vq6 at hK dq6 ⊢
                  subst vq6
                  go_wp2
                  exact hK _ _ (boxF_of (by decide) (by decide) rfl) (BoxR.refl _ _ _ _ _)
                refine opsOkV_cons ?_ ?_
                · intro K vs W hR hD hK
                  have dq7 : vs 7 = .pointer (some ⟨eb, eo + 3, none⟩) := boxF_val (by decide) (by decide) (hD 7 (by decide))
                  clear hD
                  try dsimp only at hK ⊢
                  simp only [Act.put, List.setIfInBounds_toArray, List.set_cons_succ, List.set_cons_zero] at hK
                  generalize vs 7 = vq7 at hK dq7 ⊢
                  subst vq7
                  have c3 := (HSd.out.at ((hR.mod.mono (fun k hk e => by have h := HB0.out; simp at hk; omega)))).2.1
                  go_wp2
                  exact hK _ _ (boxF_of (by decide) (by decide) rfl) (BoxR.refl _ _ _ _ _)
                refine opsOkV_cons ?_ ?_
                · intro K vs W hR hD hK
                  clear hD
                  try dsimp only at hK ⊢
                  simp only [Act.put, List.setIfInBounds_toArray, List.set_cons_succ, List.set_cons_zero] at hK
                  go_wp2
                  exact hK _ _ (boxF_of (by decide) (by decide) rfl) (BoxR.refl _ _ _ _ _)
                refine opsOkV_cons ?_ ?_
                · intro K vs W hR hD hK
                  clear hD
                  try dsimp only at hK ⊢
                  simp only [Act.put, List.setIfInBounds_toArray, List.set_cons_succ, List.set_cons_zero] at hK
                  go_wp2
                  exact hK _ _ (boxF_of (by decide) (by decide) rfl) (BoxR.refl _ _ _ _ _)
                refine opsOkV_cons ?_ ?_
                · intro K vs W hR hD hK
                  have dq9 : vs 9 = .slice aa lT ca := boxF_val (by decide) (by decide) (hD 9 (by decide))
                  have dq10 : vs 10 = .int .i64 (k : Int) := boxF_val (by decide) (by decide) (hD 10 (by decide))
                  clear hD
                  try dsimp only at hK ⊢
                  simp only [Act.put, List.setIfInBounds_toArray, List.set_cons_succ, List.set_cons_zero] at hK
                  generalize vs 9 = vq9 at hK dq9 ⊢
                  subst vq9
                  generalize vs 10 = vq10 at hK dq10 ⊢
                  subst vq10
                  have hix := HIe.out
                  go_wp2_with fail
                  exact hK _ _ (boxF_of (by decide) (by decide) rfl) (BoxR.refl _ _ _ _ _)
                refine opsOkV_cons ?_ ?_
                · intro K vs W hR hD hK
                  have dq11 : vs 11 = .pointer (some ⟨eb, eo, none⟩) := boxF_val (by decide) (by decide) (hD 11 (by decide))
                  clear hD
                  try dsimp only at hK ⊢
                  simp only [Act.put, List.setIfInBounds_toArray, List.set_cons_succ, List.set_cons_zero] at hK
                  generalize vs 11 = vq11 at hK dq11 ⊢
                  subst vq11
                  go_wp2
                  exact hK _ _ (boxF_of (by decide) (by decide) rfl) (BoxR.refl _ _ _ _ _)
                refine opsOkV_cons ?_ ?_
                · intro K vs W hR hD hK
                  have dq12 : vs 12 = .pointer (some ⟨eb, eo + 1, none⟩) := boxF_val (by decide) (by decide) (hD 12 (by decide))
                  clear hD
                  try dsimp only at hK ⊢
                  simp only [Act.put, List.setIfInBounds_toArray, List.set_cons_succ, List.set_cons_zero] at hK
                  generalize vs 12 = vq12 at hK dq12 ⊢
                  subst vq12
                  have c1 := (HSd.out.at ((hR.mod.mono (fun k hk e => by have h := HB0.out; simp at hk; omega)))).2.2.2.1
                  go_wp2
                  exact hK _ _ (boxF_of (by decide) (by decide) rfl) (BoxR.refl _ _ _ _ _)
                refine opsOkV_cons ?_ ?_
                · intro K vs W hR hD hK
                  have dq3 : vs 3 = .pointer (some ⟨tl, 0, none⟩) := boxF_val (by decide) (by decide) (hD 3 (by decide))
                  have dq8 : vs 8 = .int .i64 ym := boxF_val (by decide) (by decide) (hD 8 (by decide))
                  have dq13 : vs 13 = .int .i64 qt := boxF_val (by decide) (by decide) (hD 13 (by decide))
                  clear hD
                  try dsimp only at hK ⊢
                  simp only [Act.put, List.setIfInBounds_toArray, List.set_cons_succ, List.set_cons_zero] at hK
                  generalize vs 3 = vq3 at hK dq3 ⊢
                  subst vq3
                  generalize vs 8 = vq8 at hK dq8 ⊢
                  subst vq8
                  generalize vs 13 = vq13 at hK dq13 ⊢
                  subst vq13
                  go_wp2_with (go_at_call 30; refine (nt_arc ((HSd.out.at ((hR.mod.mono (fun k hk e => by have h := HB0.out; simp at hk; omega)))).2.2.2.2.2.2.2.2.1) ym qt).mono ?_; rintro e' w' ⟨rfl, hm'⟩; rw [HFB.out])
                  exact hK _ _ (boxF_of (by decide) (by decide) rfl) (BoxR.of hm')
                refine opsOkV_cons ?_ ?_
                · intro K vs W hR hD hK
                  have dq14 : vs 14 = .tuple #[.agg #[.int .i64 ym, .int .i64 qt, .int .i64 qw, .int .i64 qm], .bool true] := boxF_val (by decide) (by decide) (hD 14 (by decide))
                  clear hD
                  try dsimp only at hK ⊢
                  simp only [Act.put, List.setIfInBounds_toArray, List.set_cons_succ, List.set_cons_zero] at hK
                  generalize vs 14 = vq14 at hK dq14 ⊢
                  subst vq14
                  go_wp2
                  exact hK _ _ (boxF_of (by decide) (by decide) rfl) (BoxR.refl _ _ _ _ _)
                refine opsOkV_cons ?_ ?_
                · intro K vs W hR hD hK
                  have dq15 : vs 15 = .tuple #[.agg #[.int .i64 ym, .int .i64 qt, .int .i64 qw, .int .i64 qm], .bool true] := boxF_val (by decide) (by decide) (hD 15 (by decide))
                  clear hD
                  try dsimp only at hK ⊢
                  simp only [Act.put, List.setIfInBounds_toArray, List.set_cons_succ, List.set_cons_zero] at hK
                  generalize vs 15 = vq15 at hK dq15 ⊢
                  subst vq15
                  go_wp2
                  exact hK _ _ (boxF_of (by decide) (by decide) rfl) (BoxR.refl _ _ _ _ _)
                refine opsOkV_cons ?_ ?_
                · intro K vs W hR hD hK
                  have dq15 : vs 15 = .tuple #[.agg #[.int .i64 ym, .int .i64 qt, .int .i64 qw, .int .i64 qm], .bool true] := boxF_val (by decide) (by decide) (hD 15 (by decide))
                  clear hD
                  try dsimp only at hK ⊢
                  simp only [Act.put, List.setIfInBounds_toArray, List.set_cons_succ, List.set_cons_zero] at hK
                  generalize vs 15 = vq15 at hK dq15 ⊢
                  subst vq15
                  go_wp2
                  exact hK _ _ (boxF_of (by decide) (by decide) rfl) (BoxR.refl _ _ _ _ _)
                refine opsOkV_cons ?_ ?_
                · intro K vs W hR hD hK
                  clear hD
                  try dsimp only at hK ⊢
                  simp only [Act.put, List.setIfInBounds_toArray, List.set_cons_succ, List.set_cons_zero] at hK
                  have hz : B0 ≤ W.heap.size := by have h := HB0.out; have h2 := hR.mod.size; simp at h2; omega
                  go_wp2
                  exact hK _ _ (boxF_of_var hz (Blk.new W 50 [.int .i64 0, .int .i64 0, .int .i64 0, .int .i64 0])) (BoxR.of (Mod.alloc _ _ _))
                refine opsOkV_cons ?_ ?_
                · intro K vs W hR hD hK
                  obtain ⟨bb, hvb, hB, hbl⟩ := boxF_var (hD 18 (by decide))
                  have dq16 : vs 16 = .agg #[.int .i64 ym, .int .i64 qt, .int .i64 qw, .int .i64 qm] := boxF_val (by decide) (by decide) (hD 16 (by decide))
                  clear hD
                  try dsimp only at hK ⊢
                  simp only [Act.put, List.setIfInBounds_toArray, List.set_cons_succ, List.set_cons_zero] at hK
                  generalize vs 16 = vq16 at hK dq16 ⊢
                  subst vq16
                  rw [hvb] at hK ⊢
                  rcases hbl with hbl | hbl
                  all_goals
                    have c0 := hbl.cell 0 rfl
                    have c1 := hbl.cell 1 rfl
                    have c2 := hbl.cell 2 rfl
                    have c3 := hbl.cell 3 rfl
                    have f0 := hbl.free 0
                    have f1 := hbl.free 1
                    have f2 := hbl.free 2
                    have f3 := hbl.free 3
                    go_wp2
                    exact hK undef _ (boxF_of_fill (by decide) hvb hB ((((hbl.set 0 (.int .i64 ym)).set 1 (.int .i64 qt)).set 2 (.int .i64 qw)).set 3 (.int .i64 qm))) (BoxR.fill hB ((((Mod.setCell (F := fun k => k = bb) (W) ⟨bb, 0, none⟩ (.int .i64 ym) rfl).trans (Mod.setCell (F := fun k => k = bb) (World.setCell (W) ⟨bb, 0, none⟩ (.int .i64 ym)) ⟨bb, 1, none⟩ (.int .i64 qt) rfl) (fun _ _ e => e) (fun _ _ e => e)).trans (Mod.setCell (F := fun k => k = bb) (World.setCell (World.setCell (W) ⟨bb, 0, none⟩ (.int .i64 ym)) ⟨bb, 1, none⟩ (.int .i64 qt)) ⟨bb, 2, none⟩ (.int .i64 qw) rfl) (fun _ _ e => e) (fun _ _ e => e)).trans (Mod.setCell (F := fun k => k = bb) (World.setCell (World.setCell (World.setCell (W) ⟨bb, 0, none⟩ (.int .i64 ym)) ⟨bb, 1, none⟩ (.int .i64 qt)) ⟨bb, 2, none⟩ (.int .i64 qw)) ⟨bb, 3, none⟩ (.int .i64 qm) rfl) (fun _ _ e => e) (fun _ _ e => e)) ((((hbl.set 0 (.int .i64 ym)).set 1 (.int .i64 qt)).set 2 (.int .i64 qw)).set 3 (.int .i64 qm)))
                refine opsOkV_cons ?_ ?_
                · intro K vs W hR hD hK
                  have dq17 : vs 17 = .bool true := boxF_val (by decide) (by decide) (hD 17 (by decide))
                  clear hD
                  try dsimp only at hK ⊢
                  simp only [Act.put, List.setIfInBounds_toArray, List.set_cons_succ, List.set_cons_zero] at hK
                  generalize vs 17 = vq17 at hK dq17 ⊢
                  subst vq17
                  go_wp2
                  exact hK _ _ (boxF_of (by decide) (by decide) rfl) (BoxR.refl _ _ _ _ _)
                exact opsOkV_nil
              · intro vs wq5 hR hF
                obtain ⟨bw, hvb, _, hbl⟩ := boxF_fill (by decide) (hF 19 (by decide))
                have dq20 : vs 20 = .bool true := boxF_val (by decide) (by decide) (hF 20 (by decide))
                clear hF
                try dsimp only
                rw [hvb]
                generalize vs 20 = vq20 at dq20 ⊢
                subst dq20
                replace HS := Lib.hid (HSd.out.step (hR.mod.mono (fun k hk e => by have h := HB0.out; simp at hk; omega)))
                clear HSd hR hvb
                replace HS := Lib.hid ((Ev.blk hbl).and HS.out)
                clear hbl
                have hbm := (HS.out.now).2.2.2.2.2.2.2.2.2.2.2.2.1
                have qm_0 := hbm.cell 0 rfl
                have qm_1 := hbm.cell 1 rfl
                have lm := hbm.lt
                clear hbm
                have hbp := (HS.out.now).2.2.2.2.2.2.2.2.2.2.1
                have qp_0 := hbp.cell 0 rfl
                have qp_1 := hbp.cell 1 rfl
                have qp_2 := hbp.cell 2 rfl
                have lp := hbp.lt
                clear hbp
                have hbbx := (HS.out.now).2.1
                have qbx_0 := hbbx.cell 0 rfl
                have qbx_1 := hbbx.cell 1 rfl
                have qbx_2 := hbbx.cell 2 rfl
                have qbx_3 := hbbx.cell 3 rfl
                have lbx := hbbx.lt
                clear hbbx
                have hbbw := (HS.out.now).1
                have qbw_0 := hbbw.cell 0 rfl
                have qbw_1 := hbbw.cell 1 rfl
                have qbw_2 := hbbw.cell 2 rfl
                have qbw_3 := hbbw.cell 3 rfl
                have lbw := hbbw.lt
                clear hbbw
                have c0 := (HS.out.now).2.2.2.2.2.1
                have c1 := (HS.out.now).2.2.2.2.1
                have c2 := (HS.out.now).2.2.2.1
                have c3 := (HS.out.now).2.2.1
                have hix := HIe.out
                have b1 := HB12.out.1
                have b2 := HB12.out.2
                go_upto_region 21 with fail
                go_quiet (fail)
                go_wp2_with fail
                have HMQ := Lib.hid (Mod.drewN (fun _ => False) wq5 nq)
                go_roundw
                case rel => exact ⟨k + 1, hlt, by go_num, by rw [HST.out, if_pos (by omega), HCC.out]; go_num, ((HS.out.now).2.2.2.2.2.2.1).of2 HMQ.out⟩
                case measure => simp [intOf]; omega
        case neg =>
          have z0 : decide ((k : Int) < (lT : Int)) = false := by simp; omega
          have ht : T.take k = T := List.take_of_length_le (by have := HLT.out; omega)
          rw [ht]
          clear ht
          obtain ⟨cc, hcc⟩ : ∃ y, cutsL T = y := ⟨_, rfl⟩
          rw [hcc]
          have HCC := Lib.hid hcc
          clear hcc
          go_wp2_with fail
          replace HS := Lib.hid ((Ev.mod wo).and HS.out)
          go_loopw [13, 19] (fun s i wr => ∃ k : Nat, k ≤ n ∧ i = .int .i64 (k : Int) ∧ s = .int .i64 ((udN n T V k : Nat) : Int) ∧ Mod (fun _ => False) wo wr) (fun s i _ => n - (intOf i).toNat)
          case atStart => exact ⟨0, by omega, rfl, by simp [udN], Mod.refl _ _⟩
          case round =>
            obtain ⟨k, hk, rfl, rfl, hmr⟩ := hrel
            obtain ⟨wo, hwo⟩ : ∃ x : World, x = wr := ⟨_, rfl⟩
            subst hwo
            replace HS := Lib.hid (HS.out.step hmr)
            clear hmr
            clear qm_0 qm_1 lm qp_0 qp_1 qp_2 lp
            have hbm := (HS.out.now).2.2.2.2.2.2.2.1
            have qm_0 := hbm.cell 0 rfl
            have qm_1 := hbm.cell 1 rfl
            have lm := hbm.lt
            clear hbm
            have hbp := (HS.out.now).2.2.2.2.2.1
            have qp_0 := hbp.cell 0 rfl
            have qp_1 := hbp.cell 1 rfl
            have qp_2 := hbp.cell 2 rfl
            have lp := hbp.lt
            clear hbp
            by_cases hlt : k < n
            case pos =>
              have z0 : decide ((k : Int) < (n : Int)) = true := by simp; omega
              have hlu := upV_len (V := V) HOK.out.2 (k : Int)
              have hld := downV_len (V := V) HOK.out.2 (k : Int)
              have hst := udN_succ n T V k
              have huk := HUL.out k
              have hkk : k * (2 * n) ≤ 20 * 40 := Nat.mul_le_mul (by omega) (by omega)
              have HUP := Lib.hid (lv_up ((HS.out.now).2.2.2.2.2.2.2.2.1) (k : Int))
              unfold UpP at HUP
              obtain ⟨nu, hnu⟩ : ∃ y, (upV n T V (k : Int)).length = y := ⟨_, rfl⟩
              obtain ⟨nd, hnd⟩ : ∃ y, (downV n T V (k : Int)).length = y := ⟨_, rfl⟩
              rw [hnu] at HUP hlu hst
              rw [hnd] at hld hst
              have HND := Lib.hid hnd
              have HST := Lib.hid hst
              obtain ⟨uk, huk0⟩ : ∃ y, udN n T V k = y := ⟨_, rfl⟩
              rw [huk0] at huk ⊢
              have HUK := Lib.hid huk0
              clear hnu hnd hst huk0
              go_wp2_with fail
              go_wp2_with fail
              refine (HUP.out).mono ?_
              rintro e wq6 ⟨a6, c6, rfl, _, hmm⟩
              replace HS := Lib.hid (HS.out.step hmm)
              clear hmm
              clear qm_0 qm_1 lm qp_0 qp_1 qp_2 lp
              have hbm := (HS.out.now).2.2.2.2.2.2.2.1
              have qm_0 := hbm.cell 0 rfl
              have qm_1 := hbm.cell 1 rfl
              have lm := hbm.lt
              clear hbm
              have hbp := (HS.out.now).2.2.2.2.2.1
              have qp_0 := hbp.cell 0 rfl
              have qp_1 := hbp.cell 1 rfl
              have qp_2 := hbp.cell 2 rfl
              have lp := hbp.lt
              clear hbp
              have HDN := Lib.hid (lv_down ((HS.out.now).2.2.2.2.2.2.2.2.1) (k : Int))
              unfold DownP at HDN
              rw [HND.out] at HDN
              go_wp2_with fail
              go_wp2_with fail
              refine (HDN.out).mono ?_
              rintro e wq7 ⟨a7, c7, rfl, _, hmn⟩
              replace HS := Lib.hid (HS.out.step hmn)
              clear hmn
              clear qm_0 qm_1 lm qp_0 qp_1 qp_2 lp
              have hbm := (HS.out.now).2.2.2.2.2.2.2.1
              have qm_0 := hbm.cell 0 rfl
              have qm_1 := hbm.cell 1 rfl
              have lm := hbm.lt
              clear hbm
              have hbp := (HS.out.now).2.2.2.2.2.1
              have qp_0 := hbp.cell 0 rfl
              have qp_1 := hbp.cell 1 rfl
              have qp_2 := hbp.cell 2 rfl
              have lp := hbp.lt
              clear hbp
              go_wp2_with fail
              go_roundw
              case rel => exact ⟨k + 1, hlt, by go_num, by rw [HST.out, HUK.out]; go_num, (HS.out.now).1⟩
              case measure => simp [intOf]; omega
            case neg =>
              obtain rfl : k = n := by omega
              have z0 : decide ((k : Int) < (k : Int)) = false := by simp
              rw [HUD.out]
              have HCU := Lib.hid (lv_cuts ((HS.out.now).2.2.2.2.2.2.2.2.1))
              rw [HCC.out] at HCU
              go_wp2_with fail
              go_wp2_with fail
              refine (HCU.out).mono ?_
              rintro e wq8 ⟨rfl, hmm⟩
              replace HS := Lib.hid (HS.out.step hmm)
              clear hmm
              clear qm_0 qm_1 lm qp_0 qp_1 qp_2 lp
              have hbm := (HS.out.now).2.2.2.2.2.2.2.1
              have qm_0 := hbm.cell 0 rfl
              have qm_1 := hbm.cell 1 rfl
              have lm := hbm.lt
              clear hbm
              have hbp := (HS.out.now).2.2.2.2.2.1
              have qp_0 := hbp.cell 0 rfl
              have qp_1 := hbp.cell 1 rfl
              have qp_2 := hbp.cell 2 rfl
              have lp := hbp.lt
              clear hbp
              go_wp2_with fail
              go_wp2_with fail
              refine (awake16_any _).mono ?_
              rintro e wq9 ⟨rfl, hmn⟩
              replace HS := Lib.hid (HS.out.step hmn)
              clear hmn
              clear qm_0 qm_1 lm qp_0 qp_1 qp_2 lp
              have hbm := (HS.out.now).2.2.2.2.2.2.2.1
              have qm_0 := hbm.cell 0 rfl
              have qm_1 := hbm.cell 1 rfl
              have lm := hbm.lt
              clear hbm
              have hbp := (HS.out.now).2.2.2.2.2.1
              have qp_0 := hbp.cell 0 rfl
              have qp_1 := hbp.cell 1 rfl
              have qp_2 := hbp.cell 2 rfl
              have lp := hbp.lt
              clear hbp
              go_wp2_with fail
              go_ret
              exact ⟨rfl, HM1.out.of2 (HS.out.now).2.2.2.2.2.2.2.2.2⟩
theorem lown_law (w : World) (nv : Int) (_ : (Lit.int .i64 nv).wf = true) (a : Option Addr) (ln c : Nat) (T : List T3) (ok : (encSlice enc3).ok w (.slice a ln c, T)) :
    Calls Tryz.prog 5 #[.int .i64 nv, .slice a ln c] w fun e w' => e = .returned (.bool true) ∧ Below w.heap.size w w' := by
  obtain ⟨hT, hr⟩ := ok_t3 ok
  suffices h : Calls Tryz.prog 5 #[.int .i64 nv, .slice a ln c] w fun e w' => e = .returned (.bool true) ∧ Mod (fun _ => False) w w' from
    h.mono fun e w' h => ⟨h.1, h.2.below (Nat.le_refl _) (fun _ e => e.elim)⟩
  by_cases hno : ¬ (1 ≤ nv ∧ nv ≤ 20 ∧ ln ≤ 80)
  case pos =>
    clear hr hT ok
    have hend : ∀ (b0 b1 b2 : Bool), decide (nv < 1) = b0 → decide (20 < nv) = b1 → decide (80 < (ln : Int)) = b2 → (b0 || b1 || b2) = true →
        Calls Tryz.prog 5 #[.int .i64 nv, .slice a ln c] w fun e w' => e = .returned (.bool true) ∧ Mod (fun _ => False) w w' := by
      intro b0 b1 b2 hc0 hc1 hc2 hbb
      clear hno
      cases b0
      · skip
        cases b1
        · skip
          cases b2
          · cases hbb
          · clear hbb 
            go_enter Tryz.func5, Tryz.ntmps5
            go_wp2_with fail
            refine (awake16_any _).mono ?_
            rintro e w9 ⟨rfl, hm9⟩
            go_wp2_with fail
            go_ret
            exact ⟨rfl, hm9⟩
        · clear hbb hc2
          go_enter Tryz.func5, Tryz.ntmps5
          go_wp2_with fail
          refine (awake16_any _).mono ?_
          rintro e w9 ⟨rfl, hm9⟩
          go_wp2_with fail
          go_ret
          exact ⟨rfl, hm9⟩
      · clear hbb hc1 hc2
        go_enter Tryz.func5, Tryz.ntmps5
        go_wp2_with fail
        refine (awake16_any _).mono ?_
        rintro e w9 ⟨rfl, hm9⟩
        go_wp2_with fail
        go_ret
        exact ⟨rfl, hm9⟩
    refine hend _ _ _ rfl rfl rfl ?_
    simp only [Bool.or_eq_true, decide_eq_true_eq]
    omega
  case neg =>
    have hyes := Decidable.not_not.1 hno
    obtain ⟨n, rfl⟩ := Int.eq_ofNat_of_zero_le (show 0 ≤ nv by omega)
    exact lown_all w n (by omega) (by omega) a ln c T hT hr (by omega)

end Go.Proofs.YtjjedebjbgpimaaGreat
