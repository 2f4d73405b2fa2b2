/- Law RankLone. -/
import Derived.Test.YtepnlijdnabllaaRTells15
namespace Go.Proofs.Ytepnlijdnabllaa
open Go.RowKit Mile
set_option maxRecDepth 100000
theorem sc_le (D : Nat → Int → List Int) (L : List Ar) (v : Int) : (scR D L v).length ≤ (inL L v).length * (outL L v).length := scI_len D L v (inL L v)
theorem sc_noin {D : Nat → Int → List Int} {L : List Ar} {v : Int} (h : inL L v = []) : scR D L v = [] := by unfold scR; rw [h]; rfl
theorem sc_noout {D : Nat → Int → List Int} {L : List Ar} {v : Int} (h : outL L v = []) : scR D L v = [] := by
  have h1 := sc_le D L v
  rw [h, List.length_nil, Nat.mul_zero] at h1
  exact List.eq_nil_of_length_eq_zero (by omega)
theorem cut_in (L : List Ar) (v : Int) : inL (cutN L v) v = [] := by
  unfold inL cutN
  rw [List.filter_filter]
  exact List.filter_eq_nil_iff.2 fun b _ => by simp; omega
theorem cut_out (L : List Ar) (v : Int) : outL (cutN L v) v = [] := by
  unfold outL cutN
  rw [List.filter_filter]
  exact List.filter_eq_nil_iff.2 fun b _ => by simp; omega
set_option maxHeartbeats 16000000 in
theorem rklone_all (w : World) (n : Nat) (h1n : 1 ≤ n) (h25 : n ≤ 20) (a : Option Addr) (ln c : Nat) (T : List T3) (hT : T.length = ln) (hr : Rd w 3 (.slice a ln c) ln (T.flatMap c3T)) (hln : ln ≤ 80) (av : Int) :
    Calls Try.prog 6 #[.int .i64 (n : Int), .slice a ln c, .int .i64 av] w fun e w' => e = .returned (.bool true) ∧ Mod (fun _ => False) w w' := by
  have y0 : decide ((n : Int) < 1) = false := by simp; omega
  have y1 : decide ((20 : Int) < (n : Int)) = false := by simp; omega
  have y2 : decide ((80 : Int) < (ln : Int)) = false := by simp; omega
  have y2n : decide (80 < ln) = false := by simp; omega
  have hn0 : (0 : Int) < (n : Int) := by omega
  have hn1 : (n : Int) ≤ 4611686018427387904 := by omega
  obtain ⟨v, hvv⟩ := Int.eq_ofNat_of_zero_le (Int.emod_nonneg av (b := (n : Int)) (by omega))
  have hv : v < n := by have := Int.emod_lt_of_pos av hn0; omega
  have HRO := Lib.hid (fun W => round_any av n W hn0 hn1)
  rw [hvv] at HRO
  have HMD := Lib.hid (made15_any w n (by omega) a ln c T hT hr (by omega))
  have HW := Lib.hid (net15 n T)
  have hle := arcsR_len (n : Int) T
  have hle0 : (putAllN (arcsR (n : Int) T)).length ≤ 80 := by
    have h := (putAll_ok (arcsR (n : Int) T) [] (NetOk.nil n) (arcsR_may T)).2
    unfold putAllN
    simp only [List.length_nil] at h; omega
  obtain ⟨L, hL⟩ : ∃ L, putAllN (arcsR (n : Int) T) = L := ⟨_, rfl⟩
  rw [hL] at HMD HW hle0
  have HLE : Hid (L.length ≤ 10000) := Lib.hid (by omega)
  obtain ⟨D, hD⟩ := DOk.ex n (by omega) L
  have HD := Lib.hid hD
  clear hL hT hr hle hle0 hD
  go_enter Try.func6, Try.ntmps6
  go_wp2_with fail
  refine HMD.out.mono ?_
  rintro e w1 ⟨q, F, m, rfl, hnt, hrn, hF, hmz, hm⟩
  have HN := Lib.hid (And.intro hnt hrn)
  have HM1 := Lib.hid hm
  have HFF := Lib.hid (And.intro hF hmz)
  clear hnt hrn hF hmz hm HMD
  go_wp2_with fail
  refine (HRO.out _).mono ?_
  rintro e w' ⟨rfl, rfl⟩
  go_wp2_with fail
  refine (nt_in HN.out.1 (v : Int)).mono ?_
  rintro e w2 ⟨a2, c2, rfl, _, hm2⟩
  have HN2 := Lib.hid (HN.out.1.later hm2)
  have HM2 := Lib.hid (HM1.out.of2 hm2)
  have HM2b := Lib.hid hm2
  clear hm2
  obtain ⟨ni, hni⟩ : ∃ y, (inL L (v : Int)).length = y := ⟨_, rfl⟩
  rw [hni]
  go_wp2_with fail
  refine (nt_out HN2.out (v : Int)).mono ?_
  rintro e w3 ⟨a3, c3, rfl, _, hm3⟩
  have HN3 := Lib.hid (HN2.out.later hm3)
  have HM3 := Lib.hid (HM2.out.of2 hm3)
  have HM3b := Lib.hid (HM2b.out.of2 hm3)
  clear hm3
  obtain ⟨no, hno⟩ : ∃ y, (outL L (v : Int)).length = y := ⟨_, rfl⟩
  rw [hno]
  go_wp2_with fail
  refine (rk_sc HN3.out HW.out HD.out v hv).mono ?_
  rintro e w4 ⟨a4, c4, rfl, _, hm4⟩
  have HN4 := Lib.hid (HN3.out.later hm4)
  have HM4 := Lib.hid (HM3.out.of2 hm4)
  have HM4b := Lib.hid (HM3b.out.of2 hm4)
  clear hm4
  have hle := sc_le D L (v : Int)
  have hnl := inL_len HN.out.1.ok (v : Int)
  have hol := outL_len HN.out.1.ok (v : Int)
  have hnin : ni = 0 → scR D L (v : Int) = [] := fun h => sc_noin (List.eq_nil_of_length_eq_zero (by omega))
  have hnout : no = 0 → scR D L (v : Int) = [] := fun h => sc_noout (List.eq_nil_of_length_eq_zero (by omega))
  have hwv : wthR D L (v : Int) = ((scR D L (v : Int)).length : Int) - ni - no := by unfold wthR; rw [hni, hno]
  rw [hni, hno] at hle
  rw [hni] at hnl
  rw [hno] at hol
  obtain ⟨ns, hns⟩ : ∃ y, (scR D L (v : Int)).length = y := ⟨_, rfl⟩
  rw [hns] at hle hwv ⊢
  obtain ⟨P, hP⟩ : ∃ P : Nat, ni * no = P := ⟨_, rfl⟩
  have hPb : P ≤ 400 := by
    have := Nat.mul_le_mul hnl hol
    have h2 : n * n ≤ 20 * 20 := Nat.mul_le_mul h25 h25
    omega
  have hPi : (ni : Int) * (no : Int) = (P : Int) := by rw [← hP]; exact (Int.natCast_mul _ _).symm
  have hwP : IntKind.i64.wrap (P : Int) = (P : Int) := IntWalk.i64_in _ (by omega)
  rw [hP] at hle
  have z1 : decide ((P : Int) < (ns : Int)) = false := by simp; omega
  have z1n : decide (P < ns) = false := by simp; omega
  have hng : IntKind.i64.wrap (-(ni : Int)) = -(ni : Int) := IntWalk.i64_in _ (by omega)
  have hsb : IntKind.i64.wrap (-(ni : Int) - (no : Int)) = -(ni : Int) - (no : Int) := IntWalk.i64_in _ (by omega)
  have HSC := Lib.hid (And.intro hnin (And.intro hnout (And.intro hwv hns)))
  clear hnin hnout hwv hns hni hno hP hle hnl hol hPb
  have hzero : ns = 0 → wthR D L (v : Int) = -(ni : Int) - (no : Int) := fun h => by rw [HSC.out.2.2.1, h]; simp
  have HZ := Lib.hid hzero
  clear hzero
  by_cases hi0 : ni = 0
  · have hn00 : ns = 0 := by have := HSC.out.1 hi0; rw [← HSC.out.2.2.2, this]; rfl
    have HWZ := Lib.hid (HZ.out hn00)
    have z5 : ((ns : Int) == 0) = true := by rw [beq_iff_eq]; omega
    have z5n : (ns == 0) = true := by rw [beq_iff_eq]; omega
    clear hn00
    have z2 : ((ni : Int) == 0) = true := by rw [beq_iff_eq]; omega
    have z2n : (ni == 0) = true := by rw [beq_iff_eq]; omega
    clear hi0
    go_wp2_with fail
    refine (rk_worth HN4.out HW.out HD.out v hv).mono ?_
    rintro e w5 ⟨rfl, hm5⟩
    rw [HWZ.out]
    have HM5 := Lib.hid (HM4.out.of2 hm5)
    clear hm5
    obtain ⟨z, hz⟩ : ∃ z : Int, -(ni : Int) - (no : Int) = z := ⟨_, rfl⟩
    rw [hz] at hsb ⊢
    have z3 : (z == z) = true := by simp
    go_wp2_with fail
    refine (awake15_any _).mono ?_
    rintro e w9 ⟨rfl, hm9⟩
    go_wp2_with fail
    go_ret
    exact ⟨rfl, HM5.out.of2 hm9⟩
  · have z2 : ((ni : Int) == 0) = false := by rw [beq_eq_false_iff_ne]; omega
    have z2n : (ni == 0) = false := by rw [beq_eq_false_iff_ne]; omega
    clear hi0
    by_cases ho0 : no = 0
    · have hn00 : ns = 0 := by have := HSC.out.2.1 ho0; rw [← HSC.out.2.2.2, this]; rfl
      have HWZ := Lib.hid (HZ.out hn00)
      have z5 : ((ns : Int) == 0) = true := by rw [beq_iff_eq]; omega
      have z5n : (ns == 0) = true := by rw [beq_iff_eq]; omega
      clear hn00
      have z3 : ((no : Int) == 0) = true := by rw [beq_iff_eq]; omega
      have z3n : (no == 0) = true := by rw [beq_iff_eq]; omega
      clear ho0
      go_wp2_with fail
      refine (rk_worth HN4.out HW.out HD.out v hv).mono ?_
      rintro e w5 ⟨rfl, hm5⟩
      rw [HWZ.out]
      have HM5 := Lib.hid (HM4.out.of2 hm5)
      clear hm5
      obtain ⟨z, hz⟩ : ∃ z : Int, -(ni : Int) - (no : Int) = z := ⟨_, rfl⟩
      rw [hz] at hsb ⊢
      have z4 : (z == z) = true := by simp
      go_wp2_with fail
      refine (awake15_any _).mono ?_
      rintro e w9 ⟨rfl, hm9⟩
      go_wp2_with fail
      go_ret
      exact ⟨rfl, HM5.out.of2 hm9⟩
    · have z3 : ((no : Int) == 0) = false := by rw [beq_eq_false_iff_ne]; omega
      have z3n : (no == 0) = false := by rw [beq_eq_false_iff_ne]; omega
      clear ho0
      go_wp2_with fail
      refine (nt_cut HN4.out (v : Int)).mono ?_
      rintro e w5 ⟨rfl, F5, hn5, hF5, hm5⟩
      have hcr : cutR n L (v : Int) = cutN L (v : Int) := if_pos ⟨by omega, by omega⟩
      rw [hcr] at hn5
      obtain ⟨D5, hD5⟩ := DOk.ex n (by omega) (cutN L (v : Int))
      have hW5 : ∀ b ∈ cutN L (v : Int), b.w ≤ 65535 := fun b hb => HW.out b (List.mem_filter.1 hb).1
      have hm15 : Mod (fun _ => False) w w5 := by
        refine HM4.out.trans hm5 (fun _ _ e => e) (fun k hk e => ?_)
        have h1 := HFF.out.1 k e
        omega
      have HX := Lib.hid (And.intro hn5 (And.intro hD5 (And.intro hW5 hm15)))
      clear hn5 hF5 hm5 hcr hD5 hW5 hm15
      have hs5 : scR D5 (cutN L (v : Int)) (v : Int) = [] := sc_noin (cut_in L (v : Int))
      have hw5 : wthR D5 (cutN L (v : Int)) (v : Int) = 0 := by unfold wthR; rw [hs5, cut_in, cut_out]; rfl
      have HSW := Lib.hid (And.intro hs5 hw5)
      clear hs5 hw5
      go_wp2_with fail
      refine (rk_sc HX.out.1 HX.out.2.2.1 HX.out.2.1 v hv).mono ?_
      rintro e w6 ⟨a6, c6, rfl, _, hm6⟩
      rw [HSW.out.1]
      have HM6 := Lib.hid hm6
      clear hm6
      go_wp2_with fail
      refine (rk_worth (HX.out.1.later HM6.out) HX.out.2.2.1 HX.out.2.1 v hv).mono ?_
      rintro e w7 ⟨rfl, hm7⟩
      rw [HSW.out.2]
      have HM7 := Lib.hid ((HX.out.2.2.2.of2 HM6.out).of2 hm7)
      clear hm7
      go_wp2_with fail
      refine (awake15_any _).mono ?_
      rintro e w9 ⟨rfl, hm9⟩
      go_wp2_with fail
      go_ret
      exact ⟨rfl, HM7.out.of2 hm9⟩
theorem rklone_law (w : World) (nv : Int) (_ : (Lit.int .i64 nv).wf = true) (a : Option Addr) (ln c : Nat) (T : List T3) (ok : (encSlice enc3).ok w (.slice a ln c, T)) (av : Int) (_ : (Lit.int .i64 av).wf = true) :
    Calls Try.prog 6 #[.int .i64 nv, .slice a ln c, .int .i64 av] w fun e w' => e = .returned (.bool true) ∧ Below w.heap.size w w' := by
  obtain ⟨hT, hr⟩ := ok_t3 ok
  suffices h : Calls Try.prog 6 #[.int .i64 nv, .slice a ln c, .int .i64 av] w fun e w' => e = .returned (.bool true) ∧ Mod (fun _ => False) w w' from
    h.mono fun e w' h => ⟨h.1, h.2.below (Nat.le_refl _) (fun _ e => e.elim)⟩
  by_cases hno : ¬ (1 ≤ nv ∧ nv ≤ 20 ∧ ln ≤ 80)
  case pos =>
    clear hr hT ok
    have hend : ∀ (b0 b1 b2 : Bool), decide (nv < 1) = b0 → decide (20 < nv) = b1 → decide (80 < (ln : Int)) = b2 → (b0 || b1 || b2) = true →
        Calls Try.prog 6 #[.int .i64 nv, .slice a ln c, .int .i64 av] w fun e w' => e = .returned (.bool true) ∧ Mod (fun _ => False) w w' := by
      intro b0 b1 b2 hc0 hc1 hc2 hbb
      clear hno
      cases b0
      · skip
        cases b1
        · skip
          cases b2
          · cases hbb
          · clear hbb 
            go_enter Try.func6, Try.ntmps6
            go_wp2_with fail
            refine (awake15_any _).mono ?_
            rintro e w9 ⟨rfl, hm9⟩
            go_wp2_with fail
            go_ret
            exact ⟨rfl, hm9⟩
        · clear hbb hc2
          go_enter Try.func6, Try.ntmps6
          go_wp2_with fail
          refine (awake15_any _).mono ?_
          rintro e w9 ⟨rfl, hm9⟩
          go_wp2_with fail
          go_ret
          exact ⟨rfl, hm9⟩
      · clear hbb hc1 hc2
        go_enter Try.func6, Try.ntmps6
        go_wp2_with fail
        refine (awake15_any _).mono ?_
        rintro e w9 ⟨rfl, hm9⟩
        go_wp2_with fail
        go_ret
        exact ⟨rfl, hm9⟩
    refine hend _ _ _ rfl rfl rfl ?_
    simp only [Bool.or_eq_true, decide_eq_true_eq]
    omega
  case neg =>
    have hyes := Decidable.not_not.1 hno
    obtain ⟨n, rfl⟩ := Int.eq_ofNat_of_zero_le (show 0 ≤ nv by omega)
    exact rklone_all w n (by omega) (by omega) a ln c T hT hr (by omega) av
end Go.Proofs.Ytepnlijdnabllaa
