/- TimerTries by contract. -/
import Derived.Test.YtncjmdpepdfjbaaTmOne
namespace Go.Proofs.Ytncjmdpepdfjbaa
open Go.RowKit Mile Go.Maps
set_option maxRecDepth 100000
/-- The wait ahead of this one. -/
def wasW (B M : Nat) : Nat → Nat
  | 0 => 0
  | n + 1 => waitN B M n
theorem wasW_le (B M : Nat) : ∀ n, wasW B M n ≤ waitN B M n
  | 0 => Nat.zero_le _
  | n + 1 => waitN_succ B M n
set_option maxHeartbeats 32000000 in
theorem ttries_all (w : World) (bs mo tr st : Int) :
    Calls Try.prog 4 #[.int .i64 bs, .int .i64 mo, .int .i64 tr, .int .i64 st] w fun e w' => e = .returned (.bool true) ∧ Mod (fun _ => False) w w' := by
  by_cases hno : ¬ (1 ≤ bs ∧ bs ≤ 20 ∧ bs ≤ mo ∧ mo ≤ 60 ∧ 0 ≤ tr ∧ tr ≤ 20)
  case pos =>
    have hend : ∀ (b0 b1 b2 b3 b4 b5 : Bool), decide (bs < 1) = b0 → decide (20 < bs) = b1 → decide (mo < bs) = b2 → decide (60 < mo) = b3 → decide (tr < 0) = b4 → decide (20 < tr) = b5 → (b0 || b1 || b2 || b3 || b4 || b5) = true →
        Calls Try.prog 4 #[.int .i64 bs, .int .i64 mo, .int .i64 tr, .int .i64 st] w fun e w' => e = .returned (.bool true) ∧ Mod (fun _ => False) w w' := by
      intro b0 b1 b2 b3 b4 b5 hc0 hc1 hc2 hc3 hc4 hc5 hbb
      clear hno
      cases b0
      · skip
        cases b1
        · skip
          cases b2
          · skip
            cases b3
            · skip
              cases b4
              · skip
                cases b5
                · cases hbb
                · clear hbb 
                  go_enter Try.func4, Try.ntmps4
                  go_wp2_with fail
                  refine (awake24_any _).mono ?_
                  rintro e w9 ⟨rfl, hm9⟩
                  go_wp2_with fail
                  go_ret
                  exact ⟨rfl, hm9⟩
              · clear hbb hc5
                go_enter Try.func4, Try.ntmps4
                go_wp2_with fail
                refine (awake24_any _).mono ?_
                rintro e w9 ⟨rfl, hm9⟩
                go_wp2_with fail
                go_ret
                exact ⟨rfl, hm9⟩
            · clear hbb hc4 hc5
              go_enter Try.func4, Try.ntmps4
              go_wp2_with fail
              refine (awake24_any _).mono ?_
              rintro e w9 ⟨rfl, hm9⟩
              go_wp2_with fail
              go_ret
              exact ⟨rfl, hm9⟩
          · clear hbb hc3 hc4 hc5
            go_enter Try.func4, Try.ntmps4
            go_wp2_with fail
            refine (awake24_any _).mono ?_
            rintro e w9 ⟨rfl, hm9⟩
            go_wp2_with fail
            go_ret
            exact ⟨rfl, hm9⟩
        · clear hbb hc2 hc3 hc4 hc5
          go_enter Try.func4, Try.ntmps4
          go_wp2_with fail
          refine (awake24_any _).mono ?_
          rintro e w9 ⟨rfl, hm9⟩
          go_wp2_with fail
          go_ret
          exact ⟨rfl, hm9⟩
      · clear hbb hc1 hc2 hc3 hc4 hc5
        go_enter Try.func4, Try.ntmps4
        go_wp2_with fail
        refine (awake24_any _).mono ?_
        rintro e w9 ⟨rfl, hm9⟩
        go_wp2_with fail
        go_ret
        exact ⟨rfl, hm9⟩
    refine hend _ _ _ _ _ _ rfl rfl rfl rfl rfl rfl ?_
    simp only [Bool.or_eq_true, decide_eq_true_eq]
    omega
  case neg =>
  have hyes := Decidable.not_not.1 hno
  clear hno
  obtain ⟨iI, hiI, hzI, hsI, hbI⟩ := info_parts Tm.info3
  obtain ⟨B, rfl⟩ := Int.eq_ofNat_of_zero_le (show 0 ≤ bs by omega)
  obtain ⟨M, rfl⟩ := Int.eq_ofNat_of_zero_le (show 0 ≤ mo by omega)
  obtain ⟨R, rfl⟩ := Int.eq_ofNat_of_zero_le (show 0 ≤ tr by omega)
  have hB1 : 1 ≤ B := by omega
  have hB2 : B ≤ 20 := by omega
  have hBM : B ≤ M := by omega
  have hM2 : M ≤ 60 := by omega
  have hR2 : R ≤ 20 := by omega
  clear hyes
  have z0 : decide ((B : Int) < 1) = false := by simp; omega
  have z1 : decide (20 < (B : Int)) = false := by simp; omega
  have z2 : decide ((M : Int) < (B : Int)) = false := by simp; omega
  have z2' : decide (M < B) = false := by simp; omega
  have z3 : decide (60 < (M : Int)) = false := by simp; omega
  have z4 : decide ((R : Int) < 0) = false := by simp
  have z5 : decide (20 < (R : Int)) = false := by simp; omega
  have hl0 : M * (R + 2) ≤ 1320 := Nat.le_trans (Nat.mul_le_mul hM2 (show R + 2 ≤ 22 by omega)) (by omega)
  obtain ⟨lim, hlim⟩ : ∃ x, M * (R + 2) = x := ⟨_, rfl⟩
  have hmu : (M : Int) * ((R : Int) + 2) = (lim : Int) := by rw [← hlim]; simp
  rw [hlim] at hl0
  have HLIM := Lib.hid hlim
  clear hlim
  go_enter Try.func4, Try.ntmps4
  go_wp2_with fail
  refine (round_any st 1000 _ (by omega) (by omega)).mono ?_
  rintro e w' ⟨rfl, rfl⟩
  have hn0 := Int.emod_nonneg st (b := 1000) (by omega)
  have hn1 := Int.emod_lt_of_pos st (b := 1000) (by omega)
  obtain ⟨s, hs⟩ := Int.eq_ofNat_of_zero_le hn0
  rw [hs] at hn1 ⊢
  have hs2 : s < 1000 := by omega
  clear hs hn0 hn1
  go_wp2_with fail
  refine (tmnew_any w B M R hB1 hBM (by omega) (by omega)).mono ?_
  rintro e w1 ⟨p, rfl, h1, hp, hm1⟩
  have HT1 := Lib.hid (T1.made h1 hp hm1)
  clear h1 hp hm1
  go_wp2_with fail
  refine (t1_start HT1.out (by simp) 5 (s : Int) (by decide) (by omega)).mono ?_
  rintro e w2 ⟨rfl, ht2⟩
  have HT2 : Hid (T1 w w2 p B M R [⟨5, ((s + waitN B M 0 : Nat) : Int), 0⟩]) := Lib.hid (by rw [waitN_zero hBM]; simpa [putW, stopW, insW] using ht2)
  clear ht2 HT1
  go_wp2_with fail
  go_loopw [12, 13, 14, 15] (fun lv wv nv tv wr => ∃ la n t wt wb : Nat, lv = .int .i64 (la : Int) ∧ wv = .int .i64 (wb : Int) ∧ nv = .int .i64 (n : Int) ∧ tv = .int .i64 (t : Int) ∧ wt = waitN B M n ∧ wb = wasW B M n ∧ n ≤ R ∧ la ≤ t ∧ t ≤ la + wt ∧ la ≤ s + M * n ∧ T1 w wr p B M R [⟨5, ((la + wt : Nat) : Int), n⟩]) (fun _ _ _ tv _ => s + lim + 1 - (intOf tv).toNat)
  case atStart => exact ⟨s, 0, s, _, _, rfl, rfl, rfl, rfl, rfl, rfl, by omega, by omega, by omega, by omega, HT2.out⟩
  case round =>
    obtain ⟨la, n, t, wt, wb, rfl, rfl, rfl, rfl, hwt, hwb, hnR, hlt, htl, hls, hT⟩ := hrel
    obtain ⟨wo, hwo⟩ : ∃ x : World, x = wr := ⟨_, rfl⟩
    subst hwo
    have HT3 := Lib.hid hT
    have hwM : wt ≤ M := by rw [hwt]; exact waitN_le B M n
    have hwp : wb ≤ wt := by rw [hwt, hwb]; exact wasW_le B M n
    have hml : M * n ≤ M * R := Nat.mul_le_mul_left _ hnR
    have hmr : M * (R + 2) = M * R + 2 * M := by rw [Nat.mul_add]; omega
    have hlm := HLIM.out
    have htlim : t ≤ s + lim := by omega
    have hla : la ≤ 2320 := by omega
    have ht2 : t ≤ 2400 := by omega
    have y0 : decide ((t : Int) ≤ (s : Int) + (lim : Int)) = true := by simp; omega
    have HWT := Lib.hid hwt
    have HWB := Lib.hid hwb
    have HLS := Lib.hid hls
    have HNR := Lib.hid hnR
    clear hT HT2 hwt hwb hml hmr hlm hls
    by_cases hd : t < la + wt
    case pos =>
      have h1 := one_later (B := B) (M := M) (R := R) (e := ⟨5, ((la + wt : Nat) : Int), n⟩) (now := (t : Int)) (by simp; omega)
      have HA := Lib.hid h1
      clear h1
      go_wp2_with fail
      refine (t1_due HT3.out (by simp) (t : Int) (by omega) _ _ _ HA.out.1 HA.out.2.1 HA.out.2.2 0 0 rfl rfl).mono ?_
      rintro e w4 ⟨x1, d1, x2, d2, rfl, _, _, ht4⟩
      have HT4 := Lib.hid ht4
      clear ht4 HT3
      go_wp2_with fail
      go_roundw
      case rel => exact ⟨la, n, t + 1, wt, wb, rfl, rfl, rfl, by go_num, HWT.out, HWB.out, HNR.out, by omega, by omega, HLS.out, HT4.out⟩
      case measure => simp [intOf]; omega
    case neg =>
      have hteq : t = la + wt := by omega
      have hsub : (t : Int) - (la : Int) = (wt : Int) := by omega
      have HTE := Lib.hid hteq
      clear hteq hd
      have y1 : decide ((wt : Int) < (wb : Int)) = false := by simp; omega
      have y1' : decide (wt < wb) = false := by simp; omega
      have y2 : decide ((M : Int) < (wt : Int)) = false := by simp; omega
      have y2' : decide (M < wt) = false := by simp; omega
      by_cases hnr : n < R
      case pos =>
        have h1 := one_again (B := B) (M := M) (R := R) (e := ⟨5, ((la + wt : Nat) : Int), n⟩) (now := (t : Int)) (by have := HTE.out; simp; omega) hnr
        have HA := Lib.hid h1
        have hln : la + wt ≤ s + M * (n + 1) := by have := HLS.out; rw [Nat.mul_add]; omega
        have HLN := Lib.hid hln
        clear h1 hln
        go_wp2_with fail
        refine (t1_due HT3.out (by simp) (t : Int) (by omega) _ _ _ HA.out.1 HA.out.2.1 HA.out.2.2 1 0 rfl rfl).mono ?_
        rintro e w4 ⟨x1, d1, x2, d2, rfl, hr1, _, ht4⟩
        have HT4 := Lib.hid ht4
        obtain ⟨eb, eo, hpl, e0⟩ := rd1 (S := [5]) hr1 0 (by simp)
        have hix := fun wx => run_indexS (P := Try.prog) wx 23 3 iI 1 Try.underlying23 hiI hsI x1 1 d1 0 (by omega) (hr1.some_ (by omega))
        rw [hpl] at hix
        replace e0 : w4.cell? ⟨eb, eo, none⟩ = some (.int .i64 5) := e0
        replace hix : ∀ wx, (Instr.indexAt 23 (.slice x1 1 d1) (.int .i64 0)).run Try.prog wx = .ok (.pointer (some ⟨eb, eo, none⟩)) wx := hix
        clear ht4 HT3 hr1 hpl
        by_cases hn0 : n = 0
        case pos =>
          have hnz : ((n : Int) == 0) = true := by simp [hn0]
          have hwB : wt = B := by have h := HWT.out; rw [hn0, waitN_zero hBM] at h; exact h
          have y3 : ((wt : Int) != (B : Int)) = false := by simp [hwB]
          have y4 : (wt == B) = true := by simp [hwB]
          have HN0 := Lib.hid hn0
          have HWBB := Lib.hid hwB
          clear hn0 hwB
          go_wp2_with fail
          go_roundw
          case rel => exact ⟨t, n + 1, t + 1, waitN B M (n + 1), wt, rfl, rfl, by go_num, by go_num, rfl, by show wt = waitN B M n; exact HWT.out, hnr, by omega, by have := waitN_ge hBM (n + 1); omega, by have := HLN.out; have := HTE.out; omega, by have h := HT4.out; simpa using h⟩
          case measure => simp [intOf]; omega
        case neg =>
          have hnz : ((n : Int) == 0) = false := by simp; omega
          have hnz' : (n == 0) = false := by simp; omega
          clear hn0
          go_wp2_with fail
          go_roundw
          case rel => exact ⟨t, n + 1, t + 1, waitN B M (n + 1), wt, rfl, rfl, by go_num, by go_num, rfl, by show wt = waitN B M n; exact HWT.out, hnr, by omega, by have := waitN_ge hBM (n + 1); omega, by have := HLN.out; have := HTE.out; omega, by have h := HT4.out; simpa using h⟩
          case measure => simp [intOf]; omega
      case neg =>
        have hnR : n = R := by have := HNR.out; omega
        have h1 := one_over (B := B) (M := M) (R := R) (e := ⟨5, ((la + wt : Nat) : Int), n⟩) (now := (t : Int)) (by have := HTE.out; simp; omega) hnr
        have HA := Lib.hid h1
        have y5 : ((n : Int) != (R : Int)) = false := by simp [hnR]
        have y6 : (n == R) = true := by simp [hnR]
        have y7 : ((n : Int) == (R : Int)) = true := by simp [hnR]
        clear h1 hnR hnr
        go_wp2_with fail
        refine (t1_due HT3.out (by simp) (t : Int) (by omega) _ _ _ HA.out.1 HA.out.2.1 HA.out.2.2 0 1 rfl rfl).mono ?_
        rintro e w4 ⟨x1, d1, x2, d2, rfl, _, hr2, ht4⟩
        have HT4 := Lib.hid ht4
        obtain ⟨eb, eo, hpl, e0⟩ := rd1 (S := [5]) hr2 0 (by simp)
        have hix := fun wx => run_indexS (P := Try.prog) wx 23 3 iI 1 Try.underlying23 hiI hsI x2 1 d2 0 (by omega) (hr2.some_ (by omega))
        rw [hpl] at hix
        replace e0 : w4.cell? ⟨eb, eo, none⟩ = some (.int .i64 5) := e0
        replace hix : ∀ wx, (Instr.indexAt 23 (.slice x2 1 d2) (.int .i64 0)).run Try.prog wx = .ok (.pointer (some ⟨eb, eo, none⟩)) wx := hix
        clear ht4 HT3 hr2 hpl
        go_wp2_with fail
        refine (t1_len HT4.out).mono ?_
        rintro e w' ⟨rfl, rfl⟩
        go_wp2_with fail
        refine (awake24_any _).mono ?_
        rintro e w9 ⟨rfl, hm9⟩
        go_wp2_with fail
        go_ret
        exact ⟨rfl, HT4.out.mod.of2 hm9⟩
theorem ttries_law (w : World) (bs : Int) (_ : (Lit.int .i64 bs).wf = true) (mo : Int) (_ : (Lit.int .i64 mo).wf = true) (tr : Int) (_ : (Lit.int .i64 tr).wf = true) (st : Int) (_ : (Lit.int .i64 st).wf = true) :
    Calls Try.prog 4 #[.int .i64 bs, .int .i64 mo, .int .i64 tr, .int .i64 st] w fun e w' => e = .returned (.bool true) ∧ Below w.heap.size w w' :=
  (ttries_all w bs mo tr st).mono fun _ _ h => ⟨h.1, h.2.below (Nat.le_refl _) (fun _ e => e.elim)⟩
end Go.Proofs.Ytncjmdpepdfjbaa
