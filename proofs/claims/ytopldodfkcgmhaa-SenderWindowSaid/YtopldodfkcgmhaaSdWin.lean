/- SenderWindow by contract. -/
import Derived.Test.YtopldodfkcgmhaaSdW
namespace Go.Proofs.Ytopldodfkcgmhaa
open Go.RowKit Mile Go.Maps
set_option maxRecDepth 100000
set_option maxHeartbeats 64000000 in
theorem swin_all (w : World) (nv : Int) (a0 : Option Addr) (m c0 : Nat) (l : List Int) (hm : l.length = m) (hr : Rd w 1 (.slice a0 m c0) m (l.map (Value.int .i64))) (hwf : ∀ x ∈ l, (Lit.int .i64 x).wf = true) :
    Calls Try.prog 4 #[.int .i64 nv, .slice a0 m c0] w fun e w' => e = .returned (.bool true) ∧ Mod (fun _ => False) w w' := by
  by_cases hno : ¬ (1 ≤ nv ∧ nv ≤ 16 ∧ m ≤ 100)
  case pos =>
    clear hr hm hwf
    have hend : ∀ (b0 b1 b2 : Bool), decide (nv < 1) = b0 → decide (16 < nv) = b1 → decide (100 < (m : Int)) = b2 → (b0 || b1 || b2) = true →
        Calls Try.prog 4 #[.int .i64 nv, .slice a0 m c0] w fun e w' => e = .returned (.bool true) ∧ Mod (fun _ => False) w w' := by
      intro b0 b1 b2 hc0 hc1 hc2 hbb
      clear hno
      cases b0
      · skip
        cases b1
        · skip
          cases b2
          · cases hbb
          · clear hbb 
            go_enter Try.func4, Try.ntmps4
            go_wp2_with fail
            refine (awake25_any _).mono ?_
            rintro e w9 ⟨rfl, hm9⟩
            go_wp2_with fail
            go_ret
            exact ⟨rfl, hm9⟩
        · clear hbb hc2
          go_enter Try.func4, Try.ntmps4
          go_wp2_with fail
          refine (awake25_any _).mono ?_
          rintro e w9 ⟨rfl, hm9⟩
          go_wp2_with fail
          go_ret
          exact ⟨rfl, hm9⟩
      · clear hbb hc1 hc2
        go_enter Try.func4, Try.ntmps4
        go_wp2_with fail
        refine (awake25_any _).mono ?_
        rintro e w9 ⟨rfl, hm9⟩
        go_wp2_with fail
        go_ret
        exact ⟨rfl, hm9⟩
    refine hend _ _ _ rfl rfl rfl ?_
    simp only [Bool.or_eq_true, decide_eq_true_eq]
    omega
  case neg =>
  obtain ⟨iI, hiI, hzI, hsI, hbI⟩ := info_parts Tm.info3
  have hyes := Decidable.not_not.1 hno
  clear hno
  obtain ⟨N, rfl⟩ := Int.eq_ofNat_of_zero_le (show 0 ≤ nv by omega)
  have hN1 : 1 ≤ N := by omega
  have hN2 : N ≤ 16 := by omega
  have hM2 : m ≤ 100 := by omega
  clear hyes
  have z0 : decide ((N : Int) < 1) = false := by simp; omega
  have z1 : decide (16 < (N : Int)) = false := by simp; omega
  have z2 : decide (100 < (m : Int)) = false := by simp; omega
  have z2n : decide (100 < m) = false := by simp; omega
  have HN := Lib.hid hm
  have HRD := Lib.hid hr
  have HWF := Lib.hid hwf
  clear hm hr hwf
  go_enter Try.func4, Try.ntmps4
  go_wp2_with fail
  have hnew : Calls Try.prog 8 #[.int .i64 900, .int .i64 900, .int .i64 0] w _ := tmnew_any w 900 900 0 (by omega) (by omega) (by omega) (by omega)
  refine hnew.mono ?_
  clear hnew
  rintro e w1 ⟨tp, rfl, h1, htp, hm1⟩
  have H1 := Lib.hid h1
  have HM1 := Lib.hid hm1
  have HTP := Lib.hid htp
  clear h1 hm1 htp
  go_wp2_with fail
  have hnew : Calls Try.prog 9 #[.int .i64 (N : Int), .pointer (some ⟨tp, 0, none⟩)] w1 _ := sdnew_any w1 N tp none 900 900 0 [] H1.out hN1 hN2
  refine hnew.mono ?_
  clear hnew
  rintro e w2 ⟨p, rfl, hs, hp, hm2⟩
  have HS2 : Hid (SW w w2 p tp N 0 0 900 900 0 900 0) := Lib.hid (SW.new (s1_made hs (Nat.le_trans HM1.out.size hp) HTP.out (HM1.out.of2 hm2)))
  clear hs hp hm2 H1
  go_wp2_with fail
  go_loopw [9, 10, 11] (fun xv av jv wr => ∃ X A n j : Nat, A + n = X ∧ X ≤ j ∧ j ≤ m ∧ xv = .int .i64 (X : Int) ∧ av = .int .i64 (A : Int) ∧ jv = .int .i64 (j : Int) ∧ SW w wr p tp N A n 900 900 0 900 0) (fun _ _ jv _ => m - (intOf jv).toNat)
  case atStart => exact ⟨0, 0, 0, 0, rfl, Nat.le_refl _, Nat.zero_le _, rfl, rfl, rfl, HS2.out⟩
  case round =>
    obtain ⟨X, A, n, j, hAn, hXj, hj, rfl, rfl, rfl, hS⟩ := hrel
    obtain ⟨wo, hwo⟩ : ∃ x : World, x = wr := ⟨_, rfl⟩
    subst hwo
    have HS3 := Lib.hid hS
    have hnN := hS.nW.1
    clear hS HS2
    by_cases hjm : j < m
    case neg =>
      obtain rfl : j = m := by omega
      have y1 : decide ((j : Int) < (j : Int)) = false := by simp
      have y1n : decide (j < j) = false := by simp
      go_wp2_with (go_at_call 7; refine (awake25_any _).mono ?_; rintro e w8 ⟨rfl, hm8⟩; have HM8 := Lib.hid hm8; clear hm8)
      go_ret
      exact ⟨rfl, HS3.out.mod.of2 HM8.out⟩
    case pos =>
      have y1 : decide ((j : Int) < (m : Int)) = true := by simp; omega
      have y1n : decide (j < m) = true := by simp; omega
      have hjl : j < l.length := by rw [HN.out]; exact hjm
      obtain ⟨eb, eo, hpl, e0⟩ := rd1 HRD.out j hjl
      have hix := fun wx => run_indexS (P := Try.prog) wx 44 3 iI 1 Try.underlying44 hiI hsI a0 m c0 j hjm (HRD.out.some_ (by omega))
      rw [hpl] at hix
      obtain ⟨x, hx⟩ : ∃ x, l[j] = x := ⟨_, rfl⟩
      rw [hx] at e0
      have hxw := i64_wf x |>.1 (hx ▸ HWF.out _ (List.getElem_mem hjl))
      have HE0 := Lib.hid e0
      clear hx e0 hpl
      have e2 := HS3.out.mod.cell HE0.out (fun e => e)
      by_cases h3 : x.tmod 3 = 0
      case pos =>
        have t0 : (x.tmod 3 == 0) = true := by simpa using h3
        obtain ⟨qv, hqv⟩ : ∃ y, x.tdiv 3 = y := ⟨_, rfl⟩
        have hqb : -9223372036854775808 ≤ qv ∧ qv ≤ 9223372036854775807 := by rw [← hqv]; have := Int.mul_tdiv_add_tmod x 3; omega
        have hqw : IntKind.i64.wrap qv = qv := IntWalk.i64_in _ hqb
        go_wp2_with fail
        refine (round_any qv ((N : Int) + 2) _ (by omega) (by omega)).mono ?_
        rintro e w' ⟨rfl, rfl⟩
        have hr0 := Int.emod_nonneg qv (b := (N : Int) + 2) (by omega)
        have hr1 := Int.emod_lt_of_pos qv (b := (N : Int) + 2) (by omega)
        obtain ⟨rr, hrr⟩ := Int.eq_ofNat_of_zero_le hr0
        rw [hrr] at hr1 ⊢
        have hr2 : rr < N + 2 := by omega
        clear hr0 hr1 hrr hqv hqw hqb
        obtain ⟨kk, hkk⟩ : ∃ kk, A + rr = kk := ⟨_, rfl⟩
        have ha1 : IntKind.i64.wrap ((A : Int) + (rr : Int)) = (kk : Int) := by rw [IntWalk.i64_in _ (by omega)]; omega
        have ha2 : (A : Int) + (rr : Int) = (kk : Int) := by omega
        have ha3 : IntKind.i64.wrap ((kk : Int) - (A : Int)) = (rr : Int) := by rw [IntWalk.i64_in _ (by omega)]; omega
        have ha4 : (kk : Int) - (A : Int) = (rr : Int) := by omega
        have hkw : IntKind.i64.wrap (kk : Int) = (kk : Int) := IntWalk.i64_in _ (by omega)
        have hkb : kk ≤ 200 := by omega
        have hAb : A ≤ 100 := by omega
        have hXb : X ≤ 100 := by omega
        have HKK := Lib.hid hkk
        replace hkk : A + rr ≤ kk ∧ kk ≤ A + rr := ⟨Nat.le_of_eq hkk, Nat.le_of_eq hkk.symm⟩
        by_cases g1 : X < kk
        case pos =>
          have t1 : decide ((X : Int) < (kk : Int)) = true := by simp; omega
          have t1n : decide (X < kk) = true := by simp; omega
          go_wp2_with fail
          refine (sw_acked_no HS3.out (by omega) (kk : Int) (.inr (by omega))).mono ?_
          rintro e w6 ⟨rfl, hs⟩
          have HS6 := Lib.hid hs
          clear hs HS3 e2
          have had : IntKind.i64.wrap (A : Int) = (A : Int) := IntWalk.i64_in _ (by omega)
          obtain ⟨r, hr33⟩ : ∃ r : Nat, r + n ≤ N ∧ N ≤ r + n := ⟨N - n, by omega, by omega⟩
          have r1 : IntKind.i64.wrap ((X : Int) - (A : Int)) = (n : Int) := by rw [IntWalk.i64_in _ (by omega)]; omega
          have r1n : (X : Int) - (A : Int) = (n : Int) := by omega
          have r2 : IntKind.i64.wrap ((N : Int) - (n : Int)) = (r : Int) := by rw [IntWalk.i64_in _ (by omega)]; omega
          have r2n : (N : Int) - (n : Int) = (r : Int) := by omega
          have hrb : r ≤ 16 := by omega
          have hrw : IntKind.i64.wrap (r : Int) = (r : Int) := IntWalk.i64_in _ (by omega)
          have HRR : Hid (((N - n : Nat) : Int) = (r : Int)) := Lib.hid (by omega)
          have HSS : Hid (((A + n : Nat) : Int) = (X : Int)) := Lib.hid (by omega)
          go_wp2_with (first
            | (go_at_call 22; refine (sw_room HS6.out (r : Int) HRR.out).mono ?_; rintro e w20 ⟨rfl, hs⟩; have HS20 := Lib.hid hs; clear hs)
            | (go_at_call 24; refine (sw_seq HS20.out (by omega) (X : Int) HSS.out).mono ?_; rintro e w21 ⟨rfl, hs⟩; have HS21 := Lib.hid hs; have q21 := hs.ptr; clear hs)
            | (go_at_call 25; refine (sw_len HS21.out).mono ?_; rintro e w22 ⟨rfl, rfl⟩))
          go_roundw
          case rel => exact ⟨X, A, n, j + 1, by omega, by omega, hjm, by go_num, by go_num, by go_num, HS21.out⟩
          case measure => simp [intOf]; omega
        case neg =>
          have t1 : decide ((X : Int) < (kk : Int)) = false := by simp; omega
          have t1n : decide (X < kk) = false := by simp; omega
          by_cases g2 : rr = 0
          case pos =>
            have HG2 := Lib.hid g2
            have w0 : ((0 : Int) != (rr : Int)) = false := by simp [g2]
            have w1 : ((0 : Int) == (rr : Int)) = true := by simp [g2]
            clear g2
            go_wp2_with fail
            refine (sw_acked_no HS3.out (by omega) (kk : Int) (.inl (by have := HG2.out; omega))).mono ?_
            rintro e w6 ⟨rfl, hs⟩
            have HS6 := Lib.hid hs
            clear hs HS3 e2
            have had : IntKind.i64.wrap (A : Int) = (A : Int) := IntWalk.i64_in _ (by omega)
            obtain ⟨r, hr33⟩ : ∃ r : Nat, r + n ≤ N ∧ N ≤ r + n := ⟨N - n, by omega, by omega⟩
            have r1 : IntKind.i64.wrap ((X : Int) - (A : Int)) = (n : Int) := by rw [IntWalk.i64_in _ (by omega)]; omega
            have r1n : (X : Int) - (A : Int) = (n : Int) := by omega
            have r2 : IntKind.i64.wrap ((N : Int) - (n : Int)) = (r : Int) := by rw [IntWalk.i64_in _ (by omega)]; omega
            have r2n : (N : Int) - (n : Int) = (r : Int) := by omega
            have hrb : r ≤ 16 := by omega
            have hrw : IntKind.i64.wrap (r : Int) = (r : Int) := IntWalk.i64_in _ (by omega)
            have HRR : Hid (((N - n : Nat) : Int) = (r : Int)) := Lib.hid (by omega)
            have HSS : Hid (((A + n : Nat) : Int) = (X : Int)) := Lib.hid (by omega)
            go_wp2_with (first
              | (go_at_call 22; refine (sw_room HS6.out (r : Int) HRR.out).mono ?_; rintro e w20 ⟨rfl, hs⟩; have HS20 := Lib.hid hs; clear hs)
              | (go_at_call 24; refine (sw_seq HS20.out (by omega) (X : Int) HSS.out).mono ?_; rintro e w21 ⟨rfl, hs⟩; have HS21 := Lib.hid hs; have q21 := hs.ptr; clear hs)
              | (go_at_call 25; refine (sw_len HS21.out).mono ?_; rintro e w22 ⟨rfl, rfl⟩))
            go_roundw
            case rel => exact ⟨X, A, n, j + 1, by omega, by omega, hjm, by go_num, by go_num, by go_num, HS21.out⟩
            case measure => simp [intOf]; omega
          case neg =>
            obtain ⟨n2, hn2⟩ : ∃ n2, n - rr = n2 := ⟨_, rfl⟩
            have hsum : kk + n2 = X := by omega
            have hack := sw_acked HS3.out (by omega) rr (by omega) (by omega) (kk : Int) (by omega)
            rw [HKK.out, hn2] at hack
            have HACK := Lib.hid hack
            clear hack
            replace hn2 : n - rr ≤ n2 ∧ n2 ≤ n - rr := ⟨Nat.le_of_eq hn2, Nat.le_of_eq hn2.symm⟩
            go_wp2_with fail
            refine HACK.out.mono ?_
            rintro e w6 ⟨rfl, hs⟩
            have HS6 := Lib.hid hs
            clear hs HS3 e2
            obtain ⟨r, hr33⟩ : ∃ r : Nat, r + n2 ≤ N ∧ N ≤ r + n2 := ⟨N - n2, by omega, by omega⟩
            have r1 : IntKind.i64.wrap ((X : Int) - (kk : Int)) = (n2 : Int) := by rw [IntWalk.i64_in _ (by omega)]; omega
            have r1n : (X : Int) - (kk : Int) = (n2 : Int) := by omega
            have r2 : IntKind.i64.wrap ((N : Int) - (n2 : Int)) = (r : Int) := by rw [IntWalk.i64_in _ (by omega)]; omega
            have r2n : (N : Int) - (n2 : Int) = (r : Int) := by omega
            have hrb : r ≤ 16 := by omega
            have hrw : IntKind.i64.wrap (r : Int) = (r : Int) := IntWalk.i64_in _ (by omega)
            have HRR : Hid (((N - n2 : Nat) : Int) = (r : Int)) := Lib.hid (by omega)
            have HSS : Hid (((kk + n2 : Nat) : Int) = (X : Int)) := Lib.hid (by omega)
            go_wp2_with (first
              | (go_at_call 22; refine (sw_room HS6.out (r : Int) HRR.out).mono ?_; rintro e w20 ⟨rfl, hs⟩; have HS20 := Lib.hid hs; clear hs)
              | (go_at_call 24; refine (sw_seq HS20.out (by omega) (X : Int) HSS.out).mono ?_; rintro e w21 ⟨rfl, hs⟩; have HS21 := Lib.hid hs; have q21 := hs.ptr; clear hs)
              | (go_at_call 25; refine (sw_len HS21.out).mono ?_; rintro e w22 ⟨rfl, rfl⟩))
            go_roundw
            case rel => exact ⟨X, kk, n2, j + 1, by omega, by omega, hjm, by go_num, by go_num, by go_num, HS21.out⟩
            case measure => simp [intOf]; omega
      case neg =>
        have t0 : (x.tmod 3 == 0) = false := by simpa using h3
        have hw8 : IntKind.u8.wrap (j : Int) = (j : Int) := IntWalk.u8_in _ (by omega)
        have hw9 : IntKind.u8.wrap (X : Int) = (X : Int) := IntWalk.u8_in _ (by omega)
        have d1 : IntKind.i64.wrap ((X : Int) - (A : Int)) = (n : Int) := by rw [IntWalk.i64_in _ (by omega)]; omega
        have d2 : (X : Int) - (A : Int) = (n : Int) := by omega
        have hbl : Blk (wo.alloc (.cells #[.int .u8 (j : Int), .int .u8 (X : Int)] 5)) wo.heap.size 5 [.int .u8 (j : Int), .int .u8 (X : Int)] := Blk.new wo _ _
        have HBL := Lib.hid hbl
        have hrl := Rd.lit (w := wo) 5 [.int .u8 (j : Int), .int .u8 (X : Int)] (0, 0) _ 2 rfl rfl (by decide)
        have HRL := Lib.hid hrl
        clear hbl hrl
        go_wp2_with fail
        by_cases hful : n = N
        case pos =>
          have t2 : decide ((N : Int) ≤ (n : Int)) = true := by simp; omega
          have t2n : decide (N ≤ n) = true := by simp; omega
          refine (sw_full HS3.out (Mod.alloc (fun _ => False) wo _) hful 0 _).mono ?_
          rintro e w4 ⟨rfl, hk, hm4⟩
          have hb4 := HBL.out.keep hm4 (fun e => e)
          have c40 := hb4.cell 0 rfl
          have f40 := hb4.free 0
          have HS5 : Hid (SW w (w4.setCell ⟨wo.heap.size, 0, none⟩ (.int .u8 255)) p tp N A n 900 900 0 900 0) := Lib.hid (hk _ (Mod.setCell (F := fun k => wo.heap.size ≤ k ∧ k < (wo.alloc (.cells #[.int .u8 (j : Int), .int .u8 (X : Int)] 5)).heap.size) w4 ⟨wo.heap.size, 0, none⟩ _ ⟨Nat.le_refl _, by simp⟩))
          clear hk hm4 hb4 HS3 e2
          obtain ⟨r, hr33⟩ : ∃ r : Nat, r + n ≤ N ∧ N ≤ r + n := ⟨N - n, by omega, by omega⟩
          have r1 : IntKind.i64.wrap ((X : Int) - (A : Int)) = (n : Int) := by rw [IntWalk.i64_in _ (by omega)]; omega
          have r1n : (X : Int) - (A : Int) = (n : Int) := by omega
          have r2 : IntKind.i64.wrap ((N : Int) - (n : Int)) = (r : Int) := by rw [IntWalk.i64_in _ (by omega)]; omega
          have r2n : (N : Int) - (n : Int) = (r : Int) := by omega
          have hrb : r ≤ 16 := by omega
          have hrw : IntKind.i64.wrap (r : Int) = (r : Int) := IntWalk.i64_in _ (by omega)
          have HRR : Hid (((N - n : Nat) : Int) = (r : Int)) := Lib.hid (by omega)
          have HSS : Hid (((A + n : Nat) : Int) = (X : Int)) := Lib.hid (by omega)
          go_wp2_with (first
            | (go_at_call 22; refine (sw_room HS5.out (r : Int) HRR.out).mono ?_; rintro e w20 ⟨rfl, hs⟩; have HS20 := Lib.hid hs; clear hs)
            | (go_at_call 24; refine (sw_seq HS20.out (by omega) (X : Int) HSS.out).mono ?_; rintro e w21 ⟨rfl, hs⟩; have HS21 := Lib.hid hs; have q21 := hs.ptr; clear hs)
            | (go_at_call 25; refine (sw_len HS21.out).mono ?_; rintro e w22 ⟨rfl, rfl⟩))
          go_roundw
          case rel => exact ⟨X, A, n, j + 1, by omega, by omega, hjm, by go_num, by go_num, by go_num, HS21.out⟩
          case measure => simp [intOf]; omega
        case neg =>
          have t2 : decide ((N : Int) ≤ (n : Int)) = false := by simp; omega
          have t2n : decide (N ≤ n) = false := by simp; omega
          refine (sw_send HS3.out (Mod.alloc (fun _ => False) wo _) (by omega) (by omega) rfl 0 (by omega) rfl [(j : Int), (X : Int)] 2 rfl _ HRL.out (by omega) (X : Int) (by omega)).mono ?_
          rintro e w4 ⟨rfl, hk, hm4⟩
          have hb4 := HBL.out.keep hm4 (fun e => Nat.lt_irrefl _ e)
          have c40 := hb4.cell 0 rfl
          have f40 := hb4.free 0
          obtain ⟨bs, hb1, hb2, hb3⟩ := hk _ (Mod.setCell (F := fun k => wo.heap.size ≤ k ∧ k < (wo.alloc (.cells #[.int .u8 (j : Int), .int .u8 (X : Int)] 5)).heap.size) w4 ⟨wo.heap.size, 0, none⟩ (.int .u8 255) ⟨Nat.le_refl _, by simp⟩)
          have HB1 := Lib.hid hb1
          have HB2 := Lib.hid hb2
          have HB3 := Lib.hid hb3
          clear hb1 hb2 hb3 hk hm4 hb4 HS3 e2
          go_wp2_with fail
          refine (s1_body_at HB3.out (by omega) n [(j : Int), (X : Int)] (by rw [List.getElem?_append_right (by rw [HB1.out]; exact Nat.le_refl _), HB1.out, Nat.sub_self]; rfl) (by simp) (X : Int) (by omega)).mono ?_
          rintro e w6 ⟨ab, cb, rfl, hrd, _, hs, hm6⟩
          have HS6 : Hid (SW w w6 p tp N A (n + 1) 900 900 0 900 0) := Lib.hid (SW.of HB1.out HB2.out (by simp) hs)
          have k0 := run_strS w6 35 9 5 Try.underlying35 Try.underlying5 Try.underlying9 hrd
          have hl2 : Rd (w6.alloc (.cells #[.int .u8 (j : Int), .int .u8 (X : Int)] 5)) 1 _ 2 ([(j : Int), (X : Int)].map (Value.int .u8)) := Rd.lit (w := w6) 5 [.int .u8 (j : Int), .int .u8 (X : Int)] (0, 0) _ 2 rfl rfl (by decide)
          have k1 := run_strS (w6.alloc (.cells #[.int .u8 (j : Int), .int .u8 (X : Int)] 5)) 35 9 5 Try.underlying35 Try.underlying5 Try.underlying9 hl2
          clear hl2
          simp only [List.length_cons, List.length_nil, Nat.zero_add] at k0 ⊢
          clear hrd hs hm6 HB3 HB2 HB1 c40 f40
          obtain ⟨X2, hX2⟩ : ∃ X2, X + 1 = X2 := ⟨_, rfl⟩
          replace hX2 : X + 1 ≤ X2 ∧ X2 ≤ X + 1 := ⟨Nat.le_of_eq hX2, Nat.le_of_eq hX2.symm⟩
          have hx3 : IntKind.i64.wrap ((X : Int) + 1) = (X2 : Int) := by rw [IntWalk.i64_in _ (by omega)]; omega
          have hx4 : (X : Int) + 1 = (X2 : Int) := by omega
          have hX2b : X2 ≤ 101 := by omega
          have hX2w : IntKind.i64.wrap (X2 : Int) = (X2 : Int) := IntWalk.i64_in _ (by omega)
          obtain ⟨n2, hn2⟩ : ∃ n2, n + 1 = n2 := ⟨_, rfl⟩
          rw [hn2] at HS6
          replace hn2 : n + 1 ≤ n2 ∧ n2 ≤ n + 1 := ⟨Nat.le_of_eq hn2, Nat.le_of_eq hn2.symm⟩
          obtain ⟨r, hr33⟩ : ∃ r : Nat, r + n2 ≤ N ∧ N ≤ r + n2 := ⟨N - n2, by omega, by omega⟩
          have r1 : IntKind.i64.wrap ((X2 : Int) - (A : Int)) = (n2 : Int) := by rw [IntWalk.i64_in _ (by omega)]; omega
          have r1n : (X2 : Int) - (A : Int) = (n2 : Int) := by omega
          have r2 : IntKind.i64.wrap ((N : Int) - (n2 : Int)) = (r : Int) := by rw [IntWalk.i64_in _ (by omega)]; omega
          have r2n : (N : Int) - (n2 : Int) = (r : Int) := by omega
          have hrb : r ≤ 16 := by omega
          have hrw : IntKind.i64.wrap (r : Int) = (r : Int) := IntWalk.i64_in _ (by omega)
          have HRR : Hid (((N - n2 : Nat) : Int) = (r : Int)) := Lib.hid (by omega)
          have HSS : Hid (((A + n2 : Nat) : Int) = (X2 : Int)) := Lib.hid (by omega)
          go_wp2_with (first
            | (go_at_call 22; refine (sw_room (HS6.out.keep (Mod.alloc (fun _ => False) _ _)) (r : Int) HRR.out).mono ?_; rintro e w20 ⟨rfl, hs⟩; have HS20 := Lib.hid hs; clear hs)
            | (go_at_call 24; refine (sw_seq HS20.out (by omega) (X2 : Int) HSS.out).mono ?_; rintro e w21 ⟨rfl, hs⟩; have HS21 := Lib.hid hs; have q21 := hs.ptr; clear hs)
            | (go_at_call 25; refine (sw_len HS21.out).mono ?_; rintro e w22 ⟨rfl, rfl⟩))
          go_roundw
          case rel => exact ⟨X2, A, n2, j + 1, by omega, by omega, hjm, by go_num, by go_num, by go_num, HS21.out⟩
          case measure => simp [intOf]; omega
theorem swin_law (w : World) (nv : Int) (_ : (Lit.int .i64 nv).wf = true) (a0 : Option Addr) (m c0 : Nat) (l : List Int) (ok : (encSlice (encInt .i64)).ok w (.slice a0 m c0, l)) :
    Calls Try.prog 4 #[.int .i64 nv, .slice a0 m c0] w fun e w' => e = .returned (.bool true) ∧ Below w.heap.size w w' := by
  obtain ⟨hn, hr, hw⟩ := ok_ints ok
  exact (swin_all w nv a0 m c0 l hn hr hw).mono fun e w' h => ⟨h.1, h.2.below (Nat.le_refl _) (fun _ e => e.elim)⟩
end Go.Proofs.Ytopldodfkcgmhaa
