/- SenderStale by contract. -/
import Derived.Test.YtopldodfkcgmhaaSdW
namespace Go.Proofs.Ytopldodfkcgmhaa
open Go.RowKit Mile Go.Maps
set_option maxRecDepth 100000
set_option maxHeartbeats 64000000 in
theorem sstale_all (w : World) (nv : Int) (a0 : Option Addr) (m c0 : Nat) (l : List Int) (hm : l.length = m) (hr : Rd w 1 (.slice a0 m c0) m (l.map (Value.int .i64))) :
    Calls Try.prog 6 #[.int .i64 nv, .slice a0 m c0] w fun e w' => e = .returned (.bool true) ∧ Mod (fun _ => False) w w' := by
  by_cases hno : ¬ (1 ≤ nv ∧ nv ≤ 16 ∧ m ≤ 40)
  case pos =>
    clear hr hm
    have hend : ∀ (b0 b1 b2 : Bool), decide (nv < 1) = b0 → decide (16 < nv) = b1 → decide (40 < (m : Int)) = b2 → (b0 || b1 || b2) = true →
        Calls Try.prog 6 #[.int .i64 nv, .slice a0 m c0] w fun e w' => e = .returned (.bool true) ∧ Mod (fun _ => False) w w' := by
      intro b0 b1 b2 hc0 hc1 hc2 hbb
      clear hno
      cases b0
      · skip
        cases b1
        · skip
          cases b2
          · cases hbb
          · clear hbb 
            go_enter Try.func6, Try.ntmps6
            go_wp2_with fail
            refine (awake25_any _).mono ?_
            rintro e w9 ⟨rfl, hm9⟩
            go_wp2_with fail
            go_ret
            exact ⟨rfl, hm9⟩
        · clear hbb hc2
          go_enter Try.func6, Try.ntmps6
          go_wp2_with fail
          refine (awake25_any _).mono ?_
          rintro e w9 ⟨rfl, hm9⟩
          go_wp2_with fail
          go_ret
          exact ⟨rfl, hm9⟩
      · clear hbb hc1 hc2
        go_enter Try.func6, Try.ntmps6
        go_wp2_with fail
        refine (awake25_any _).mono ?_
        rintro e w9 ⟨rfl, hm9⟩
        go_wp2_with fail
        go_ret
        exact ⟨rfl, hm9⟩
    refine hend _ _ _ rfl rfl rfl ?_
    simp only [Bool.or_eq_true, decide_eq_true_eq]
    omega
  case neg =>
  obtain ⟨iI, hiI, hzI, hsI, hbI⟩ := info_parts Tm.info3
  have hyes := Decidable.not_not.1 hno
  clear hno
  obtain ⟨N, rfl⟩ := Int.eq_ofNat_of_zero_le (show 0 ≤ nv by omega)
  have hN1 : 1 ≤ N := by omega
  have hN2 : N ≤ 16 := by omega
  have hM2 : m ≤ 40 := by omega
  clear hyes
  have z0 : decide ((N : Int) < 1) = false := by simp; omega
  have z1 : decide (16 < (N : Int)) = false := by simp; omega
  have z2 : decide (40 < (m : Int)) = false := by simp; omega
  have z2n : decide (40 < m) = false := by simp; omega
  have HN := Lib.hid hm
  have HRD := Lib.hid hr
  clear hm hr
  go_enter Try.func6, Try.ntmps6
  go_wp2_with fail
  have hnew : Calls Try.prog 8 #[.int .i64 900, .int .i64 900, .int .i64 0] w _ := tmnew_any w 900 900 0 (by omega) (by omega) (by omega) (by omega)
  refine hnew.mono ?_
  clear hnew
  rintro e w1 ⟨tp, rfl, h1, htp, hm1⟩
  have H1 := Lib.hid h1
  have HM1 := Lib.hid hm1
  have HTP := Lib.hid htp
  clear h1 hm1 htp
  go_wp2_with fail
  have hnew : Calls Try.prog 9 #[.int .i64 16, .pointer (some ⟨tp, 0, none⟩)] w1 _ := sdnew_any w1 16 tp none 900 900 0 [] H1.out (by omega) (by omega)
  refine hnew.mono ?_
  clear hnew
  rintro e w2 ⟨p, rfl, hs, hp, hm2⟩
  have HS2 : Hid (SW w w2 p tp 16 0 0 900 900 0 900 0) := Lib.hid (SW.new (s1_made hs (Nat.le_trans HM1.out.size hp) HTP.out (HM1.out.of2 hm2)))
  clear hs hp hm2 H1
  go_wp2_with fail
  go_loopw [9] (fun iv wr => ∃ i : Nat, i ≤ N ∧ iv = .int .i64 (i : Int) ∧ SW w wr p tp 16 0 i 900 900 0 900 0) (fun iv _ => N - (intOf iv).toNat)
  case atStart => exact ⟨0, Nat.zero_le _, rfl, HS2.out⟩
  case round =>
    obtain ⟨i, hi, rfl, hS⟩ := hrel
    obtain ⟨wo, hwo⟩ : ∃ x : World, x = wr := ⟨_, rfl⟩
    subst hwo
    have HS3 := Lib.hid hS
    clear hS HS2
    by_cases hlt : i < N
    case pos =>
      have y0 : decide ((i : Int) < (N : Int)) = true := by simp; omega
      have y0n : decide (i < N) = true := by simp; omega
      have hw8 : IntKind.u8.wrap (i : Int) = (i : Int) := IntWalk.u8_in _ (by omega)
      go_wp2_with fail
      refine (sw_send HS3.out (Mod.alloc (fun _ => False) wo _) (by omega) (by omega) rfl 0 (by omega) rfl [(i : Int)] 1 rfl _ (Rd.lit 5 [.int .u8 (i : Int)] (0, 0) _ 1 rfl rfl (by decide)) (by omega) (i : Int) (by rw [Nat.zero_add])).mono ?_
      rintro e w4 ⟨rfl, hk, _⟩
      have HS4 : Hid (SW w w4 p tp 16 0 (i + 1) 900 900 0 900 0) := Lib.hid (by obtain ⟨bs, h1, h2, h3⟩ := hk w4 (Mod.refl _ _); exact SW.of h1 h2 (by simp) h3)
      clear hk HS3
      go_wp2_with fail
      go_roundw
      case rel => exact ⟨i + 1, hlt, by go_num, HS4.out⟩
      case measure => simp [intOf]; omega
    case neg =>
      obtain rfl : i = N := by omega
      clear hi hlt
      have y0 : decide ((i : Int) < (i : Int)) = false := by simp
      have y0n : decide (i < i) = false := by simp
      go_wp2_with fail
      go_loopw [10, 11] (fun av jv wr => ∃ A j n : Nat, A + n = i ∧ j ≤ m ∧ av = .int .i64 (A : Int) ∧ jv = .int .i64 (j : Int) ∧ SW w wr p tp 16 A n 900 900 0 900 0) (fun _ jv _ => m - (intOf jv).toNat)
      case atStart => exact ⟨0, 0, i, by omega, Nat.zero_le _, rfl, rfl, HS3.out⟩
      case round =>
        obtain ⟨A, j, n, hAn, hj, rfl, rfl, hS⟩ := hrel
        obtain ⟨wo2, hwo2⟩ : ∃ x : World, x = wr := ⟨_, rfl⟩
        subst hwo2
        have HS5 := Lib.hid hS
        clear hS HS3 y0 y0n
        by_cases hjm : j < m
        case neg =>
          obtain rfl : j = m := by omega
          have y1 : decide ((j : Int) < (j : Int)) = false := by simp
          have y1n : decide (j < j) = false := by simp
          by_cases hn0 : n = 0
          case pos =>
            subst hn0
            have hsub : IntKind.i64.wrap ((i : Int) - (A : Int)) = 0 := by rw [IntWalk.i64_in _ (by omega)]; omega
            have hsub2 : (i : Int) - (A : Int) = 0 := by omega
            go_wp2_with fail
            refine (sw_acked_no HS5.out (by omega) (i : Int) (.inl (by omega))).mono ?_
            rintro e w6 ⟨rfl, hs⟩
            have HS6 : Hid (SW w w6 p tp 16 A 0 900 900 0 900 0) := Lib.hid hs
            have q0 := hs.ptr
            clear hs
            go_wp2_with (first
              | (go_at_call 25; refine (sw_len HS6.out).mono ?_; rintro e w7 ⟨rfl, rfl⟩)
              | (go_at_call 7; refine (awake25_any _).mono ?_; rintro e w8 ⟨rfl, hm8⟩; have HM8 := Lib.hid hm8; clear hm8))
            go_ret
            exact ⟨rfl, HS6.out.mod.of2 HM8.out⟩
          case neg =>
            have hsub : IntKind.i64.wrap ((i : Int) - (A : Int)) = (n : Int) := by rw [IntWalk.i64_in _ (by omega)]; omega
            have hsub2 : (i : Int) - (A : Int) = (n : Int) := by omega
            go_wp2_with fail
            refine (sw_acked HS5.out (by omega) n (by omega) (by omega) (i : Int) (by omega)).mono ?_
            rintro e w6 ⟨rfl, hs⟩
            rw [Nat.sub_self] at hs
            have HS6 := Lib.hid hs
            have q0 := hs.ptr
            clear hs
            go_wp2_with (first
              | (go_at_call 25; refine (sw_len HS6.out).mono ?_; rintro e w7 ⟨rfl, rfl⟩)
              | (go_at_call 7; refine (awake25_any _).mono ?_; rintro e w8 ⟨rfl, hm8⟩; have HM8 := Lib.hid hm8; clear hm8))
            go_ret
            exact ⟨rfl, HS6.out.mod.of2 HM8.out⟩
        case pos =>
          have y1 : decide ((j : Int) < (m : Int)) = true := by simp; omega
          have y1n : decide (j < m) = true := by simp; omega
          have hjl : j < l.length := by rw [HN.out]; exact hjm
          have hA16 : A ≤ 16 := by omega
          obtain ⟨eb, eo, hpl, e0⟩ := rd1 HRD.out j hjl
          have hix := fun wx => run_indexS (P := Try.prog) wx 44 3 iI 1 Try.underlying44 hiI hsI a0 m c0 j hjm (HRD.out.some_ (by omega))
          rw [hpl] at hix
          obtain ⟨x, hx⟩ : ∃ x, l[j] = x := ⟨_, rfl⟩
          rw [hx] at e0
          have HE0 := Lib.hid e0
          clear hx e0 hpl
          have e2 := HS5.out.mod.cell HE0.out (fun e => e)
          by_cases u1 : x ≤ (i : Int)
          case neg =>
            have t1 : decide (x ≤ (i : Int)) = false := by simp; omega
            go_wp2_with fail
            refine (sw_acked_no HS5.out (by omega) x (.inr (by omega))).mono ?_
            rintro e w6 ⟨rfl, hs⟩
            have HS6 := Lib.hid hs
            clear hs HS5 e2
            have had : IntKind.i64.wrap (A : Int) = (A : Int) := IntWalk.i64_in _ (by omega)
            have e5 := HS6.out.mod.cell HE0.out (fun e => e)
            go_wp2_with fail
            go_loopw [13] (fun kv wr => ∃ k : Nat, k ≤ i ∧ kv = .int .i64 (k : Int) ∧ SW w wr p tp 16 A n 900 900 0 900 0) (fun kv _ => i - (intOf kv).toNat)
            case atStart => exact ⟨0, Nat.zero_le _, rfl, HS6.out⟩
            case round =>
              obtain ⟨k, hk, rfl, hS⟩ := hrel
              obtain ⟨wo3, hwo3⟩ : ∃ x : World, x = wr := ⟨_, rfl⟩
              subst hwo3
              have HS7 := Lib.hid hS
              clear hS HS6 e5
              by_cases hki : k < i
              case pos =>
                have y2 : decide ((k : Int) < (i : Int)) = true := by simp; omega
                have y2n : decide (k < i) = true := by simp; omega
                by_cases hka : k < A
                case pos =>
                  have y3 : decide ((A : Int) ≤ (k : Int)) = false := by simp; omega
                  have y3n : decide (A ≤ k) = false := by simp; omega
                  go_wp2_with fail
                  refine (sw_body_no HS7.out (by omega) (k : Int) (.inl (by omega))).mono ?_
                  rintro e w8 ⟨rfl, hs⟩
                  have HS8 := Lib.hid hs
                  clear hs HS7
                  go_wp2_with fail
                  go_roundw
                  case rel => exact ⟨k + 1, hki, by go_num, HS8.out⟩
                  case measure => simp [intOf]; omega
                case neg =>
                  have y3 : decide ((A : Int) ≤ (k : Int)) = true := by simp; omega
                  have y3n : decide (A ≤ k) = true := by simp; omega
                  go_wp2_with fail
                  refine (sw_body_at HS7.out (by omega) (k : Int) (by omega)).mono ?_
                  rintro e w8 ⟨av, nw, cv, rfl, hs⟩
                  have HS8 := Lib.hid hs
                  clear hs HS7
                  go_wp2_with fail
                  go_roundw
                  case rel => exact ⟨k + 1, hki, by go_num, HS8.out⟩
                  case measure => simp [intOf]; omega
              case neg =>
                obtain rfl : k = i := by omega
                have y2 : decide ((k : Int) < (k : Int)) = false := by simp
                have y2n : decide (k < k) = false := by simp
                have e7 := HS7.out.mod.cell HE0.out (fun e => e)
                obtain ⟨D, hD⟩ : ∃ D : Nat, D + k = 16 := ⟨16 - k, by omega⟩
                have r1 : IntKind.i64.wrap (16 - (k : Int)) = (D : Int) := by rw [IntWalk.i64_in _ (by omega)]; omega
                have r1n : 16 - (k : Int) = (D : Int) := by omega
                obtain ⟨E, hE⟩ : ∃ E : Nat, D + A = E := ⟨_, rfl⟩
                have r2 : IntKind.i64.wrap ((D : Int) + (A : Int)) = (E : Int) := by rw [IntWalk.i64_in _ (by omega)]; omega
                have r2n : (D : Int) + (A : Int) = (E : Int) := by omega
                have HRR : Hid (((16 - n : Nat) : Int) = (E : Int)) := Lib.hid (by omega)
                by_cases v1 : (A : Int) ≤ x
                case neg =>
                  have y4 : decide ((A : Int) ≤ x) = false := by simp; omega
                  go_wp2_with fail
                  refine (sw_body_no HS7.out (by omega) x (by omega)).mono ?_
                  rintro e w8 ⟨rfl, hs⟩
                  have HS8 := Lib.hid hs
                  have e8 := hs.mod.cell HE0.out (fun e => e)
                  clear hs HS7 e7
                  go_wp2_with (go_at_call 22; refine (sw_room HS8.out (E : Int) HRR.out).mono ?_; rintro e w9 ⟨rfl, hs⟩; have HS9 := Lib.hid hs; have e9 := hs.mod.cell HE0.out (fun e => e); clear hs)
                  go_roundw
                  case rel => exact ⟨A, j + 1, n, by omega, hjm, by go_num, by go_num, HS9.out⟩
                  case measure => simp [intOf]; omega
                case pos =>
                  by_cases v2 : x < (k : Int)
                  case pos =>
                    have y4 : decide ((A : Int) ≤ x) = true := by simp; omega
                    have y5 : decide (x < (k : Int)) = true := by simp; omega
                    go_wp2_with fail
                    refine (sw_body_at HS7.out (by omega) x (by omega)).mono ?_
                    rintro e w8 ⟨av, nw, cv, rfl, hs⟩
                    have HS8 := Lib.hid hs
                    have e8 := hs.mod.cell HE0.out (fun e => e)
                    clear hs HS7 e7
                    go_wp2_with (go_at_call 22; refine (sw_room HS8.out (E : Int) HRR.out).mono ?_; rintro e w9 ⟨rfl, hs⟩; have HS9 := Lib.hid hs; have e9 := hs.mod.cell HE0.out (fun e => e); clear hs)
                    go_roundw
                    case rel => exact ⟨A, j + 1, n, by omega, hjm, by go_num, by go_num, HS9.out⟩
                    case measure => simp [intOf]; omega
                  case neg =>
                    have y4 : decide ((A : Int) ≤ x) = true := by simp; omega
                    have y5 : decide (x < (k : Int)) = false := by simp; omega
                    go_wp2_with fail
                    refine (sw_body_no HS7.out (by omega) x (by omega)).mono ?_
                    rintro e w8 ⟨rfl, hs⟩
                    have HS8 := Lib.hid hs
                    have e8 := hs.mod.cell HE0.out (fun e => e)
                    clear hs HS7 e7
                    go_wp2_with (go_at_call 22; refine (sw_room HS8.out (E : Int) HRR.out).mono ?_; rintro e w9 ⟨rfl, hs⟩; have HS9 := Lib.hid hs; have e9 := hs.mod.cell HE0.out (fun e => e); clear hs)
                    go_roundw
                    case rel => exact ⟨A, j + 1, n, by omega, hjm, by go_num, by go_num, HS9.out⟩
                    case measure => simp [intOf]; omega
          case pos =>
            have t1 : decide (x ≤ (i : Int)) = true := by simp; omega
            by_cases u2 : (A : Int) < x
            case neg =>
              have t2 : decide ((A : Int) < x) = false := by simp; omega
              go_wp2_with fail
              refine (sw_acked_no HS5.out (by omega) x (.inl (by omega))).mono ?_
              rintro e w6 ⟨rfl, hs⟩
              have HS6 := Lib.hid hs
              clear hs HS5 e2
              have had : IntKind.i64.wrap (A : Int) = (A : Int) := IntWalk.i64_in _ (by omega)
              have e5 := HS6.out.mod.cell HE0.out (fun e => e)
              go_wp2_with fail
              go_loopw [13] (fun kv wr => ∃ k : Nat, k ≤ i ∧ kv = .int .i64 (k : Int) ∧ SW w wr p tp 16 A n 900 900 0 900 0) (fun kv _ => i - (intOf kv).toNat)
              case atStart => exact ⟨0, Nat.zero_le _, rfl, HS6.out⟩
              case round =>
                obtain ⟨k, hk, rfl, hS⟩ := hrel
                obtain ⟨wo3, hwo3⟩ : ∃ x : World, x = wr := ⟨_, rfl⟩
                subst hwo3
                have HS7 := Lib.hid hS
                clear hS HS6 e5
                by_cases hki : k < i
                case pos =>
                  have y2 : decide ((k : Int) < (i : Int)) = true := by simp; omega
                  have y2n : decide (k < i) = true := by simp; omega
                  by_cases hka : k < A
                  case pos =>
                    have y3 : decide ((A : Int) ≤ (k : Int)) = false := by simp; omega
                    have y3n : decide (A ≤ k) = false := by simp; omega
                    go_wp2_with fail
                    refine (sw_body_no HS7.out (by omega) (k : Int) (.inl (by omega))).mono ?_
                    rintro e w8 ⟨rfl, hs⟩
                    have HS8 := Lib.hid hs
                    clear hs HS7
                    go_wp2_with fail
                    go_roundw
                    case rel => exact ⟨k + 1, hki, by go_num, HS8.out⟩
                    case measure => simp [intOf]; omega
                  case neg =>
                    have y3 : decide ((A : Int) ≤ (k : Int)) = true := by simp; omega
                    have y3n : decide (A ≤ k) = true := by simp; omega
                    go_wp2_with fail
                    refine (sw_body_at HS7.out (by omega) (k : Int) (by omega)).mono ?_
                    rintro e w8 ⟨av, nw, cv, rfl, hs⟩
                    have HS8 := Lib.hid hs
                    clear hs HS7
                    go_wp2_with fail
                    go_roundw
                    case rel => exact ⟨k + 1, hki, by go_num, HS8.out⟩
                    case measure => simp [intOf]; omega
                case neg =>
                  obtain rfl : k = i := by omega
                  have y2 : decide ((k : Int) < (k : Int)) = false := by simp
                  have y2n : decide (k < k) = false := by simp
                  have e7 := HS7.out.mod.cell HE0.out (fun e => e)
                  obtain ⟨D, hD⟩ : ∃ D : Nat, D + k = 16 := ⟨16 - k, by omega⟩
                  have r1 : IntKind.i64.wrap (16 - (k : Int)) = (D : Int) := by rw [IntWalk.i64_in _ (by omega)]; omega
                  have r1n : 16 - (k : Int) = (D : Int) := by omega
                  obtain ⟨E, hE⟩ : ∃ E : Nat, D + A = E := ⟨_, rfl⟩
                  have r2 : IntKind.i64.wrap ((D : Int) + (A : Int)) = (E : Int) := by rw [IntWalk.i64_in _ (by omega)]; omega
                  have r2n : (D : Int) + (A : Int) = (E : Int) := by omega
                  have HRR : Hid (((16 - n : Nat) : Int) = (E : Int)) := Lib.hid (by omega)
                  by_cases v1 : (A : Int) ≤ x
                  case neg =>
                    have y4 : decide ((A : Int) ≤ x) = false := by simp; omega
                    go_wp2_with fail
                    refine (sw_body_no HS7.out (by omega) x (by omega)).mono ?_
                    rintro e w8 ⟨rfl, hs⟩
                    have HS8 := Lib.hid hs
                    have e8 := hs.mod.cell HE0.out (fun e => e)
                    clear hs HS7 e7
                    go_wp2_with (go_at_call 22; refine (sw_room HS8.out (E : Int) HRR.out).mono ?_; rintro e w9 ⟨rfl, hs⟩; have HS9 := Lib.hid hs; have e9 := hs.mod.cell HE0.out (fun e => e); clear hs)
                    go_roundw
                    case rel => exact ⟨A, j + 1, n, by omega, hjm, by go_num, by go_num, HS9.out⟩
                    case measure => simp [intOf]; omega
                  case pos =>
                    by_cases v2 : x < (k : Int)
                    case pos =>
                      have y4 : decide ((A : Int) ≤ x) = true := by simp; omega
                      have y5 : decide (x < (k : Int)) = true := by simp; omega
                      go_wp2_with fail
                      refine (sw_body_at HS7.out (by omega) x (by omega)).mono ?_
                      rintro e w8 ⟨av, nw, cv, rfl, hs⟩
                      have HS8 := Lib.hid hs
                      have e8 := hs.mod.cell HE0.out (fun e => e)
                      clear hs HS7 e7
                      go_wp2_with (go_at_call 22; refine (sw_room HS8.out (E : Int) HRR.out).mono ?_; rintro e w9 ⟨rfl, hs⟩; have HS9 := Lib.hid hs; have e9 := hs.mod.cell HE0.out (fun e => e); clear hs)
                      go_roundw
                      case rel => exact ⟨A, j + 1, n, by omega, hjm, by go_num, by go_num, HS9.out⟩
                      case measure => simp [intOf]; omega
                    case neg =>
                      have y4 : decide ((A : Int) ≤ x) = true := by simp; omega
                      have y5 : decide (x < (k : Int)) = false := by simp; omega
                      go_wp2_with fail
                      refine (sw_body_no HS7.out (by omega) x (by omega)).mono ?_
                      rintro e w8 ⟨rfl, hs⟩
                      have HS8 := Lib.hid hs
                      have e8 := hs.mod.cell HE0.out (fun e => e)
                      clear hs HS7 e7
                      go_wp2_with (go_at_call 22; refine (sw_room HS8.out (E : Int) HRR.out).mono ?_; rintro e w9 ⟨rfl, hs⟩; have HS9 := Lib.hid hs; have e9 := hs.mod.cell HE0.out (fun e => e); clear hs)
                      go_roundw
                      case rel => exact ⟨A, j + 1, n, by omega, hjm, by go_num, by go_num, HS9.out⟩
                      case measure => simp [intOf]; omega
            case pos =>
              have t2 : decide ((A : Int) < x) = true := by simp; omega
              obtain ⟨k0, hk0⟩ : ∃ k0 : Nat, x = (A : Int) + (k0 : Int) := ⟨(x - (A : Int)).toNat, by omega⟩
              obtain ⟨A2, hA2⟩ : ∃ A2, A + k0 = A2 := ⟨_, rfl⟩
              obtain ⟨n2, hn2⟩ : ∃ n2, n - k0 = n2 := ⟨_, rfl⟩
              have HK0 := Lib.hid hk0
              have hs1 : IntKind.i64.wrap (x - (A : Int)) = (k0 : Int) := by rw [IntWalk.i64_in _ (by omega)]; omega
              have hs2 : x - (A : Int) = (k0 : Int) := by omega
              have had : IntKind.i64.wrap ((A : Int) + (k0 : Int)) = (A2 : Int) := by rw [IntWalk.i64_in _ (by omega)]; omega
              have had2 : (A : Int) + (k0 : Int) = (A2 : Int) := by omega
              have hxA : x = (A2 : Int) := by omega
              have hA2n : A2 + n2 = i := by omega
              have hA3 : A2 ≤ 16 := by omega
              have HXA := Lib.hid hxA
              have hack := sw_acked HS5.out (by omega) k0 (by omega) (by omega) x (by omega)
              rw [hA2, hn2] at hack
              have HACK := Lib.hid hack
              have HA2 := Lib.hid hA2
              have HN2 := Lib.hid hn2
              clear hk0 hxA hack hA2 hn2
              go_wp2_with fail
              refine HACK.out.mono ?_
              rintro e w6 ⟨rfl, hs⟩
              have HS6 := Lib.hid hs
              clear hs HS5 e2 t1 t2 hs1 hs2
              go_wp2_with fail
              clear had had2
              have e5 := HS6.out.mod.cell HE0.out (fun e => e)
              go_wp2_with fail
              go_loopw [13] (fun kv wr => ∃ k : Nat, k ≤ i ∧ kv = .int .i64 (k : Int) ∧ SW w wr p tp 16 A2 n2 900 900 0 900 0) (fun kv _ => i - (intOf kv).toNat)
              case atStart => exact ⟨0, Nat.zero_le _, rfl, HS6.out⟩
              case round =>
                obtain ⟨k, hk, rfl, hS⟩ := hrel
                obtain ⟨wo3, hwo3⟩ : ∃ x : World, x = wr := ⟨_, rfl⟩
                subst hwo3
                have HS7 := Lib.hid hS
                clear hS HS6 e5
                by_cases hki : k < i
                case pos =>
                  have y2 : decide ((k : Int) < (i : Int)) = true := by simp; omega
                  have y2n : decide (k < i) = true := by simp; omega
                  by_cases hka : k < A2
                  case pos =>
                    have y3 : decide ((A2 : Int) ≤ (k : Int)) = false := by simp; omega
                    have y3n : decide (A2 ≤ k) = false := by simp; omega
                    go_wp2_with fail
                    refine (sw_body_no HS7.out (by omega) (k : Int) (.inl (by omega))).mono ?_
                    rintro e w8 ⟨rfl, hs⟩
                    have HS8 := Lib.hid hs
                    clear hs HS7
                    go_wp2_with fail
                    go_roundw
                    case rel => exact ⟨k + 1, hki, by go_num, HS8.out⟩
                    case measure => simp [intOf]; omega
                  case neg =>
                    have y3 : decide ((A2 : Int) ≤ (k : Int)) = true := by simp; omega
                    have y3n : decide (A2 ≤ k) = true := by simp; omega
                    go_wp2_with fail
                    refine (sw_body_at HS7.out (by omega) (k : Int) (by omega)).mono ?_
                    rintro e w8 ⟨av, nw, cv, rfl, hs⟩
                    have HS8 := Lib.hid hs
                    clear hs HS7
                    go_wp2_with fail
                    go_roundw
                    case rel => exact ⟨k + 1, hki, by go_num, HS8.out⟩
                    case measure => simp [intOf]; omega
                case neg =>
                  obtain rfl : k = i := by omega
                  have y2 : decide ((k : Int) < (k : Int)) = false := by simp
                  have y2n : decide (k < k) = false := by simp
                  have e7 := HS7.out.mod.cell HE0.out (fun e => e)
                  obtain ⟨D, hD⟩ : ∃ D : Nat, D + k = 16 := ⟨16 - k, by omega⟩
                  have r1 : IntKind.i64.wrap (16 - (k : Int)) = (D : Int) := by rw [IntWalk.i64_in _ (by omega)]; omega
                  have r1n : 16 - (k : Int) = (D : Int) := by omega
                  obtain ⟨E, hE⟩ : ∃ E : Nat, D + A2 = E := ⟨_, rfl⟩
                  have r2 : IntKind.i64.wrap ((D : Int) + (A2 : Int)) = (E : Int) := by rw [IntWalk.i64_in _ (by omega)]; omega
                  have r2n : (D : Int) + (A2 : Int) = (E : Int) := by omega
                  have HRR : Hid (((16 - n2 : Nat) : Int) = (E : Int)) := Lib.hid (by omega)
                  by_cases v1 : (A2 : Int) ≤ x
                  case neg =>
                    have y4 : decide ((A2 : Int) ≤ x) = false := by simp; omega
                    go_wp2_with fail
                    refine (sw_body_no HS7.out (by omega) x (by omega)).mono ?_
                    rintro e w8 ⟨rfl, hs⟩
                    have HS8 := Lib.hid hs
                    have e8 := hs.mod.cell HE0.out (fun e => e)
                    clear hs HS7 e7
                    go_wp2_with (go_at_call 22; refine (sw_room HS8.out (E : Int) HRR.out).mono ?_; rintro e w9 ⟨rfl, hs⟩; have HS9 := Lib.hid hs; have e9 := hs.mod.cell HE0.out (fun e => e); clear hs)
                    go_roundw
                    case rel => exact ⟨A2, j + 1, n2, by omega, hjm, by go_num, by go_num, HS9.out⟩
                    case measure => simp [intOf]; omega
                  case pos =>
                    by_cases v2 : x < (k : Int)
                    case pos =>
                      have y4 : decide ((A2 : Int) ≤ x) = true := by simp; omega
                      have y5 : decide (x < (k : Int)) = true := by simp; omega
                      go_wp2_with fail
                      refine (sw_body_at HS7.out (by omega) x (by omega)).mono ?_
                      rintro e w8 ⟨av, nw, cv, rfl, hs⟩
                      have HS8 := Lib.hid hs
                      have e8 := hs.mod.cell HE0.out (fun e => e)
                      clear hs HS7 e7
                      go_wp2_with (go_at_call 22; refine (sw_room HS8.out (E : Int) HRR.out).mono ?_; rintro e w9 ⟨rfl, hs⟩; have HS9 := Lib.hid hs; have e9 := hs.mod.cell HE0.out (fun e => e); clear hs)
                      go_roundw
                      case rel => exact ⟨A2, j + 1, n2, by omega, hjm, by go_num, by go_num, HS9.out⟩
                      case measure => simp [intOf]; omega
                    case neg =>
                      have y4 : decide ((A2 : Int) ≤ x) = true := by simp; omega
                      have y5 : decide (x < (k : Int)) = false := by simp; omega
                      go_wp2_with fail
                      refine (sw_body_no HS7.out (by omega) x (by omega)).mono ?_
                      rintro e w8 ⟨rfl, hs⟩
                      have HS8 := Lib.hid hs
                      have e8 := hs.mod.cell HE0.out (fun e => e)
                      clear hs HS7 e7
                      go_wp2_with (go_at_call 22; refine (sw_room HS8.out (E : Int) HRR.out).mono ?_; rintro e w9 ⟨rfl, hs⟩; have HS9 := Lib.hid hs; have e9 := hs.mod.cell HE0.out (fun e => e); clear hs)
                      go_roundw
                      case rel => exact ⟨A2, j + 1, n2, by omega, hjm, by go_num, by go_num, HS9.out⟩
                      case measure => simp [intOf]; omega
theorem sstale_law (w : World) (nv : Int) (_ : (Lit.int .i64 nv).wf = true) (a0 : Option Addr) (m c0 : Nat) (l : List Int) (ok : (encSlice (encInt .i64)).ok w (.slice a0 m c0, l)) :
    Calls Try.prog 6 #[.int .i64 nv, .slice a0 m c0] w fun e w' => e = .returned (.bool true) ∧ Below w.heap.size w w' := by
  obtain ⟨hn, hr, _⟩ := ok_ints ok
  exact (sstale_all w nv a0 m c0 l hn hr).mono fun e w' h => ⟨h.1, h.2.below (Nat.le_refl _) (fun _ e => e.elim)⟩
end Go.Proofs.Ytopldodfkcgmhaa
