/- SenderAgain by contract. -/
import Derived.Test.YtopldodfkcgmhaaSdAP
import Derived.Test.YtopldodfkcgmhaaRowT
import Derived.Test.YtopldodfkcgmhaaRegion2
namespace Go.Proofs.Ytopldodfkcgmhaa
open Go.RowKit Mile Go.Maps
set_option maxRecDepth 100000
/-- What each operation of the statement leaves. -/
def sa0_r31_0_F (s : Nat) (j : Nat) (fb : Nat) (fo : Nat) (cb : Nat) (c1 : Nat) (A : Nat) (n : Nat) (ab : Option Addr) (a1 : Option Addr) (Y : ByteArray) : List (Value → World → Prop) :=
  [IsV (.slice a1 n c1),
   IsV (.int .i64 (j : Int)),
   IsV (.pointer (some ⟨fb, fo, none⟩)),
   IsV (.int .i64 (s : Int)),
   IsV (.int .i64 (A : Int)),
   IsV (.int .i64 (j : Int)),
   IsV (.int .i64 (s : Int)),
   IsV (.bool false),
   IsV (.bool false),
   IsV (.bool true),
   IsV (.bool false),
   IsV (.bool false),
   IsV (.bool false),
   IsV (.slice ab 1 cb),
   IsV (.string Y),
   IsV (.slice a1 n c1),
   IsV (.int .i64 (j : Int)),
   IsV (.pointer (some ⟨fb, fo, none⟩)),
   IsV (.int .i64 (s : Int)),
   IsV (.int .u8 (s : Int)),
   (LitT 1 [.int .u8 (s : Int)]),
   IsV (.string Y),
   IsV (.bool false),
   IsV (.bool false)]
def sa0_r31_0_D : List (List Nat) := [[], [], [0, 1], [2], [], [], [4, 5], [3, 6], [7], [8], [8, 9], [8, 10], [11], [12], [12, 13], [12], [12], [12, 15, 16], [12, 17], [12, 18], [12, 19], [12, 20], [12, 14, 21], [12, 22]]

/-- What each operation of the statement leaves. -/
def sa1_r31_0_F (s : Nat) (j : Nat) (fb : Nat) (fo : Nat) (cb : Nat) (c1 : Nat) (A : Nat) (n : Nat) (ab : Option Addr) (a1 : Option Addr) (Y : ByteArray) : List (Value → World → Prop) :=
  [IsV (.slice a1 n c1),
   IsV (.int .i64 (j : Int)),
   IsV (.pointer (some ⟨fb, fo, none⟩)),
   IsV (.int .i64 (s : Int)),
   IsV (.int .i64 (A : Int)),
   IsV (.int .i64 (j : Int)),
   IsV (.int .i64 (s : Int)),
   IsV (.bool false),
   IsV (.bool false),
   IsV (.bool true),
   IsV (.bool false),
   IsV (.bool false),
   IsV (.bool false),
   IsV (.slice ab 1 cb),
   IsV (.string Y),
   IsV (.slice a1 n c1),
   IsV (.int .i64 (j : Int)),
   IsV (.pointer (some ⟨fb, fo, none⟩)),
   IsV (.int .i64 (s : Int)),
   IsV (.int .u8 (s : Int)),
   (LitT 1 [.int .u8 (s : Int)]),
   IsV (.string Y),
   IsV (.bool false),
   IsV (.bool false)]
def sa1_r31_0_D : List (List Nat) := [[], [], [0, 1], [2], [], [], [4, 5], [3, 6], [7], [8], [8, 9], [8, 10], [11], [12], [12, 13], [12], [12], [12, 15, 16], [12, 17], [12, 18], [12, 19], [12, 20], [12, 14, 21], [12, 22]]

/-- What each operation of the statement leaves. -/
def sa2_r31_0_F (s : Nat) (j : Nat) (fb : Nat) (fo : Nat) (cb : Nat) (c1 : Nat) (A2 : Nat) (n2 : Nat) (ab : Option Addr) (a1 : Option Addr) (Y : ByteArray) : List (Value → World → Prop) :=
  [IsV (.slice a1 n2 c1),
   IsV (.int .i64 (j : Int)),
   IsV (.pointer (some ⟨fb, fo, none⟩)),
   IsV (.int .i64 (s : Int)),
   IsV (.int .i64 (A2 : Int)),
   IsV (.int .i64 (j : Int)),
   IsV (.int .i64 (s : Int)),
   IsV (.bool false),
   IsV (.bool false),
   IsV (.bool true),
   IsV (.bool false),
   IsV (.bool false),
   IsV (.bool false),
   IsV (.slice ab 1 cb),
   IsV (.string Y),
   IsV (.slice a1 n2 c1),
   IsV (.int .i64 (j : Int)),
   IsV (.pointer (some ⟨fb, fo, none⟩)),
   IsV (.int .i64 (s : Int)),
   IsV (.int .u8 (s : Int)),
   (LitT 1 [.int .u8 (s : Int)]),
   IsV (.string Y),
   IsV (.bool false),
   IsV (.bool false)]
def sa2_r31_0_D : List (List Nat) := [[], [], [0, 1], [2], [], [], [4, 5], [3, 6], [7], [8], [8, 9], [8, 10], [11], [12], [12, 13], [12], [12], [12, 15, 16], [12, 17], [12, 18], [12, 19], [12, 20], [12, 14, 21], [12, 22]]

/-- What each operation of the statement leaves. -/
def sa3_r31_0_F (s : Nat) (j : Nat) (fb : Nat) (fo : Nat) (cb : Nat) (c1 : Nat) (A2 : Nat) (n2 : Nat) (ab : Option Addr) (a1 : Option Addr) (Y : ByteArray) : List (Value → World → Prop) :=
  [IsV (.slice a1 n2 c1),
   IsV (.int .i64 (j : Int)),
   IsV (.pointer (some ⟨fb, fo, none⟩)),
   IsV (.int .i64 (s : Int)),
   IsV (.int .i64 (A2 : Int)),
   IsV (.int .i64 (j : Int)),
   IsV (.int .i64 (s : Int)),
   IsV (.bool false),
   IsV (.bool false),
   IsV (.bool true),
   IsV (.bool false),
   IsV (.bool false),
   IsV (.bool false),
   IsV (.slice ab 1 cb),
   IsV (.string Y),
   IsV (.slice a1 n2 c1),
   IsV (.int .i64 (j : Int)),
   IsV (.pointer (some ⟨fb, fo, none⟩)),
   IsV (.int .i64 (s : Int)),
   IsV (.int .u8 (s : Int)),
   (LitT 1 [.int .u8 (s : Int)]),
   IsV (.string Y),
   IsV (.bool false),
   IsV (.bool false)]
def sa3_r31_0_D : List (List Nat) := [[], [], [0, 1], [2], [], [], [4, 5], [3, 6], [7], [8], [8, 9], [8, 10], [11], [12], [12, 13], [12], [12], [12, 15, 16], [12, 17], [12, 18], [12, 19], [12, 20], [12, 14, 21], [12, 22]]

/-- What each operation of the statement leaves. -/
def sa4_r31_0_F (s : Nat) (j : Nat) (fb : Nat) (fo : Nat) (cb : Nat) (c1 : Nat) (A2 : Nat) (n2 : Nat) (ab : Option Addr) (a1 : Option Addr) (Y : ByteArray) : List (Value → World → Prop) :=
  [IsV (.slice a1 n2 c1),
   IsV (.int .i64 (j : Int)),
   IsV (.pointer (some ⟨fb, fo, none⟩)),
   IsV (.int .i64 (s : Int)),
   IsV (.int .i64 (A2 : Int)),
   IsV (.int .i64 (j : Int)),
   IsV (.int .i64 (s : Int)),
   IsV (.bool false),
   IsV (.bool false),
   IsV (.bool true),
   IsV (.bool false),
   IsV (.bool false),
   IsV (.bool false),
   IsV (.slice ab 1 cb),
   IsV (.string Y),
   IsV (.slice a1 n2 c1),
   IsV (.int .i64 (j : Int)),
   IsV (.pointer (some ⟨fb, fo, none⟩)),
   IsV (.int .i64 (s : Int)),
   IsV (.int .u8 (s : Int)),
   (LitT 1 [.int .u8 (s : Int)]),
   IsV (.string Y),
   IsV (.bool false),
   IsV (.bool false)]
def sa4_r31_0_D : List (List Nat) := [[], [], [0, 1], [2], [], [], [4, 5], [3, 6], [7], [8], [8, 9], [8, 10], [11], [12], [12, 13], [12], [12], [12, 15, 16], [12, 17], [12, 18], [12, 19], [12, 20], [12, 14, 21], [12, 22]]

/-- What each operation of the statement leaves. -/
def sa5_r31_0_F (s : Nat) (j : Nat) (fb : Nat) (fo : Nat) (cb : Nat) (c1 : Nat) (A2 : Nat) (n2 : Nat) (ab : Option Addr) (a1 : Option Addr) (Y : ByteArray) : List (Value → World → Prop) :=
  [IsV (.slice a1 n2 c1),
   IsV (.int .i64 (j : Int)),
   IsV (.pointer (some ⟨fb, fo, none⟩)),
   IsV (.int .i64 (s : Int)),
   IsV (.int .i64 (A2 : Int)),
   IsV (.int .i64 (j : Int)),
   IsV (.int .i64 (s : Int)),
   IsV (.bool false),
   IsV (.bool false),
   IsV (.bool true),
   IsV (.bool false),
   IsV (.bool false),
   IsV (.bool false),
   IsV (.slice ab 1 cb),
   IsV (.string Y),
   IsV (.slice a1 n2 c1),
   IsV (.int .i64 (j : Int)),
   IsV (.pointer (some ⟨fb, fo, none⟩)),
   IsV (.int .i64 (s : Int)),
   IsV (.int .u8 (s : Int)),
   (LitT 1 [.int .u8 (s : Int)]),
   IsV (.string Y),
   IsV (.bool false),
   IsV (.bool false)]
def sa5_r31_0_D : List (List Nat) := [[], [], [0, 1], [2], [], [], [4, 5], [3, 6], [7], [8], [8, 9], [8, 10], [11], [12], [12, 13], [12], [12], [12, 15, 16], [12, 17], [12, 18], [12, 19], [12, 20], [12, 14, 21], [12, 22]]

set_option maxHeartbeats 64000000 in
theorem sagain_all (w : World) (nv : Int) (a0 : Option Addr) (m c0 : Nat) (l : List Int) (hm : l.length = m) (hr : Rd w 1 (.slice a0 m c0) m (l.map (Value.int .i64))) (tv : Int) :
    Calls Try.prog 5 #[.int .i64 nv, .slice a0 m c0, .int .i64 tv] w fun e w' => e = .returned (.bool true) ∧ Mod (fun _ => False) w w' := by
  by_cases hno : ¬ (1 ≤ nv ∧ nv ≤ 16 ∧ m ≤ 20 ∧ 1 ≤ tv ∧ tv ≤ 10)
  case pos =>
    clear hr hm
    have hend : ∀ (b0 b1 b2 b3 b4 : Bool), decide (nv < 1) = b0 → decide (16 < nv) = b1 → decide (20 < (m : Int)) = b2 → decide (tv < 1) = b3 → decide (10 < tv) = b4 → (b0 || b1 || b2 || b3 || b4) = true →
        Calls Try.prog 5 #[.int .i64 nv, .slice a0 m c0, .int .i64 tv] w fun e w' => e = .returned (.bool true) ∧ Mod (fun _ => False) w w' := by
      intro b0 b1 b2 b3 b4 hc0 hc1 hc2 hc3 hc4 hbb
      clear hno
      cases b0
      · skip
        cases b1
        · skip
          cases b2
          · skip
            cases b3
            · skip
              cases b4
              · cases hbb
              · clear hbb 
                go_enter Try.func5, Try.ntmps5
                go_wp2_with fail
                refine (awake25_any _).mono ?_
                rintro e w9 ⟨rfl, hm9⟩
                go_wp2_with fail
                go_ret
                exact ⟨rfl, hm9⟩
            · clear hbb hc4
              go_enter Try.func5, Try.ntmps5
              go_wp2_with fail
              refine (awake25_any _).mono ?_
              rintro e w9 ⟨rfl, hm9⟩
              go_wp2_with fail
              go_ret
              exact ⟨rfl, hm9⟩
          · clear hbb hc3 hc4
            go_enter Try.func5, Try.ntmps5
            go_wp2_with fail
            refine (awake25_any _).mono ?_
            rintro e w9 ⟨rfl, hm9⟩
            go_wp2_with fail
            go_ret
            exact ⟨rfl, hm9⟩
        · clear hbb hc2 hc3 hc4
          go_enter Try.func5, Try.ntmps5
          go_wp2_with fail
          refine (awake25_any _).mono ?_
          rintro e w9 ⟨rfl, hm9⟩
          go_wp2_with fail
          go_ret
          exact ⟨rfl, hm9⟩
      · clear hbb hc1 hc2 hc3 hc4
        go_enter Try.func5, Try.ntmps5
        go_wp2_with fail
        refine (awake25_any _).mono ?_
        rintro e w9 ⟨rfl, hm9⟩
        go_wp2_with fail
        go_ret
        exact ⟨rfl, hm9⟩
    refine hend _ _ _ _ _ rfl rfl rfl rfl rfl ?_
    simp only [Bool.or_eq_true, decide_eq_true_eq]
    omega
  case neg =>
  obtain ⟨iI, hiI, hzI, hsI, hbI⟩ := info_parts Tm.info3
  have hyes := Decidable.not_not.1 hno
  clear hno
  obtain ⟨N, rfl⟩ := Int.eq_ofNat_of_zero_le (show 0 ≤ nv by omega)
  obtain ⟨T, rfl⟩ := Int.eq_ofNat_of_zero_le (show 0 ≤ tv by omega)
  have hT1 : 1 ≤ T := by omega
  have hT2 : T ≤ 10 := by omega
  have z3 : decide ((T : Int) < 1) = false := by simp; omega
  have z4 : decide (10 < (T : Int)) = false := by simp; omega
  have hN1 : 1 ≤ N := by omega
  have hN2 : N ≤ 16 := by omega
  have hM2 : m ≤ 20 := by omega
  clear hyes
  have z0 : decide ((N : Int) < 1) = false := by simp; omega
  have z1 : decide (16 < (N : Int)) = false := by simp; omega
  have z2 : decide (20 < (m : Int)) = false := by simp; omega
  have z2n : decide (20 < m) = false := by simp; omega
  have HN := Lib.hid hm
  have HRD := Lib.hid hr
  clear hm hr
  go_enter Try.func5, Try.ntmps5
  go_wp2_with fail
  have hnew : Calls Try.prog 8 #[.int .i64 4, .int .i64 4, .int .i64 (T : Int)] w _ := tmnew_any w 4 4 T (by omega) (by omega) (by omega) (by omega)
  refine hnew.mono ?_
  clear hnew
  rintro e w1 ⟨tp, rfl, h1, htp, hm1⟩
  have H1 := Lib.hid h1
  have HM1 := Lib.hid hm1
  have HTP := Lib.hid htp
  clear h1 hm1 htp
  go_wp2_with fail
  have hnew : Calls Try.prog 9 #[.int .i64 16, .pointer (some ⟨tp, 0, none⟩)] w1 _ := sdnew_any w1 16 tp none 4 4 T [] H1.out (by omega) (by omega)
  refine hnew.mono ?_
  clear hnew
  rintro e w2 ⟨p, rfl, hs, hp, hm2⟩
  have HS2 : Hid (SG w w2 p tp 0 0 T 4 0) := Lib.hid ⟨s1_made hs (Nat.le_trans HM1.out.size hp) HTP.out (HM1.out.of2 hm2)⟩
  clear hs hp hm2 H1
  go_wp2_with fail
  go_loopw [11] (fun iv wr => ∃ i : Nat, i ≤ N ∧ iv = .int .i64 (i : Int) ∧ SG w wr p tp 0 i T 4 0) (fun iv _ => N - (intOf iv).toNat)
  case atStart => exact ⟨0, Nat.zero_le _, rfl, HS2.out⟩
  case round =>
    obtain ⟨i, hi, rfl, hS⟩ := hrel
    obtain ⟨wo, hwo⟩ : ∃ x : World, x = wr := ⟨_, rfl⟩
    subst hwo
    have HS3 := Lib.hid hS
    clear hS HS2
    by_cases hlt : i < N
    case pos =>
      have y0 : decide ((i : Int) < (N : Int)) = true := by simp; omega
      have y0n : decide (i < N) = true := by simp; omega
      have hw8 : IntKind.u8.wrap (i : Int) = (i : Int) := IntWalk.u8_in _ (by omega)
      go_wp2_with fail
      refine (sg_send HS3.out (Mod.alloc (fun _ => False) wo _) (by omega) _ (Rd.lit 5 [.int .u8 (i : Int)] (0, 0) _ 1 rfl rfl (by decide))).mono ?_
      rintro e w4 ⟨rfl, hs⟩
      have HS4 := Lib.hid hs
      clear hs HS3
      go_wp2_with fail
      go_roundw
      case rel => exact ⟨i + 1, hlt, by go_num, HS4.out⟩
      case measure => simp [intOf]; omega
    case neg =>
      obtain rfl : i = N := by omega
      clear hi hlt
      have y0 : decide ((i : Int) < (i : Int)) = false := by simp
      have y0n : decide (i < i) = false := by simp
      go_wp2_with fail
      go_loopw [14, 15] (fun av kv wr => ∃ A n K C : Nat, A + n = i ∧ C + 1 = K ∧ C ≤ T + 1 ∧ (C = T + 1 → n = 0) ∧ av = .int .i64 (A : Int) ∧ kv = .int .i64 (K : Int) ∧ SG w wr p tp A n T (4 * (K : Int)) C) (fun _ kv _ => T + 2 - (intOf kv).toNat)
      case atStart => exact ⟨0, i, 1, 0, by omega, rfl, by omega, by omega, rfl, rfl, HS3.out⟩
      case round =>
        obtain ⟨A, n, K, C, hAn, hCK, hC, hCn, rfl, rfl, hS⟩ := hrel
        obtain ⟨wo2, hwo2⟩ : ∃ x : World, x = wr := ⟨_, rfl⟩
        subst hwo2
        have HS5 := Lib.hid hS
        clear hS HS3 y0 y0n
        have b1 : IntKind.i64.wrap ((T : Int) + 1) = ((T : Int) + 1) := IntWalk.i64_in _ (by omega)
        by_cases hke : C = T + 1
        case pos =>
          have hn0 := hCn hke
          subst hn0
          have y1 : decide ((K : Int) ≤ (T : Int) + 1) = false := by simp; omega
          go_wp2_with (first
            | (go_at_call 22; refine (sg_room HS5.out 16 rfl).mono ?_; rintro e w6 ⟨rfl, hs⟩; have HS6 := Lib.hid hs; clear hs)
            | (go_at_call 7; refine (awake25_any _).mono ?_; rintro e w8 ⟨rfl, hm8⟩; have HM8 := Lib.hid hm8; clear hm8))
          go_ret
          exact ⟨rfl, HS6.out.mod.of2 HM8.out⟩
        case neg =>
          have y1 : decide ((K : Int) ≤ (T : Int) + 1) = true := by simp; omega
          have b2 : IntKind.i64.wrap ((K : Int) - 1) = (C : Int) := by rw [IntWalk.i64_in _ (by omega)]; omega
          have b2n : (K : Int) - 1 = (C : Int) := by omega
          obtain ⟨D, hD⟩ : ∃ D, 4 * K ≤ D ∧ D ≤ 4 * K := ⟨_, Nat.le_refl _, Nat.le_refl _⟩
          replace hCK : C + 1 ≤ K ∧ K ≤ C + 1 := ⟨Nat.le_of_eq hCK, Nat.le_of_eq hCK.symm⟩
          have b3 : IntKind.i64.wrap (4 * (K : Int)) = (D : Int) := by rw [IntWalk.i64_in _ (by omega)]; omega
          have b3n : 4 * (K : Int) = (D : Int) := by omega
          rw [b3n] at HS5
          have hDb : D ≤ 60 := by omega
          have hDw : IntKind.i64.wrap (D : Int) = (D : Int) := IntWalk.i64_in _ (by omega)
          have hK12 : K ≤ 11 := by omega
          clear hCn
          by_cases hqa : C < m
          case neg =>
            have t0 : decide ((C : Int) < (m : Int)) = false := by simp; omega
            have t0n : decide (C < m) = false := by simp; omega
            by_cases hgo : n = 0 ∨ C < T
            case neg =>
              have hov := sg_over HS5.out (by omega) (by omega) (by omega) (by omega)
              have HOV := Lib.hid hov
              clear hov
              have x1 : decide ((A : Int) < (i : Int)) = true := by simp; omega
              have x1n : decide (A < i) = true := by simp; omega
              have x2 : decide ((T : Int) < (K : Int)) = true := by simp; omega
              have x2n : decide (T < K) = true := by simp; omega
              go_wp2_with fail
              refine HOV.out.mono ?_
              rintro e w7 ⟨rfl, hs⟩
              have HS7 := Lib.hid hs
              clear hs
              go_wp2_with (first
                | (go_at_call 22; refine (s1_room HS7.out 0 rfl).mono ?_; rintro e w9 ⟨rfl, hs, _⟩; have HS9 := Lib.hid hs; clear hs)
                | (go_at_call 7; refine (awake25_any _).mono ?_; rintro e w8 ⟨rfl, hm8⟩; have HM8 := Lib.hid hm8; clear hm8))
              go_ret
              exact ⟨rfl, HS9.out.mod.of2 HM8.out⟩
            case pos =>
              have hov := sg_again HS5.out (by omega) (by omega) hgo
              have HOV := Lib.hid hov
              clear hov
              have x2 : (decide ((A : Int) < (i : Int)) = false ∧ decide (A < i) = false) ∨ (decide ((A : Int) < (i : Int)) = true ∧ decide (A < i) = true ∧ decide ((T : Int) < (K : Int)) = false ∧ decide (T < K) = false) := by
                by_cases q : A < i
                · exact .inr ⟨by simp; omega, by simp; omega, by simp; omega, by simp; omega⟩
                · exact .inl ⟨by simp; omega, by simp; omega⟩
              have HX2 := Lib.hid x2
              clear x2
              go_wp2_with fail
              refine HOV.out.mono ?_
              rintro e w7 ⟨⟨a1, c1, rfl, hrow⟩, hs⟩
              have HS7 := Lib.hid hs
              have HRW := Lib.hid hrow
              clear hs hrow
              have d1 : IntKind.i64.wrap ((i : Int) - (A : Int)) = (n : Int) := by rw [IntWalk.i64_in _ (by omega)]; omega
              have d1n : (i : Int) - (A : Int) = (n : Int) := by omega
              rcases HX2.out with ⟨x2, x2n⟩ | ⟨x2, x2n, x3, x3n⟩
              · skip
                go_wp2_with fail
                go_loopw [18] (fun jv wr => ∃ j : Nat, j ≤ n ∧ jv = .int .i64 (j : Int) ∧ SG w wr p tp A n T ((D : Int) + 4) (C + 1) ∧ Mod (fun _ => False) w7 wr) (fun jv _ => n - (intOf jv).toNat)
                case atStart => exact ⟨0, Nat.zero_le _, rfl, HS7.out, Mod.refl _ _⟩
                case round =>
                  obtain ⟨j, hj, rfl, hS, hm⟩ := hrel
                  obtain ⟨wo3, hwo3⟩ : ∃ x : World, x = wr := ⟨_, rfl⟩
                  subst hwo3
                  have HS8 := Lib.hid hS
                  have HM8 := Lib.hid hm
                  clear hS hm HS7
                  by_cases hjn : j < n
                  case neg =>
                    obtain rfl : j = n := by omega
                    have y2 : decide ((j : Int) < (j : Int)) = false := by simp
                    have y2n : decide (j < j) = false := by simp
                    go_wp2_with fail
                    go_roundw
                    case rel => exact ⟨A, j, K + 1, C + 1, by omega, by omega, by omega, fun h => by omega, by go_num, by go_num, (by have h := HS8.out; rw [show (D : Int) + 4 = 4 * ((K + 1 : Nat) : Int) by omega] at h; exact h)⟩
                    case measure => simp [intOf]; omega
                  case pos =>
                    have y2 : decide ((j : Int) < (n : Int)) = true := by simp; omega
                    have y2n : decide (j < n) = true := by simp; omega
                    have hjl : j < (idsL A n).length := by rw [idsL_len]; exact hjn
                    have hr8 := HRW.out.keep HM8.out (fun _ _ e => e)
                    obtain ⟨fb, fo, hpl2, f0⟩ := rd1 hr8 j hjl
                    have hix2 := fun wx => run_indexS (P := Try.prog) wx 44 3 iI 1 Try.underlying44 hiI hsI a1 n c1 j hjn (hr8.some_ (by omega))
                    rw [hpl2] at hix2
                    rw [idsL_at] at f0
                    obtain ⟨s, hs⟩ : ∃ s, A + j = s := ⟨_, rfl⟩
                    rw [hs] at f0
                    replace hs : A + j ≤ s ∧ s ≤ A + j := ⟨Nat.le_of_eq hs, Nat.le_of_eq hs.symm⟩
                    have HF0 := Lib.hid f0
                    have HIX2 := Lib.hid hix2
                    have u1 : IntKind.i64.wrap ((A : Int) + (j : Int)) = (s : Int) := by rw [IntWalk.i64_in _ (by omega)]; omega
                    have u1n : (A : Int) + (j : Int) = (s : Int) := by omega
                    have hsb : s ≤ 16 := by omega
                    have hsw : IntKind.i64.wrap (s : Int) = (s : Int) := IntWalk.i64_in _ (by omega)
                    have hw8 : IntKind.u8.wrap (s : Int) = (s : Int) := IntWalk.u8_in _ (by omega)
                    clear hpl2 hr8
                    go_wp2_with fail
                    refine (sg_body HS8.out (by omega) j hjn (s : Int) (by omega)).mono ?_
                    rintro e w9 ⟨ab, cb, rfl, hrd, hs9, hm9⟩
                    have HS9 := Lib.hid hs9
                    have HM9 := Lib.hid (HM8.out.of2 hm9)
                    clear f0
                    have f0 := hm9.cell HF0.out (fun e => e)
                    clear hs9 hm9 HS8
                    go_wp2_with fail
                    have HS : Hid (Ev (Mod (fun _ => False) w9) w9) := Lib.hid (Ev.mod w9)
                    replace HS := Lib.hid ((Ev.rd (HRW.out.keep HM9.out (fun _ _ e => e))).and HS.out)
                    replace HS := Lib.hid ((Ev.rd hrd).and HS.out)
                    replace HS := Lib.hid ((Ev.cell f0).and HS.out)
                    clear f0 hrd
                    obtain ⟨Y, hY⟩ : ∃ x, strOf [(s : Int)] = x := ⟨_, rfl⟩
                    have HY := Lib.hid hY
                    clear hY
                    have HSd := Lib.hid HS.out.drew
                    refine wp_region_inv3 (act := ?actsa0_r31_0) (Mod (fun _ => False)) (fun i => (sa0_r31_0_F s j fb fo cb c1 A n ab a1 Y).getD i (fun _ _ => True)) (fun i => sa0_r31_0_D.getD i []) (by kernel_rfl) (by kernel_rfl) (by kernel_rfl) (by kernel_rfl) (fun _ => Mod.refl _ _)
                      (fun _ _ _ h k => h.trans k (fun _ _ e => e) (fun _ _ e => e)) ?hactsa0_r31_0 (stable_list ?_) ?_ ?_
                    case hactsa0_r31_0 => intro vs; simp only [putAll, Nat.zero_add, Nat.reduceAdd, Act.put, List.setIfInBounds_toArray, List.set_cons_succ, List.set_cons_zero]; exact rfl
                    · unfold sa0_r31_0_F
                      exact stable_cons (stable_val _) <| stable_cons (stable_val _) <| stable_cons (stable_val _) <| stable_cons (stable_val _) <| stable_cons (stable_val _) <| stable_cons (stable_val _) <| stable_cons (stable_val _) <| stable_cons (stable_val _) <| stable_cons (stable_val _) <| stable_cons (stable_val _) <| stable_cons (stable_val _) <| stable_cons (stable_val _) <| stable_cons (stable_val _) <| stable_cons (stable_val _) <| stable_cons (stable_val _) <| stable_cons (stable_val _) <| stable_cons (stable_val _) <| stable_cons (stable_val _) <| stable_cons (stable_val _) <| stable_cons (stable_val _) <| stable_cons (LitT.st) <| stable_cons (stable_val _) <| stable_cons (stable_val _) <| stable_cons (stable_val _) <| stable_nil
                    · refine opsOkA_cons ?_ ?_
                      · intro K vs W hR hD hK
                        clear hD
                        try dsimp only at hK ⊢
                        simp only [Act.put, List.setIfInBounds_toArray, List.set_cons_succ, List.set_cons_zero] at hK
                        go_wp2
                        exact hK _ _ rfl (Mod.refl _ _)
                      refine opsOkA_cons ?_ ?_
                      · intro K vs W hR hD hK
                        clear hD
                        try dsimp only at hK ⊢
                        simp only [Act.put, List.setIfInBounds_toArray, List.set_cons_succ, List.set_cons_zero] at hK
                        go_wp2
                        exact hK _ _ rfl (Mod.refl _ _)
                      refine opsOkA_cons ?_ ?_
                      · intro K vs W hR hD hK
                        have dq0 : vs 0 = .slice a1 n c1 := hD 0 (by decide)
                        have dq1 : vs 1 = .int .i64 (j : Int) := hD 1 (by decide)
                        clear hD
                        try dsimp only at hK ⊢
                        simp only [Act.put, List.setIfInBounds_toArray, List.set_cons_succ, List.set_cons_zero] at hK
                        generalize vs 0 = vq0 at hK dq0 ⊢
                        subst vq0
                        generalize vs 1 = vq1 at hK dq1 ⊢
                        subst vq1
                        have hix := HIX2.out
                        go_wp2_with fail
                        exact hK _ _ rfl (Mod.refl _ _)
                      refine opsOkA_cons ?_ ?_
                      · intro K vs W hR hD hK
                        have dq2 : vs 2 = .pointer (some ⟨fb, fo, none⟩) := hD 2 (by decide)
                        clear hD
                        try dsimp only at hK ⊢
                        simp only [Act.put, List.setIfInBounds_toArray, List.set_cons_succ, List.set_cons_zero] at hK
                        generalize vs 2 = vq2 at hK dq2 ⊢
                        subst vq2
                        have hc := (HSd.out.at (hR)).1
                        go_wp2
                        exact hK _ _ rfl (Mod.refl _ _)
                      refine opsOkA_cons ?_ ?_
                      · intro K vs W hR hD hK
                        clear hD
                        try dsimp only at hK ⊢
                        simp only [Act.put, List.setIfInBounds_toArray, List.set_cons_succ, List.set_cons_zero] at hK
                        go_wp2
                        exact hK _ _ rfl (Mod.refl _ _)
                      refine opsOkA_cons ?_ ?_
                      · intro K vs W hR hD hK
                        clear hD
                        try dsimp only at hK ⊢
                        simp only [Act.put, List.setIfInBounds_toArray, List.set_cons_succ, List.set_cons_zero] at hK
                        go_wp2
                        exact hK _ _ rfl (Mod.refl _ _)
                      refine opsOkA_cons ?_ ?_
                      · intro K vs W hR hD hK
                        have dq4 : vs 4 = .int .i64 (A : Int) := hD 4 (by decide)
                        have dq5 : vs 5 = .int .i64 (j : Int) := hD 5 (by decide)
                        clear hD
                        try dsimp only at hK ⊢
                        simp only [Act.put, List.setIfInBounds_toArray, List.set_cons_succ, List.set_cons_zero] at hK
                        generalize vs 4 = vq4 at hK dq4 ⊢
                        subst vq4
                        generalize vs 5 = vq5 at hK dq5 ⊢
                        subst vq5
                        go_wp2
                        exact hK _ _ rfl (Mod.refl _ _)
                      refine opsOkA_cons ?_ ?_
                      · intro K vs W hR hD hK
                        have dq3 : vs 3 = .int .i64 (s : Int) := hD 3 (by decide)
                        have dq6 : vs 6 = .int .i64 (s : Int) := hD 6 (by decide)
                        clear hD
                        try dsimp only at hK ⊢
                        simp only [Act.put, List.setIfInBounds_toArray, List.set_cons_succ, List.set_cons_zero] at hK
                        generalize vs 3 = vq3 at hK dq3 ⊢
                        subst vq3
                        generalize vs 6 = vq6 at hK dq6 ⊢
                        subst vq6
                        go_wp2
                        exact hK _ _ rfl (Mod.refl _ _)
                      refine opsOkA_cons ?_ ?_
                      · intro K vs W hR hD hK
                        have dq7 : vs 7 = .bool false := hD 7 (by decide)
                        clear hD
                        try dsimp only at hK ⊢
                        simp only [Act.put, List.setIfInBounds_toArray, List.set_cons_succ, List.set_cons_zero] at hK
                        generalize vs 7 = vq7 at hK dq7 ⊢
                        subst vq7
                        go_wp2
                        exact hK _ _ rfl (Mod.refl _ _)
                      refine opsOkA_cons ?_ ?_
                      · intro K vs W hR hD hK
                        have dq8 : vs 8 = .bool false := hD 8 (by decide)
                        clear hD
                        try dsimp only at hK ⊢
                        simp only [Act.put, List.setIfInBounds_toArray, List.set_cons_succ, List.set_cons_zero] at hK
                        generalize vs 8 = vq8 at hK dq8 ⊢
                        subst vq8
                        go_wp2
                        exact hK _ _ rfl (Mod.refl _ _)
                      refine opsOkA_cons ?_ ?_
                      · intro K vs W hR hD hK
                        have dq8 : vs 8 = .bool false := hD 8 (by decide)
                        have dq9 : vs 9 = .bool true := hD 9 (by decide)
                        clear hD
                        try dsimp only at hK ⊢
                        simp only [Act.put, List.setIfInBounds_toArray, List.set_cons_succ, List.set_cons_zero] at hK
                        generalize vs 8 = vq8 at hK dq8 ⊢
                        subst vq8
                        generalize vs 9 = vq9 at hK dq9 ⊢
                        subst vq9
                        go_wp2
                        exact hK _ _ rfl (Mod.refl _ _)
                      refine opsOkA_cons ?_ ?_
                      · intro K vs W hR hD hK
                        have dq8 : vs 8 = .bool false := hD 8 (by decide)
                        have dq10 : vs 10 = .bool false := hD 10 (by decide)
                        clear hD
                        try dsimp only at hK ⊢
                        simp only [Act.put, List.setIfInBounds_toArray, List.set_cons_succ, List.set_cons_zero] at hK
                        generalize vs 8 = vq8 at hK dq8 ⊢
                        subst vq8
                        generalize vs 10 = vq10 at hK dq10 ⊢
                        subst vq10
                        go_wp2
                        exact hK _ _ rfl (Mod.refl _ _)
                      refine opsOkA_cons ?_ ?_
                      · intro K vs W hR hD hK
                        have dq11 : vs 11 = .bool false := hD 11 (by decide)
                        clear hD
                        try dsimp only at hK ⊢
                        simp only [Act.put, List.setIfInBounds_toArray, List.set_cons_succ, List.set_cons_zero] at hK
                        generalize vs 11 = vq11 at hK dq11 ⊢
                        subst vq11
                        go_wp2
                        exact hK _ _ rfl (Mod.refl _ _)
                      refine opsOkA_cons ?_ ?_
                      · intro K vs W hR hD hK
                        have dq12 : vs 12 = .bool false := hD 12 (by decide)
                        clear hD
                        try dsimp only at hK ⊢
                        simp only [Act.put, List.setIfInBounds_toArray, List.set_cons_succ, List.set_cons_zero] at hK
                        generalize vs 12 = vq12 at hK dq12 ⊢
                        subst vq12
                        go_wp2
                        exact hK _ _ rfl (Mod.refl _ _)
                      refine opsOkA_cons ?_ ?_
                      · intro K vs W hR hD hK
                        have dq12 : vs 12 = .bool false := hD 12 (by decide)
                        have dq13 : vs 13 = .slice ab 1 cb := hD 13 (by decide)
                        clear hD
                        try dsimp only at hK ⊢
                        simp only [Act.put, List.setIfInBounds_toArray, List.set_cons_succ, List.set_cons_zero] at hK
                        generalize vs 12 = vq12 at hK dq12 ⊢
                        subst vq12
                        generalize vs 13 = vq13 at hK dq13 ⊢
                        subst vq13
                        have k1 := run_strS W 35 9 5 Try.underlying35 Try.underlying5 Try.underlying9 ((HSd.out.at (hR)).2.1)
                        rw [HY.out] at k1
                        go_wp2
                        exact hK _ _ rfl (Mod.refl _ _)
                      refine opsOkA_cons ?_ ?_
                      · intro K vs W hR hD hK
                        have dq12 : vs 12 = .bool false := hD 12 (by decide)
                        clear hD
                        try dsimp only at hK ⊢
                        simp only [Act.put, List.setIfInBounds_toArray, List.set_cons_succ, List.set_cons_zero] at hK
                        generalize vs 12 = vq12 at hK dq12 ⊢
                        subst vq12
                        go_wp2
                        exact hK _ _ rfl (Mod.refl _ _)
                      refine opsOkA_cons ?_ ?_
                      · intro K vs W hR hD hK
                        have dq12 : vs 12 = .bool false := hD 12 (by decide)
                        clear hD
                        try dsimp only at hK ⊢
                        simp only [Act.put, List.setIfInBounds_toArray, List.set_cons_succ, List.set_cons_zero] at hK
                        generalize vs 12 = vq12 at hK dq12 ⊢
                        subst vq12
                        go_wp2
                        exact hK _ _ rfl (Mod.refl _ _)
                      refine opsOkA_cons ?_ ?_
                      · intro K vs W hR hD hK
                        have dq12 : vs 12 = .bool false := hD 12 (by decide)
                        have dq15 : vs 15 = .slice a1 n c1 := hD 15 (by decide)
                        have dq16 : vs 16 = .int .i64 (j : Int) := hD 16 (by decide)
                        clear hD
                        try dsimp only at hK ⊢
                        simp only [Act.put, List.setIfInBounds_toArray, List.set_cons_succ, List.set_cons_zero] at hK
                        generalize vs 12 = vq12 at hK dq12 ⊢
                        subst vq12
                        generalize vs 15 = vq15 at hK dq15 ⊢
                        subst vq15
                        generalize vs 16 = vq16 at hK dq16 ⊢
                        subst vq16
                        have hix := HIX2.out
                        go_wp2_with fail
                        exact hK _ _ rfl (Mod.refl _ _)
                      refine opsOkA_cons ?_ ?_
                      · intro K vs W hR hD hK
                        have dq12 : vs 12 = .bool false := hD 12 (by decide)
                        have dq17 : vs 17 = .pointer (some ⟨fb, fo, none⟩) := hD 17 (by decide)
                        clear hD
                        try dsimp only at hK ⊢
                        simp only [Act.put, List.setIfInBounds_toArray, List.set_cons_succ, List.set_cons_zero] at hK
                        generalize vs 12 = vq12 at hK dq12 ⊢
                        subst vq12
                        generalize vs 17 = vq17 at hK dq17 ⊢
                        subst vq17
                        have hc := (HSd.out.at (hR)).1
                        go_wp2
                        exact hK _ _ rfl (Mod.refl _ _)
                      refine opsOkA_cons ?_ ?_
                      · intro K vs W hR hD hK
                        have dq12 : vs 12 = .bool false := hD 12 (by decide)
                        have dq18 : vs 18 = .int .i64 (s : Int) := hD 18 (by decide)
                        clear hD
                        try dsimp only at hK ⊢
                        simp only [Act.put, List.setIfInBounds_toArray, List.set_cons_succ, List.set_cons_zero] at hK
                        generalize vs 12 = vq12 at hK dq12 ⊢
                        subst vq12
                        generalize vs 18 = vq18 at hK dq18 ⊢
                        subst vq18
                        go_wp2
                        exact hK _ _ rfl (Mod.refl _ _)
                      refine opsOkA_cons ?_ ?_
                      · intro K vs W hR hD hK
                        have dq12 : vs 12 = .bool false := hD 12 (by decide)
                        have dq19 : vs 19 = .int .u8 (s : Int) := hD 19 (by decide)
                        clear hD
                        try dsimp only at hK ⊢
                        simp only [Act.put, List.setIfInBounds_toArray, List.set_cons_succ, List.set_cons_zero] at hK
                        generalize vs 12 = vq12 at hK dq12 ⊢
                        subst vq12
                        generalize vs 19 = vq19 at hK dq19 ⊢
                        subst vq19
                        go_wp2
                        exact hK _ _ ⟨_, rfl, by exact Rd.litN _ 1 _ _ _ 1 rfl rfl (by decide)⟩ (Mod.alloc _ _ _)
                      refine opsOkA_cons ?_ ?_
                      · intro K vs W hR hD hK
                        have dq12 : vs 12 = .bool false := hD 12 (by decide)
                        have dq20 : (LitT 1 [.int .u8 (s : Int)]) (vs 20) W := hD 20 (by decide)
                        clear hD
                        try dsimp only at hK ⊢
                        simp only [Act.put, List.setIfInBounds_toArray, List.set_cons_succ, List.set_cons_zero] at hK
                        generalize vs 12 = vq12 at hK dq12 ⊢
                        subst vq12
                        generalize vs 20 = vq20 at hK dq20 ⊢
                        obtain ⟨p20, rfl, hn20⟩ := dq20
                        have k1 := run_strS W 35 9 5 Try.underlying35 Try.underlying5 Try.underlying9 (show Rd W 1 _ 1 ([(s : Int)].map (Value.int .u8)) from hn20)
                        rw [HY.out] at k1
                        go_wp2
                        exact hK _ _ rfl (Mod.refl _ _)
                      refine opsOkA_cons ?_ ?_
                      · intro K vs W hR hD hK
                        have dq12 : vs 12 = .bool false := hD 12 (by decide)
                        have dq14 : vs 14 = .string Y := hD 14 (by decide)
                        have dq21 : vs 21 = .string Y := hD 21 (by decide)
                        clear hD
                        try dsimp only at hK ⊢
                        simp only [Act.put, List.setIfInBounds_toArray, List.set_cons_succ, List.set_cons_zero] at hK
                        generalize vs 12 = vq12 at hK dq12 ⊢
                        subst vq12
                        generalize vs 14 = vq14 at hK dq14 ⊢
                        subst vq14
                        generalize vs 21 = vq21 at hK dq21 ⊢
                        subst vq21
                        go_wp2
                        exact hK _ _ rfl (Mod.refl _ _)
                      refine opsOkA_cons ?_ ?_
                      · intro K vs W hR hD hK
                        have dq12 : vs 12 = .bool false := hD 12 (by decide)
                        have dq22 : vs 22 = .bool false := hD 22 (by decide)
                        clear hD
                        try dsimp only at hK ⊢
                        simp only [Act.put, List.setIfInBounds_toArray, List.set_cons_succ, List.set_cons_zero] at hK
                        generalize vs 12 = vq12 at hK dq12 ⊢
                        subst vq12
                        generalize vs 22 = vq22 at hK dq22 ⊢
                        subst vq22
                        go_wp2
                        exact hK _ _ rfl (Mod.refl _ _)
                      exact opsOkA_nil
                    · intro vs wq1 hR hF
                      have dq23 : vs 23 = .bool false := hF 23 (by decide)
                      clear hF
                      try dsimp only
                      generalize vs 23 = vq23 at dq23 ⊢
                      subst dq23
                      replace HS := Lib.hid (HSd.out.step hR)
                      clear HSd hR
                      go_wp2_with fail
                      go_roundw
                      case rel => exact ⟨j + 1, hjn, by go_num, HS9.out.keep (HS.out.now).2.2.2, HM9.out.of2 (HS.out.now).2.2.2⟩
                      case measure => simp [intOf]; omega
              · skip
                go_wp2_with fail
                go_loopw [18] (fun jv wr => ∃ j : Nat, j ≤ n ∧ jv = .int .i64 (j : Int) ∧ SG w wr p tp A n T ((D : Int) + 4) (C + 1) ∧ Mod (fun _ => False) w7 wr) (fun jv _ => n - (intOf jv).toNat)
                case atStart => exact ⟨0, Nat.zero_le _, rfl, HS7.out, Mod.refl _ _⟩
                case round =>
                  obtain ⟨j, hj, rfl, hS, hm⟩ := hrel
                  obtain ⟨wo3, hwo3⟩ : ∃ x : World, x = wr := ⟨_, rfl⟩
                  subst hwo3
                  have HS8 := Lib.hid hS
                  have HM8 := Lib.hid hm
                  clear hS hm HS7
                  by_cases hjn : j < n
                  case neg =>
                    obtain rfl : j = n := by omega
                    have y2 : decide ((j : Int) < (j : Int)) = false := by simp
                    have y2n : decide (j < j) = false := by simp
                    go_wp2_with fail
                    go_roundw
                    case rel => exact ⟨A, j, K + 1, C + 1, by omega, by omega, by omega, fun h => by omega, by go_num, by go_num, (by have h := HS8.out; rw [show (D : Int) + 4 = 4 * ((K + 1 : Nat) : Int) by omega] at h; exact h)⟩
                    case measure => simp [intOf]; omega
                  case pos =>
                    have y2 : decide ((j : Int) < (n : Int)) = true := by simp; omega
                    have y2n : decide (j < n) = true := by simp; omega
                    have hjl : j < (idsL A n).length := by rw [idsL_len]; exact hjn
                    have hr8 := HRW.out.keep HM8.out (fun _ _ e => e)
                    obtain ⟨fb, fo, hpl2, f0⟩ := rd1 hr8 j hjl
                    have hix2 := fun wx => run_indexS (P := Try.prog) wx 44 3 iI 1 Try.underlying44 hiI hsI a1 n c1 j hjn (hr8.some_ (by omega))
                    rw [hpl2] at hix2
                    rw [idsL_at] at f0
                    obtain ⟨s, hs⟩ : ∃ s, A + j = s := ⟨_, rfl⟩
                    rw [hs] at f0
                    replace hs : A + j ≤ s ∧ s ≤ A + j := ⟨Nat.le_of_eq hs, Nat.le_of_eq hs.symm⟩
                    have HF0 := Lib.hid f0
                    have HIX2 := Lib.hid hix2
                    have u1 : IntKind.i64.wrap ((A : Int) + (j : Int)) = (s : Int) := by rw [IntWalk.i64_in _ (by omega)]; omega
                    have u1n : (A : Int) + (j : Int) = (s : Int) := by omega
                    have hsb : s ≤ 16 := by omega
                    have hsw : IntKind.i64.wrap (s : Int) = (s : Int) := IntWalk.i64_in _ (by omega)
                    have hw8 : IntKind.u8.wrap (s : Int) = (s : Int) := IntWalk.u8_in _ (by omega)
                    clear hpl2 hr8
                    go_wp2_with fail
                    refine (sg_body HS8.out (by omega) j hjn (s : Int) (by omega)).mono ?_
                    rintro e w9 ⟨ab, cb, rfl, hrd, hs9, hm9⟩
                    have HS9 := Lib.hid hs9
                    have HM9 := Lib.hid (HM8.out.of2 hm9)
                    clear f0
                    have f0 := hm9.cell HF0.out (fun e => e)
                    clear hs9 hm9 HS8
                    go_wp2_with fail
                    have HS : Hid (Ev (Mod (fun _ => False) w9) w9) := Lib.hid (Ev.mod w9)
                    replace HS := Lib.hid ((Ev.rd (HRW.out.keep HM9.out (fun _ _ e => e))).and HS.out)
                    replace HS := Lib.hid ((Ev.rd hrd).and HS.out)
                    replace HS := Lib.hid ((Ev.cell f0).and HS.out)
                    clear f0 hrd
                    obtain ⟨Y, hY⟩ : ∃ x, strOf [(s : Int)] = x := ⟨_, rfl⟩
                    have HY := Lib.hid hY
                    clear hY
                    have HSd := Lib.hid HS.out.drew
                    refine wp_region_inv3 (act := ?actsa1_r31_0) (Mod (fun _ => False)) (fun i => (sa1_r31_0_F s j fb fo cb c1 A n ab a1 Y).getD i (fun _ _ => True)) (fun i => sa1_r31_0_D.getD i []) (by kernel_rfl) (by kernel_rfl) (by kernel_rfl) (by kernel_rfl) (fun _ => Mod.refl _ _)
                      (fun _ _ _ h k => h.trans k (fun _ _ e => e) (fun _ _ e => e)) ?hactsa1_r31_0 (stable_list ?_) ?_ ?_
                    case hactsa1_r31_0 => intro vs; simp only [putAll, Nat.zero_add, Nat.reduceAdd, Act.put, List.setIfInBounds_toArray, List.set_cons_succ, List.set_cons_zero]; exact rfl
                    · unfold sa1_r31_0_F
                      exact stable_cons (stable_val _) <| stable_cons (stable_val _) <| stable_cons (stable_val _) <| stable_cons (stable_val _) <| stable_cons (stable_val _) <| stable_cons (stable_val _) <| stable_cons (stable_val _) <| stable_cons (stable_val _) <| stable_cons (stable_val _) <| stable_cons (stable_val _) <| stable_cons (stable_val _) <| stable_cons (stable_val _) <| stable_cons (stable_val _) <| stable_cons (stable_val _) <| stable_cons (stable_val _) <| stable_cons (stable_val _) <| stable_cons (stable_val _) <| stable_cons (stable_val _) <| stable_cons (stable_val _) <| stable_cons (stable_val _) <| stable_cons (LitT.st) <| stable_cons (stable_val _) <| stable_cons (stable_val _) <| stable_cons (stable_val _) <| stable_nil
                    · refine opsOkA_cons ?_ ?_
                      · intro K vs W hR hD hK
                        clear hD
                        try dsimp only at hK ⊢
                        simp only [Act.put, List.setIfInBounds_toArray, List.set_cons_succ, List.set_cons_zero] at hK
                        go_wp2
                        exact hK _ _ rfl (Mod.refl _ _)
                      refine opsOkA_cons ?_ ?_
                      · intro K vs W hR hD hK
                        clear hD
                        try dsimp only at hK ⊢
                        simp only [Act.put, List.setIfInBounds_toArray, List.set_cons_succ, List.set_cons_zero] at hK
                        go_wp2
                        exact hK _ _ rfl (Mod.refl _ _)
                      refine opsOkA_cons ?_ ?_
                      · intro K vs W hR hD hK
                        have dq0 : vs 0 = .slice a1 n c1 := hD 0 (by decide)
                        have dq1 : vs 1 = .int .i64 (j : Int) := hD 1 (by decide)
                        clear hD
                        try dsimp only at hK ⊢
                        simp only [Act.put, List.setIfInBounds_toArray, List.set_cons_succ, List.set_cons_zero] at hK
                        generalize vs 0 = vq0 at hK dq0 ⊢
                        subst vq0
                        generalize vs 1 = vq1 at hK dq1 ⊢
                        subst vq1
                        have hix := HIX2.out
                        go_wp2_with fail
                        exact hK _ _ rfl (Mod.refl _ _)
                      refine opsOkA_cons ?_ ?_
                      · intro K vs W hR hD hK
                        have dq2 : vs 2 = .pointer (some ⟨fb, fo, none⟩) := hD 2 (by decide)
                        clear hD
                        try dsimp only at hK ⊢
                        simp only [Act.put, List.setIfInBounds_toArray, List.set_cons_succ, List.set_cons_zero] at hK
                        generalize vs 2 = vq2 at hK dq2 ⊢
                        subst vq2
                        have hc := (HSd.out.at (hR)).1
                        go_wp2
                        exact hK _ _ rfl (Mod.refl _ _)
                      refine opsOkA_cons ?_ ?_
                      · intro K vs W hR hD hK
                        clear hD
                        try dsimp only at hK ⊢
                        simp only [Act.put, List.setIfInBounds_toArray, List.set_cons_succ, List.set_cons_zero] at hK
                        go_wp2
                        exact hK _ _ rfl (Mod.refl _ _)
                      refine opsOkA_cons ?_ ?_
                      · intro K vs W hR hD hK
                        clear hD
                        try dsimp only at hK ⊢
                        simp only [Act.put, List.setIfInBounds_toArray, List.set_cons_succ, List.set_cons_zero] at hK
                        go_wp2
                        exact hK _ _ rfl (Mod.refl _ _)
                      refine opsOkA_cons ?_ ?_
                      · intro K vs W hR hD hK
                        have dq4 : vs 4 = .int .i64 (A : Int) := hD 4 (by decide)
                        have dq5 : vs 5 = .int .i64 (j : Int) := hD 5 (by decide)
                        clear hD
                        try dsimp only at hK ⊢
                        simp only [Act.put, List.setIfInBounds_toArray, List.set_cons_succ, List.set_cons_zero] at hK
                        generalize vs 4 = vq4 at hK dq4 ⊢
                        subst vq4
                        generalize vs 5 = vq5 at hK dq5 ⊢
                        subst vq5
                        go_wp2
                        exact hK _ _ rfl (Mod.refl _ _)
                      refine opsOkA_cons ?_ ?_
                      · intro K vs W hR hD hK
                        have dq3 : vs 3 = .int .i64 (s : Int) := hD 3 (by decide)
                        have dq6 : vs 6 = .int .i64 (s : Int) := hD 6 (by decide)
                        clear hD
                        try dsimp only at hK ⊢
                        simp only [Act.put, List.setIfInBounds_toArray, List.set_cons_succ, List.set_cons_zero] at hK
                        generalize vs 3 = vq3 at hK dq3 ⊢
                        subst vq3
                        generalize vs 6 = vq6 at hK dq6 ⊢
                        subst vq6
                        go_wp2
                        exact hK _ _ rfl (Mod.refl _ _)
                      refine opsOkA_cons ?_ ?_
                      · intro K vs W hR hD hK
                        have dq7 : vs 7 = .bool false := hD 7 (by decide)
                        clear hD
                        try dsimp only at hK ⊢
                        simp only [Act.put, List.setIfInBounds_toArray, List.set_cons_succ, List.set_cons_zero] at hK
                        generalize vs 7 = vq7 at hK dq7 ⊢
                        subst vq7
                        go_wp2
                        exact hK _ _ rfl (Mod.refl _ _)
                      refine opsOkA_cons ?_ ?_
                      · intro K vs W hR hD hK
                        have dq8 : vs 8 = .bool false := hD 8 (by decide)
                        clear hD
                        try dsimp only at hK ⊢
                        simp only [Act.put, List.setIfInBounds_toArray, List.set_cons_succ, List.set_cons_zero] at hK
                        generalize vs 8 = vq8 at hK dq8 ⊢
                        subst vq8
                        go_wp2
                        exact hK _ _ rfl (Mod.refl _ _)
                      refine opsOkA_cons ?_ ?_
                      · intro K vs W hR hD hK
                        have dq8 : vs 8 = .bool false := hD 8 (by decide)
                        have dq9 : vs 9 = .bool true := hD 9 (by decide)
                        clear hD
                        try dsimp only at hK ⊢
                        simp only [Act.put, List.setIfInBounds_toArray, List.set_cons_succ, List.set_cons_zero] at hK
                        generalize vs 8 = vq8 at hK dq8 ⊢
                        subst vq8
                        generalize vs 9 = vq9 at hK dq9 ⊢
                        subst vq9
                        go_wp2
                        exact hK _ _ rfl (Mod.refl _ _)
                      refine opsOkA_cons ?_ ?_
                      · intro K vs W hR hD hK
                        have dq8 : vs 8 = .bool false := hD 8 (by decide)
                        have dq10 : vs 10 = .bool false := hD 10 (by decide)
                        clear hD
                        try dsimp only at hK ⊢
                        simp only [Act.put, List.setIfInBounds_toArray, List.set_cons_succ, List.set_cons_zero] at hK
                        generalize vs 8 = vq8 at hK dq8 ⊢
                        subst vq8
                        generalize vs 10 = vq10 at hK dq10 ⊢
                        subst vq10
                        go_wp2
                        exact hK _ _ rfl (Mod.refl _ _)
                      refine opsOkA_cons ?_ ?_
                      · intro K vs W hR hD hK
                        have dq11 : vs 11 = .bool false := hD 11 (by decide)
                        clear hD
                        try dsimp only at hK ⊢
                        simp only [Act.put, List.setIfInBounds_toArray, List.set_cons_succ, List.set_cons_zero] at hK
                        generalize vs 11 = vq11 at hK dq11 ⊢
                        subst vq11
                        go_wp2
                        exact hK _ _ rfl (Mod.refl _ _)
                      refine opsOkA_cons ?_ ?_
                      · intro K vs W hR hD hK
                        have dq12 : vs 12 = .bool false := hD 12 (by decide)
                        clear hD
                        try dsimp only at hK ⊢
                        simp only [Act.put, List.setIfInBounds_toArray, List.set_cons_succ, List.set_cons_zero] at hK
                        generalize vs 12 = vq12 at hK dq12 ⊢
                        subst vq12
                        go_wp2
                        exact hK _ _ rfl (Mod.refl _ _)
                      refine opsOkA_cons ?_ ?_
                      · intro K vs W hR hD hK
                        have dq12 : vs 12 = .bool false := hD 12 (by decide)
                        have dq13 : vs 13 = .slice ab 1 cb := hD 13 (by decide)
                        clear hD
                        try dsimp only at hK ⊢
                        simp only [Act.put, List.setIfInBounds_toArray, List.set_cons_succ, List.set_cons_zero] at hK
                        generalize vs 12 = vq12 at hK dq12 ⊢
                        subst vq12
                        generalize vs 13 = vq13 at hK dq13 ⊢
                        subst vq13
                        have k1 := run_strS W 35 9 5 Try.underlying35 Try.underlying5 Try.underlying9 ((HSd.out.at (hR)).2.1)
                        rw [HY.out] at k1
                        go_wp2
                        exact hK _ _ rfl (Mod.refl _ _)
                      refine opsOkA_cons ?_ ?_
                      · intro K vs W hR hD hK
                        have dq12 : vs 12 = .bool false := hD 12 (by decide)
                        clear hD
                        try dsimp only at hK ⊢
                        simp only [Act.put, List.setIfInBounds_toArray, List.set_cons_succ, List.set_cons_zero] at hK
                        generalize vs 12 = vq12 at hK dq12 ⊢
                        subst vq12
                        go_wp2
                        exact hK _ _ rfl (Mod.refl _ _)
                      refine opsOkA_cons ?_ ?_
                      · intro K vs W hR hD hK
                        have dq12 : vs 12 = .bool false := hD 12 (by decide)
                        clear hD
                        try dsimp only at hK ⊢
                        simp only [Act.put, List.setIfInBounds_toArray, List.set_cons_succ, List.set_cons_zero] at hK
                        generalize vs 12 = vq12 at hK dq12 ⊢
                        subst vq12
                        go_wp2
                        exact hK _ _ rfl (Mod.refl _ _)
                      refine opsOkA_cons ?_ ?_
                      · intro K vs W hR hD hK
                        have dq12 : vs 12 = .bool false := hD 12 (by decide)
                        have dq15 : vs 15 = .slice a1 n c1 := hD 15 (by decide)
                        have dq16 : vs 16 = .int .i64 (j : Int) := hD 16 (by decide)
                        clear hD
                        try dsimp only at hK ⊢
                        simp only [Act.put, List.setIfInBounds_toArray, List.set_cons_succ, List.set_cons_zero] at hK
                        generalize vs 12 = vq12 at hK dq12 ⊢
                        subst vq12
                        generalize vs 15 = vq15 at hK dq15 ⊢
                        subst vq15
                        generalize vs 16 = vq16 at hK dq16 ⊢
                        subst vq16
                        have hix := HIX2.out
                        go_wp2_with fail
                        exact hK _ _ rfl (Mod.refl _ _)
                      refine opsOkA_cons ?_ ?_
                      · intro K vs W hR hD hK
                        have dq12 : vs 12 = .bool false := hD 12 (by decide)
                        have dq17 : vs 17 = .pointer (some ⟨fb, fo, none⟩) := hD 17 (by decide)
                        clear hD
                        try dsimp only at hK ⊢
                        simp only [Act.put, List.setIfInBounds_toArray, List.set_cons_succ, List.set_cons_zero] at hK
                        generalize vs 12 = vq12 at hK dq12 ⊢
                        subst vq12
                        generalize vs 17 = vq17 at hK dq17 ⊢
                        subst vq17
                        have hc := (HSd.out.at (hR)).1
                        go_wp2
                        exact hK _ _ rfl (Mod.refl _ _)
                      refine opsOkA_cons ?_ ?_
                      · intro K vs W hR hD hK
                        have dq12 : vs 12 = .bool false := hD 12 (by decide)
                        have dq18 : vs 18 = .int .i64 (s : Int) := hD 18 (by decide)
                        clear hD
                        try dsimp only at hK ⊢
                        simp only [Act.put, List.setIfInBounds_toArray, List.set_cons_succ, List.set_cons_zero] at hK
                        generalize vs 12 = vq12 at hK dq12 ⊢
                        subst vq12
                        generalize vs 18 = vq18 at hK dq18 ⊢
                        subst vq18
                        go_wp2
                        exact hK _ _ rfl (Mod.refl _ _)
                      refine opsOkA_cons ?_ ?_
                      · intro K vs W hR hD hK
                        have dq12 : vs 12 = .bool false := hD 12 (by decide)
                        have dq19 : vs 19 = .int .u8 (s : Int) := hD 19 (by decide)
                        clear hD
                        try dsimp only at hK ⊢
                        simp only [Act.put, List.setIfInBounds_toArray, List.set_cons_succ, List.set_cons_zero] at hK
                        generalize vs 12 = vq12 at hK dq12 ⊢
                        subst vq12
                        generalize vs 19 = vq19 at hK dq19 ⊢
                        subst vq19
                        go_wp2
                        exact hK _ _ ⟨_, rfl, by exact Rd.litN _ 1 _ _ _ 1 rfl rfl (by decide)⟩ (Mod.alloc _ _ _)
                      refine opsOkA_cons ?_ ?_
                      · intro K vs W hR hD hK
                        have dq12 : vs 12 = .bool false := hD 12 (by decide)
                        have dq20 : (LitT 1 [.int .u8 (s : Int)]) (vs 20) W := hD 20 (by decide)
                        clear hD
                        try dsimp only at hK ⊢
                        simp only [Act.put, List.setIfInBounds_toArray, List.set_cons_succ, List.set_cons_zero] at hK
                        generalize vs 12 = vq12 at hK dq12 ⊢
                        subst vq12
                        generalize vs 20 = vq20 at hK dq20 ⊢
                        obtain ⟨p20, rfl, hn20⟩ := dq20
                        have k1 := run_strS W 35 9 5 Try.underlying35 Try.underlying5 Try.underlying9 (show Rd W 1 _ 1 ([(s : Int)].map (Value.int .u8)) from hn20)
                        rw [HY.out] at k1
                        go_wp2
                        exact hK _ _ rfl (Mod.refl _ _)
                      refine opsOkA_cons ?_ ?_
                      · intro K vs W hR hD hK
                        have dq12 : vs 12 = .bool false := hD 12 (by decide)
                        have dq14 : vs 14 = .string Y := hD 14 (by decide)
                        have dq21 : vs 21 = .string Y := hD 21 (by decide)
                        clear hD
                        try dsimp only at hK ⊢
                        simp only [Act.put, List.setIfInBounds_toArray, List.set_cons_succ, List.set_cons_zero] at hK
                        generalize vs 12 = vq12 at hK dq12 ⊢
                        subst vq12
                        generalize vs 14 = vq14 at hK dq14 ⊢
                        subst vq14
                        generalize vs 21 = vq21 at hK dq21 ⊢
                        subst vq21
                        go_wp2
                        exact hK _ _ rfl (Mod.refl _ _)
                      refine opsOkA_cons ?_ ?_
                      · intro K vs W hR hD hK
                        have dq12 : vs 12 = .bool false := hD 12 (by decide)
                        have dq22 : vs 22 = .bool false := hD 22 (by decide)
                        clear hD
                        try dsimp only at hK ⊢
                        simp only [Act.put, List.setIfInBounds_toArray, List.set_cons_succ, List.set_cons_zero] at hK
                        generalize vs 12 = vq12 at hK dq12 ⊢
                        subst vq12
                        generalize vs 22 = vq22 at hK dq22 ⊢
                        subst vq22
                        go_wp2
                        exact hK _ _ rfl (Mod.refl _ _)
                      exact opsOkA_nil
                    · intro vs wq1 hR hF
                      have dq23 : vs 23 = .bool false := hF 23 (by decide)
                      clear hF
                      try dsimp only
                      generalize vs 23 = vq23 at dq23 ⊢
                      subst dq23
                      replace HS := Lib.hid (HSd.out.step hR)
                      clear HSd hR
                      go_wp2_with fail
                      go_roundw
                      case rel => exact ⟨j + 1, hjn, by go_num, HS9.out.keep (HS.out.now).2.2.2, HM9.out.of2 (HS.out.now).2.2.2⟩
                      case measure => simp [intOf]; omega
          case pos =>
            have t0 : decide ((C : Int) < (m : Int)) = true := by simp; omega
            have t0n : decide (C < m) = true := by simp; omega
            have hjl : C < l.length := by rw [HN.out]; exact hqa
            obtain ⟨eb, eo, hpl, e0⟩ := rd1 HRD.out C hjl
            have hix := fun wx => run_indexS (P := Try.prog) wx 44 3 iI 1 Try.underlying44 hiI hsI a0 m c0 C hqa (HRD.out.some_ (by omega))
            rw [hpl] at hix
            obtain ⟨x, hx⟩ : ∃ x, l[C] = x := ⟨_, rfl⟩
            rw [hx] at e0
            have e2 := HS5.out.mod.cell e0 (fun e => e)
            clear hx e0 hpl
            have b5 : IntKind.i64.wrap ((i : Int) + 1) = ((i : Int) + 1) := IntWalk.i64_in _ (by omega)
            go_wp2_with fail
            refine (round_any x ((i : Int) + 1) _ (by omega) (by omega)).mono ?_
            rintro e w' ⟨rfl, rfl⟩
            have hr0 := Int.emod_nonneg x (b := (i : Int) + 1) (by omega)
            have hr1 := Int.emod_lt_of_pos x (b := (i : Int) + 1) (by omega)
            obtain ⟨rr, hrr⟩ := Int.eq_ofNat_of_zero_le hr0
            rw [hrr] at hr1 ⊢
            have hr2 : rr ≤ i := by omega
            clear hr0 hr1 hrr e2 hix
            obtain ⟨A2, n2, k, hmax, hk1, hk2, hk3⟩ : ∃ A2 n2 k : Nat, A2 = max A rr ∧ A + k = A2 ∧ n - k = n2 ∧ k ≤ n := ⟨max A rr, n - (max A rr - A), max A rr - A, rfl, by omega, rfl, by omega⟩
            have hA2n : A2 + n2 = i := by omega
            have hack := sg_acked HS5.out (by omega) k hk3 (A2 : Int) (by omega)
            rw [hk1, hk2] at hack
            have HACK := Lib.hid hack
            clear hack
            have hmx : max (A : Int) (rr : Int) = (A2 : Int) := by omega
            have hA2b : A2 ≤ 16 := by omega
            have hA2w : IntKind.i64.wrap (A2 : Int) = (A2 : Int) := IntWalk.i64_in _ (by omega)
            have HMAX := Lib.hid hmax
            have HK1 := Lib.hid hk1
            have HK2 := Lib.hid hk2
            clear hk1 hk2
            by_cases hcmp : A < rr
            case pos =>
              obtain rfl : A2 = rr := by omega
              clear hmax
              have v1 : decide ((A : Int) < (A2 : Int)) = true := by simp; omega
              have v2 : decide ((A2 : Int) < (A : Int)) = false := by simp; omega
              have v3 : decide ((A2 : Int) ≤ (A : Int)) = false := by simp; omega
              have v4 : decide ((A : Int) ≤ (A2 : Int)) = true := by simp; omega
              go_wp2_with fail
              refine HACK.out.mono ?_
              rintro e w6 ⟨⟨r6, rfl⟩, hs⟩
              have HS6 := Lib.hid hs
              clear hs HS5 HACK hmx hk3 hcmp v1 v3
              by_cases hgo : n2 = 0 ∨ C < T
              case neg =>
                have hov := sg_over HS6.out (by omega) (by omega) (by omega) (by omega)
                have HOV := Lib.hid hov
                clear hov
                have x1 : decide ((A2 : Int) < (i : Int)) = true := by simp; omega
                have x1n : decide (A2 < i) = true := by simp; omega
                have x2 : decide ((T : Int) < (K : Int)) = true := by simp; omega
                have x2n : decide (T < K) = true := by simp; omega
                go_wp2_with fail
                refine HOV.out.mono ?_
                rintro e w7 ⟨rfl, hs⟩
                have HS7 := Lib.hid hs
                clear hs
                go_wp2_with (first
                  | (go_at_call 22; refine (s1_room HS7.out 0 rfl).mono ?_; rintro e w9 ⟨rfl, hs, _⟩; have HS9 := Lib.hid hs; clear hs)
                  | (go_at_call 7; refine (awake25_any _).mono ?_; rintro e w8 ⟨rfl, hm8⟩; have HM8 := Lib.hid hm8; clear hm8))
                go_ret
                exact ⟨rfl, HS9.out.mod.of2 HM8.out⟩
              case pos =>
                have hov := sg_again HS6.out (by omega) (by omega) hgo
                have HOV := Lib.hid hov
                clear hov
                have x2 : (decide ((A2 : Int) < (i : Int)) = false ∧ decide (A2 < i) = false) ∨ (decide ((A2 : Int) < (i : Int)) = true ∧ decide (A2 < i) = true ∧ decide ((T : Int) < (K : Int)) = false ∧ decide (T < K) = false) := by
                  by_cases q : A2 < i
                  · exact .inr ⟨by simp; omega, by simp; omega, by simp; omega, by simp; omega⟩
                  · exact .inl ⟨by simp; omega, by simp; omega⟩
                have HX2 := Lib.hid x2
                clear x2
                go_wp2_with fail
                refine HOV.out.mono ?_
                rintro e w7 ⟨⟨a1, c1, rfl, hrow⟩, hs⟩
                have HS7 := Lib.hid hs
                have HRW := Lib.hid hrow
                clear hs hrow
                have d1 : IntKind.i64.wrap ((i : Int) - (A2 : Int)) = (n2 : Int) := by rw [IntWalk.i64_in _ (by omega)]; omega
                have d1n : (i : Int) - (A2 : Int) = (n2 : Int) := by omega
                rcases HX2.out with ⟨x2, x2n⟩ | ⟨x2, x2n, x3, x3n⟩
                · skip
                  go_wp2_with fail
                  go_loopw [18] (fun jv wr => ∃ j : Nat, j ≤ n2 ∧ jv = .int .i64 (j : Int) ∧ SG w wr p tp A2 n2 T ((D : Int) + 4) (C + 1) ∧ Mod (fun _ => False) w7 wr) (fun jv _ => n2 - (intOf jv).toNat)
                  case atStart => exact ⟨0, Nat.zero_le _, rfl, HS7.out, Mod.refl _ _⟩
                  case round =>
                    obtain ⟨j, hj, rfl, hS, hm⟩ := hrel
                    obtain ⟨wo3, hwo3⟩ : ∃ x : World, x = wr := ⟨_, rfl⟩
                    subst hwo3
                    have HS8 := Lib.hid hS
                    have HM8 := Lib.hid hm
                    clear hS hm HS7
                    by_cases hjn : j < n2
                    case neg =>
                      obtain rfl : j = n2 := by omega
                      have y2 : decide ((j : Int) < (j : Int)) = false := by simp
                      have y2n : decide (j < j) = false := by simp
                      go_wp2_with fail
                      go_roundw
                      case rel => exact ⟨A2, j, K + 1, C + 1, by omega, by omega, by omega, fun h => by omega, by go_num, by go_num, (by have h := HS8.out; rw [show (D : Int) + 4 = 4 * ((K + 1 : Nat) : Int) by omega] at h; exact h)⟩
                      case measure => simp [intOf]; omega
                    case pos =>
                      have y2 : decide ((j : Int) < (n2 : Int)) = true := by simp; omega
                      have y2n : decide (j < n2) = true := by simp; omega
                      have hjl : j < (idsL A2 n2).length := by rw [idsL_len]; exact hjn
                      have hr8 := HRW.out.keep HM8.out (fun _ _ e => e)
                      obtain ⟨fb, fo, hpl2, f0⟩ := rd1 hr8 j hjl
                      have hix2 := fun wx => run_indexS (P := Try.prog) wx 44 3 iI 1 Try.underlying44 hiI hsI a1 n2 c1 j hjn (hr8.some_ (by omega))
                      rw [hpl2] at hix2
                      rw [idsL_at] at f0
                      obtain ⟨s, hs⟩ : ∃ s, A2 + j = s := ⟨_, rfl⟩
                      rw [hs] at f0
                      replace hs : A2 + j ≤ s ∧ s ≤ A2 + j := ⟨Nat.le_of_eq hs, Nat.le_of_eq hs.symm⟩
                      have HF0 := Lib.hid f0
                      have HIX2 := Lib.hid hix2
                      have u1 : IntKind.i64.wrap ((A2 : Int) + (j : Int)) = (s : Int) := by rw [IntWalk.i64_in _ (by omega)]; omega
                      have u1n : (A2 : Int) + (j : Int) = (s : Int) := by omega
                      have hsb : s ≤ 16 := by omega
                      have hsw : IntKind.i64.wrap (s : Int) = (s : Int) := IntWalk.i64_in _ (by omega)
                      have hw8 : IntKind.u8.wrap (s : Int) = (s : Int) := IntWalk.u8_in _ (by omega)
                      clear hpl2 hr8
                      go_wp2_with fail
                      refine (sg_body HS8.out (by omega) j hjn (s : Int) (by omega)).mono ?_
                      rintro e w9 ⟨ab, cb, rfl, hrd, hs9, hm9⟩
                      have HS9 := Lib.hid hs9
                      have HM9 := Lib.hid (HM8.out.of2 hm9)
                      clear f0
                      have f0 := hm9.cell HF0.out (fun e => e)
                      clear hs9 hm9 HS8
                      go_wp2_with fail
                      have HS : Hid (Ev (Mod (fun _ => False) w9) w9) := Lib.hid (Ev.mod w9)
                      replace HS := Lib.hid ((Ev.rd (HRW.out.keep HM9.out (fun _ _ e => e))).and HS.out)
                      replace HS := Lib.hid ((Ev.rd hrd).and HS.out)
                      replace HS := Lib.hid ((Ev.cell f0).and HS.out)
                      clear f0 hrd
                      obtain ⟨Y, hY⟩ : ∃ x, strOf [(s : Int)] = x := ⟨_, rfl⟩
                      have HY := Lib.hid hY
                      clear hY
                      have HSd := Lib.hid HS.out.drew
                      refine wp_region_inv3 (act := ?actsa2_r31_0) (Mod (fun _ => False)) (fun i => (sa2_r31_0_F s j fb fo cb c1 A2 n2 ab a1 Y).getD i (fun _ _ => True)) (fun i => sa2_r31_0_D.getD i []) (by kernel_rfl) (by kernel_rfl) (by kernel_rfl) (by kernel_rfl) (fun _ => Mod.refl _ _)
                        (fun _ _ _ h k => h.trans k (fun _ _ e => e) (fun _ _ e => e)) ?hactsa2_r31_0 (stable_list ?_) ?_ ?_
                      case hactsa2_r31_0 => intro vs; simp only [putAll, Nat.zero_add, Nat.reduceAdd, Act.put, List.setIfInBounds_toArray, List.set_cons_succ, List.set_cons_zero]; exact rfl
                      · unfold sa2_r31_0_F
                        exact stable_cons (stable_val _) <| stable_cons (stable_val _) <| stable_cons (stable_val _) <| stable_cons (stable_val _) <| stable_cons (stable_val _) <| stable_cons (stable_val _) <| stable_cons (stable_val _) <| stable_cons (stable_val _) <| stable_cons (stable_val _) <| stable_cons (stable_val _) <| stable_cons (stable_val _) <| stable_cons (stable_val _) <| stable_cons (stable_val _) <| stable_cons (stable_val _) <| stable_cons (stable_val _) <| stable_cons (stable_val _) <| stable_cons (stable_val _) <| stable_cons (stable_val _) <| stable_cons (stable_val _) <| stable_cons (stable_val _) <| stable_cons (LitT.st) <| stable_cons (stable_val _) <| stable_cons (stable_val _) <| stable_cons (stable_val _) <| stable_nil
                      · refine opsOkA_cons ?_ ?_
                        · intro K vs W hR hD hK
                          clear hD
                          try dsimp only at hK ⊢
                          simp only [Act.put, List.setIfInBounds_toArray, List.set_cons_succ, List.set_cons_zero] at hK
                          go_wp2
                          exact hK _ _ rfl (Mod.refl _ _)
                        refine opsOkA_cons ?_ ?_
                        · intro K vs W hR hD hK
                          clear hD
                          try dsimp only at hK ⊢
                          simp only [Act.put, List.setIfInBounds_toArray, List.set_cons_succ, List.set_cons_zero] at hK
                          go_wp2
                          exact hK _ _ rfl (Mod.refl _ _)
                        refine opsOkA_cons ?_ ?_
                        · intro K vs W hR hD hK
                          have dq0 : vs 0 = .slice a1 n2 c1 := hD 0 (by decide)
                          have dq1 : vs 1 = .int .i64 (j : Int) := hD 1 (by decide)
                          clear hD
                          try dsimp only at hK ⊢
                          simp only [Act.put, List.setIfInBounds_toArray, List.set_cons_succ, List.set_cons_zero] at hK
                          generalize vs 0 = vq0 at hK dq0 ⊢
                          subst vq0
                          generalize vs 1 = vq1 at hK dq1 ⊢
                          subst vq1
                          have hix := HIX2.out
                          go_wp2_with fail
                          exact hK _ _ rfl (Mod.refl _ _)
                        refine opsOkA_cons ?_ ?_
                        · intro K vs W hR hD hK
                          have dq2 : vs 2 = .pointer (some ⟨fb, fo, none⟩) := hD 2 (by decide)
                          clear hD
                          try dsimp only at hK ⊢
                          simp only [Act.put, List.setIfInBounds_toArray, List.set_cons_succ, List.set_cons_zero] at hK
                          generalize vs 2 = vq2 at hK dq2 ⊢
                          subst vq2
                          have hc := (HSd.out.at (hR)).1
                          go_wp2
                          exact hK _ _ rfl (Mod.refl _ _)
                        refine opsOkA_cons ?_ ?_
                        · intro K vs W hR hD hK
                          clear hD
                          try dsimp only at hK ⊢
                          simp only [Act.put, List.setIfInBounds_toArray, List.set_cons_succ, List.set_cons_zero] at hK
                          go_wp2
                          exact hK _ _ rfl (Mod.refl _ _)
                        refine opsOkA_cons ?_ ?_
                        · intro K vs W hR hD hK
                          clear hD
                          try dsimp only at hK ⊢
                          simp only [Act.put, List.setIfInBounds_toArray, List.set_cons_succ, List.set_cons_zero] at hK
                          go_wp2
                          exact hK _ _ rfl (Mod.refl _ _)
                        refine opsOkA_cons ?_ ?_
                        · intro K vs W hR hD hK
                          have dq4 : vs 4 = .int .i64 (A2 : Int) := hD 4 (by decide)
                          have dq5 : vs 5 = .int .i64 (j : Int) := hD 5 (by decide)
                          clear hD
                          try dsimp only at hK ⊢
                          simp only [Act.put, List.setIfInBounds_toArray, List.set_cons_succ, List.set_cons_zero] at hK
                          generalize vs 4 = vq4 at hK dq4 ⊢
                          subst vq4
                          generalize vs 5 = vq5 at hK dq5 ⊢
                          subst vq5
                          go_wp2
                          exact hK _ _ rfl (Mod.refl _ _)
                        refine opsOkA_cons ?_ ?_
                        · intro K vs W hR hD hK
                          have dq3 : vs 3 = .int .i64 (s : Int) := hD 3 (by decide)
                          have dq6 : vs 6 = .int .i64 (s : Int) := hD 6 (by decide)
                          clear hD
                          try dsimp only at hK ⊢
                          simp only [Act.put, List.setIfInBounds_toArray, List.set_cons_succ, List.set_cons_zero] at hK
                          generalize vs 3 = vq3 at hK dq3 ⊢
                          subst vq3
                          generalize vs 6 = vq6 at hK dq6 ⊢
                          subst vq6
                          go_wp2
                          exact hK _ _ rfl (Mod.refl _ _)
                        refine opsOkA_cons ?_ ?_
                        · intro K vs W hR hD hK
                          have dq7 : vs 7 = .bool false := hD 7 (by decide)
                          clear hD
                          try dsimp only at hK ⊢
                          simp only [Act.put, List.setIfInBounds_toArray, List.set_cons_succ, List.set_cons_zero] at hK
                          generalize vs 7 = vq7 at hK dq7 ⊢
                          subst vq7
                          go_wp2
                          exact hK _ _ rfl (Mod.refl _ _)
                        refine opsOkA_cons ?_ ?_
                        · intro K vs W hR hD hK
                          have dq8 : vs 8 = .bool false := hD 8 (by decide)
                          clear hD
                          try dsimp only at hK ⊢
                          simp only [Act.put, List.setIfInBounds_toArray, List.set_cons_succ, List.set_cons_zero] at hK
                          generalize vs 8 = vq8 at hK dq8 ⊢
                          subst vq8
                          go_wp2
                          exact hK _ _ rfl (Mod.refl _ _)
                        refine opsOkA_cons ?_ ?_
                        · intro K vs W hR hD hK
                          have dq8 : vs 8 = .bool false := hD 8 (by decide)
                          have dq9 : vs 9 = .bool true := hD 9 (by decide)
                          clear hD
                          try dsimp only at hK ⊢
                          simp only [Act.put, List.setIfInBounds_toArray, List.set_cons_succ, List.set_cons_zero] at hK
                          generalize vs 8 = vq8 at hK dq8 ⊢
                          subst vq8
                          generalize vs 9 = vq9 at hK dq9 ⊢
                          subst vq9
                          go_wp2
                          exact hK _ _ rfl (Mod.refl _ _)
                        refine opsOkA_cons ?_ ?_
                        · intro K vs W hR hD hK
                          have dq8 : vs 8 = .bool false := hD 8 (by decide)
                          have dq10 : vs 10 = .bool false := hD 10 (by decide)
                          clear hD
                          try dsimp only at hK ⊢
                          simp only [Act.put, List.setIfInBounds_toArray, List.set_cons_succ, List.set_cons_zero] at hK
                          generalize vs 8 = vq8 at hK dq8 ⊢
                          subst vq8
                          generalize vs 10 = vq10 at hK dq10 ⊢
                          subst vq10
                          go_wp2
                          exact hK _ _ rfl (Mod.refl _ _)
                        refine opsOkA_cons ?_ ?_
                        · intro K vs W hR hD hK
                          have dq11 : vs 11 = .bool false := hD 11 (by decide)
                          clear hD
                          try dsimp only at hK ⊢
                          simp only [Act.put, List.setIfInBounds_toArray, List.set_cons_succ, List.set_cons_zero] at hK
                          generalize vs 11 = vq11 at hK dq11 ⊢
                          subst vq11
                          go_wp2
                          exact hK _ _ rfl (Mod.refl _ _)
                        refine opsOkA_cons ?_ ?_
                        · intro K vs W hR hD hK
                          have dq12 : vs 12 = .bool false := hD 12 (by decide)
                          clear hD
                          try dsimp only at hK ⊢
                          simp only [Act.put, List.setIfInBounds_toArray, List.set_cons_succ, List.set_cons_zero] at hK
                          generalize vs 12 = vq12 at hK dq12 ⊢
                          subst vq12
                          go_wp2
                          exact hK _ _ rfl (Mod.refl _ _)
                        refine opsOkA_cons ?_ ?_
                        · intro K vs W hR hD hK
                          have dq12 : vs 12 = .bool false := hD 12 (by decide)
                          have dq13 : vs 13 = .slice ab 1 cb := hD 13 (by decide)
                          clear hD
                          try dsimp only at hK ⊢
                          simp only [Act.put, List.setIfInBounds_toArray, List.set_cons_succ, List.set_cons_zero] at hK
                          generalize vs 12 = vq12 at hK dq12 ⊢
                          subst vq12
                          generalize vs 13 = vq13 at hK dq13 ⊢
                          subst vq13
                          have k1 := run_strS W 35 9 5 Try.underlying35 Try.underlying5 Try.underlying9 ((HSd.out.at (hR)).2.1)
                          rw [HY.out] at k1
                          go_wp2
                          exact hK _ _ rfl (Mod.refl _ _)
                        refine opsOkA_cons ?_ ?_
                        · intro K vs W hR hD hK
                          have dq12 : vs 12 = .bool false := hD 12 (by decide)
                          clear hD
                          try dsimp only at hK ⊢
                          simp only [Act.put, List.setIfInBounds_toArray, List.set_cons_succ, List.set_cons_zero] at hK
                          generalize vs 12 = vq12 at hK dq12 ⊢
                          subst vq12
                          go_wp2
                          exact hK _ _ rfl (Mod.refl _ _)
                        refine opsOkA_cons ?_ ?_
                        · intro K vs W hR hD hK
                          have dq12 : vs 12 = .bool false := hD 12 (by decide)
                          clear hD
                          try dsimp only at hK ⊢
                          simp only [Act.put, List.setIfInBounds_toArray, List.set_cons_succ, List.set_cons_zero] at hK
                          generalize vs 12 = vq12 at hK dq12 ⊢
                          subst vq12
                          go_wp2
                          exact hK _ _ rfl (Mod.refl _ _)
                        refine opsOkA_cons ?_ ?_
                        · intro K vs W hR hD hK
                          have dq12 : vs 12 = .bool false := hD 12 (by decide)
                          have dq15 : vs 15 = .slice a1 n2 c1 := hD 15 (by decide)
                          have dq16 : vs 16 = .int .i64 (j : Int) := hD 16 (by decide)
                          clear hD
                          try dsimp only at hK ⊢
                          simp only [Act.put, List.setIfInBounds_toArray, List.set_cons_succ, List.set_cons_zero] at hK
                          generalize vs 12 = vq12 at hK dq12 ⊢
                          subst vq12
                          generalize vs 15 = vq15 at hK dq15 ⊢
                          subst vq15
                          generalize vs 16 = vq16 at hK dq16 ⊢
                          subst vq16
                          have hix := HIX2.out
                          go_wp2_with fail
                          exact hK _ _ rfl (Mod.refl _ _)
                        refine opsOkA_cons ?_ ?_
                        · intro K vs W hR hD hK
                          have dq12 : vs 12 = .bool false := hD 12 (by decide)
                          have dq17 : vs 17 = .pointer (some ⟨fb, fo, none⟩) := hD 17 (by decide)
                          clear hD
                          try dsimp only at hK ⊢
                          simp only [Act.put, List.setIfInBounds_toArray, List.set_cons_succ, List.set_cons_zero] at hK
                          generalize vs 12 = vq12 at hK dq12 ⊢
                          subst vq12
                          generalize vs 17 = vq17 at hK dq17 ⊢
                          subst vq17
                          have hc := (HSd.out.at (hR)).1
                          go_wp2
                          exact hK _ _ rfl (Mod.refl _ _)
                        refine opsOkA_cons ?_ ?_
                        · intro K vs W hR hD hK
                          have dq12 : vs 12 = .bool false := hD 12 (by decide)
                          have dq18 : vs 18 = .int .i64 (s : Int) := hD 18 (by decide)
                          clear hD
                          try dsimp only at hK ⊢
                          simp only [Act.put, List.setIfInBounds_toArray, List.set_cons_succ, List.set_cons_zero] at hK
                          generalize vs 12 = vq12 at hK dq12 ⊢
                          subst vq12
                          generalize vs 18 = vq18 at hK dq18 ⊢
                          subst vq18
                          go_wp2
                          exact hK _ _ rfl (Mod.refl _ _)
                        refine opsOkA_cons ?_ ?_
                        · intro K vs W hR hD hK
                          have dq12 : vs 12 = .bool false := hD 12 (by decide)
                          have dq19 : vs 19 = .int .u8 (s : Int) := hD 19 (by decide)
                          clear hD
                          try dsimp only at hK ⊢
                          simp only [Act.put, List.setIfInBounds_toArray, List.set_cons_succ, List.set_cons_zero] at hK
                          generalize vs 12 = vq12 at hK dq12 ⊢
                          subst vq12
                          generalize vs 19 = vq19 at hK dq19 ⊢
                          subst vq19
                          go_wp2
                          exact hK _ _ ⟨_, rfl, by exact Rd.litN _ 1 _ _ _ 1 rfl rfl (by decide)⟩ (Mod.alloc _ _ _)
                        refine opsOkA_cons ?_ ?_
                        · intro K vs W hR hD hK
                          have dq12 : vs 12 = .bool false := hD 12 (by decide)
                          have dq20 : (LitT 1 [.int .u8 (s : Int)]) (vs 20) W := hD 20 (by decide)
                          clear hD
                          try dsimp only at hK ⊢
                          simp only [Act.put, List.setIfInBounds_toArray, List.set_cons_succ, List.set_cons_zero] at hK
                          generalize vs 12 = vq12 at hK dq12 ⊢
                          subst vq12
                          generalize vs 20 = vq20 at hK dq20 ⊢
                          obtain ⟨p20, rfl, hn20⟩ := dq20
                          have k1 := run_strS W 35 9 5 Try.underlying35 Try.underlying5 Try.underlying9 (show Rd W 1 _ 1 ([(s : Int)].map (Value.int .u8)) from hn20)
                          rw [HY.out] at k1
                          go_wp2
                          exact hK _ _ rfl (Mod.refl _ _)
                        refine opsOkA_cons ?_ ?_
                        · intro K vs W hR hD hK
                          have dq12 : vs 12 = .bool false := hD 12 (by decide)
                          have dq14 : vs 14 = .string Y := hD 14 (by decide)
                          have dq21 : vs 21 = .string Y := hD 21 (by decide)
                          clear hD
                          try dsimp only at hK ⊢
                          simp only [Act.put, List.setIfInBounds_toArray, List.set_cons_succ, List.set_cons_zero] at hK
                          generalize vs 12 = vq12 at hK dq12 ⊢
                          subst vq12
                          generalize vs 14 = vq14 at hK dq14 ⊢
                          subst vq14
                          generalize vs 21 = vq21 at hK dq21 ⊢
                          subst vq21
                          go_wp2
                          exact hK _ _ rfl (Mod.refl _ _)
                        refine opsOkA_cons ?_ ?_
                        · intro K vs W hR hD hK
                          have dq12 : vs 12 = .bool false := hD 12 (by decide)
                          have dq22 : vs 22 = .bool false := hD 22 (by decide)
                          clear hD
                          try dsimp only at hK ⊢
                          simp only [Act.put, List.setIfInBounds_toArray, List.set_cons_succ, List.set_cons_zero] at hK
                          generalize vs 12 = vq12 at hK dq12 ⊢
                          subst vq12
                          generalize vs 22 = vq22 at hK dq22 ⊢
                          subst vq22
                          go_wp2
                          exact hK _ _ rfl (Mod.refl _ _)
                        exact opsOkA_nil
                      · intro vs wq1 hR hF
                        have dq23 : vs 23 = .bool false := hF 23 (by decide)
                        clear hF
                        try dsimp only
                        generalize vs 23 = vq23 at dq23 ⊢
                        subst dq23
                        replace HS := Lib.hid (HSd.out.step hR)
                        clear HSd hR
                        go_wp2_with fail
                        go_roundw
                        case rel => exact ⟨j + 1, hjn, by go_num, HS9.out.keep (HS.out.now).2.2.2, HM9.out.of2 (HS.out.now).2.2.2⟩
                        case measure => simp [intOf]; omega
                · skip
                  go_wp2_with fail
                  go_loopw [18] (fun jv wr => ∃ j : Nat, j ≤ n2 ∧ jv = .int .i64 (j : Int) ∧ SG w wr p tp A2 n2 T ((D : Int) + 4) (C + 1) ∧ Mod (fun _ => False) w7 wr) (fun jv _ => n2 - (intOf jv).toNat)
                  case atStart => exact ⟨0, Nat.zero_le _, rfl, HS7.out, Mod.refl _ _⟩
                  case round =>
                    obtain ⟨j, hj, rfl, hS, hm⟩ := hrel
                    obtain ⟨wo3, hwo3⟩ : ∃ x : World, x = wr := ⟨_, rfl⟩
                    subst hwo3
                    have HS8 := Lib.hid hS
                    have HM8 := Lib.hid hm
                    clear hS hm HS7
                    by_cases hjn : j < n2
                    case neg =>
                      obtain rfl : j = n2 := by omega
                      have y2 : decide ((j : Int) < (j : Int)) = false := by simp
                      have y2n : decide (j < j) = false := by simp
                      go_wp2_with fail
                      go_roundw
                      case rel => exact ⟨A2, j, K + 1, C + 1, by omega, by omega, by omega, fun h => by omega, by go_num, by go_num, (by have h := HS8.out; rw [show (D : Int) + 4 = 4 * ((K + 1 : Nat) : Int) by omega] at h; exact h)⟩
                      case measure => simp [intOf]; omega
                    case pos =>
                      have y2 : decide ((j : Int) < (n2 : Int)) = true := by simp; omega
                      have y2n : decide (j < n2) = true := by simp; omega
                      have hjl : j < (idsL A2 n2).length := by rw [idsL_len]; exact hjn
                      have hr8 := HRW.out.keep HM8.out (fun _ _ e => e)
                      obtain ⟨fb, fo, hpl2, f0⟩ := rd1 hr8 j hjl
                      have hix2 := fun wx => run_indexS (P := Try.prog) wx 44 3 iI 1 Try.underlying44 hiI hsI a1 n2 c1 j hjn (hr8.some_ (by omega))
                      rw [hpl2] at hix2
                      rw [idsL_at] at f0
                      obtain ⟨s, hs⟩ : ∃ s, A2 + j = s := ⟨_, rfl⟩
                      rw [hs] at f0
                      replace hs : A2 + j ≤ s ∧ s ≤ A2 + j := ⟨Nat.le_of_eq hs, Nat.le_of_eq hs.symm⟩
                      have HF0 := Lib.hid f0
                      have HIX2 := Lib.hid hix2
                      have u1 : IntKind.i64.wrap ((A2 : Int) + (j : Int)) = (s : Int) := by rw [IntWalk.i64_in _ (by omega)]; omega
                      have u1n : (A2 : Int) + (j : Int) = (s : Int) := by omega
                      have hsb : s ≤ 16 := by omega
                      have hsw : IntKind.i64.wrap (s : Int) = (s : Int) := IntWalk.i64_in _ (by omega)
                      have hw8 : IntKind.u8.wrap (s : Int) = (s : Int) := IntWalk.u8_in _ (by omega)
                      clear hpl2 hr8
                      go_wp2_with fail
                      refine (sg_body HS8.out (by omega) j hjn (s : Int) (by omega)).mono ?_
                      rintro e w9 ⟨ab, cb, rfl, hrd, hs9, hm9⟩
                      have HS9 := Lib.hid hs9
                      have HM9 := Lib.hid (HM8.out.of2 hm9)
                      clear f0
                      have f0 := hm9.cell HF0.out (fun e => e)
                      clear hs9 hm9 HS8
                      go_wp2_with fail
                      have HS : Hid (Ev (Mod (fun _ => False) w9) w9) := Lib.hid (Ev.mod w9)
                      replace HS := Lib.hid ((Ev.rd (HRW.out.keep HM9.out (fun _ _ e => e))).and HS.out)
                      replace HS := Lib.hid ((Ev.rd hrd).and HS.out)
                      replace HS := Lib.hid ((Ev.cell f0).and HS.out)
                      clear f0 hrd
                      obtain ⟨Y, hY⟩ : ∃ x, strOf [(s : Int)] = x := ⟨_, rfl⟩
                      have HY := Lib.hid hY
                      clear hY
                      have HSd := Lib.hid HS.out.drew
                      refine wp_region_inv3 (act := ?actsa3_r31_0) (Mod (fun _ => False)) (fun i => (sa3_r31_0_F s j fb fo cb c1 A2 n2 ab a1 Y).getD i (fun _ _ => True)) (fun i => sa3_r31_0_D.getD i []) (by kernel_rfl) (by kernel_rfl) (by kernel_rfl) (by kernel_rfl) (fun _ => Mod.refl _ _)
                        (fun _ _ _ h k => h.trans k (fun _ _ e => e) (fun _ _ e => e)) ?hactsa3_r31_0 (stable_list ?_) ?_ ?_
                      case hactsa3_r31_0 => intro vs; simp only [putAll, Nat.zero_add, Nat.reduceAdd, Act.put, List.setIfInBounds_toArray, List.set_cons_succ, List.set_cons_zero]; exact rfl
                      · unfold sa3_r31_0_F
                        exact stable_cons (stable_val _) <| stable_cons (stable_val _) <| stable_cons (stable_val _) <| stable_cons (stable_val _) <| stable_cons (stable_val _) <| stable_cons (stable_val _) <| stable_cons (stable_val _) <| stable_cons (stable_val _) <| stable_cons (stable_val _) <| stable_cons (stable_val _) <| stable_cons (stable_val _) <| stable_cons (stable_val _) <| stable_cons (stable_val _) <| stable_cons (stable_val _) <| stable_cons (stable_val _) <| stable_cons (stable_val _) <| stable_cons (stable_val _) <| stable_cons (stable_val _) <| stable_cons (stable_val _) <| stable_cons (stable_val _) <| stable_cons (LitT.st) <| stable_cons (stable_val _) <| stable_cons (stable_val _) <| stable_cons (stable_val _) <| stable_nil
                      · refine opsOkA_cons ?_ ?_
                        · intro K vs W hR hD hK
                          clear hD
                          try dsimp only at hK ⊢
                          simp only [Act.put, List.setIfInBounds_toArray, List.set_cons_succ, List.set_cons_zero] at hK
                          go_wp2
                          exact hK _ _ rfl (Mod.refl _ _)
                        refine opsOkA_cons ?_ ?_
                        · intro K vs W hR hD hK
                          clear hD
                          try dsimp only at hK ⊢
                          simp only [Act.put, List.setIfInBounds_toArray, List.set_cons_succ, List.set_cons_zero] at hK
                          go_wp2
                          exact hK _ _ rfl (Mod.refl _ _)
                        refine opsOkA_cons ?_ ?_
                        · intro K vs W hR hD hK
                          have dq0 : vs 0 = .slice a1 n2 c1 := hD 0 (by decide)
                          have dq1 : vs 1 = .int .i64 (j : Int) := hD 1 (by decide)
                          clear hD
                          try dsimp only at hK ⊢
                          simp only [Act.put, List.setIfInBounds_toArray, List.set_cons_succ, List.set_cons_zero] at hK
                          generalize vs 0 = vq0 at hK dq0 ⊢
                          subst vq0
                          generalize vs 1 = vq1 at hK dq1 ⊢
                          subst vq1
                          have hix := HIX2.out
                          go_wp2_with fail
                          exact hK _ _ rfl (Mod.refl _ _)
                        refine opsOkA_cons ?_ ?_
                        · intro K vs W hR hD hK
                          have dq2 : vs 2 = .pointer (some ⟨fb, fo, none⟩) := hD 2 (by decide)
                          clear hD
                          try dsimp only at hK ⊢
                          simp only [Act.put, List.setIfInBounds_toArray, List.set_cons_succ, List.set_cons_zero] at hK
                          generalize vs 2 = vq2 at hK dq2 ⊢
                          subst vq2
                          have hc := (HSd.out.at (hR)).1
                          go_wp2
                          exact hK _ _ rfl (Mod.refl _ _)
                        refine opsOkA_cons ?_ ?_
                        · intro K vs W hR hD hK
                          clear hD
                          try dsimp only at hK ⊢
                          simp only [Act.put, List.setIfInBounds_toArray, List.set_cons_succ, List.set_cons_zero] at hK
                          go_wp2
                          exact hK _ _ rfl (Mod.refl _ _)
                        refine opsOkA_cons ?_ ?_
                        · intro K vs W hR hD hK
                          clear hD
                          try dsimp only at hK ⊢
                          simp only [Act.put, List.setIfInBounds_toArray, List.set_cons_succ, List.set_cons_zero] at hK
                          go_wp2
                          exact hK _ _ rfl (Mod.refl _ _)
                        refine opsOkA_cons ?_ ?_
                        · intro K vs W hR hD hK
                          have dq4 : vs 4 = .int .i64 (A2 : Int) := hD 4 (by decide)
                          have dq5 : vs 5 = .int .i64 (j : Int) := hD 5 (by decide)
                          clear hD
                          try dsimp only at hK ⊢
                          simp only [Act.put, List.setIfInBounds_toArray, List.set_cons_succ, List.set_cons_zero] at hK
                          generalize vs 4 = vq4 at hK dq4 ⊢
                          subst vq4
                          generalize vs 5 = vq5 at hK dq5 ⊢
                          subst vq5
                          go_wp2
                          exact hK _ _ rfl (Mod.refl _ _)
                        refine opsOkA_cons ?_ ?_
                        · intro K vs W hR hD hK
                          have dq3 : vs 3 = .int .i64 (s : Int) := hD 3 (by decide)
                          have dq6 : vs 6 = .int .i64 (s : Int) := hD 6 (by decide)
                          clear hD
                          try dsimp only at hK ⊢
                          simp only [Act.put, List.setIfInBounds_toArray, List.set_cons_succ, List.set_cons_zero] at hK
                          generalize vs 3 = vq3 at hK dq3 ⊢
                          subst vq3
                          generalize vs 6 = vq6 at hK dq6 ⊢
                          subst vq6
                          go_wp2
                          exact hK _ _ rfl (Mod.refl _ _)
                        refine opsOkA_cons ?_ ?_
                        · intro K vs W hR hD hK
                          have dq7 : vs 7 = .bool false := hD 7 (by decide)
                          clear hD
                          try dsimp only at hK ⊢
                          simp only [Act.put, List.setIfInBounds_toArray, List.set_cons_succ, List.set_cons_zero] at hK
                          generalize vs 7 = vq7 at hK dq7 ⊢
                          subst vq7
                          go_wp2
                          exact hK _ _ rfl (Mod.refl _ _)
                        refine opsOkA_cons ?_ ?_
                        · intro K vs W hR hD hK
                          have dq8 : vs 8 = .bool false := hD 8 (by decide)
                          clear hD
                          try dsimp only at hK ⊢
                          simp only [Act.put, List.setIfInBounds_toArray, List.set_cons_succ, List.set_cons_zero] at hK
                          generalize vs 8 = vq8 at hK dq8 ⊢
                          subst vq8
                          go_wp2
                          exact hK _ _ rfl (Mod.refl _ _)
                        refine opsOkA_cons ?_ ?_
                        · intro K vs W hR hD hK
                          have dq8 : vs 8 = .bool false := hD 8 (by decide)
                          have dq9 : vs 9 = .bool true := hD 9 (by decide)
                          clear hD
                          try dsimp only at hK ⊢
                          simp only [Act.put, List.setIfInBounds_toArray, List.set_cons_succ, List.set_cons_zero] at hK
                          generalize vs 8 = vq8 at hK dq8 ⊢
                          subst vq8
                          generalize vs 9 = vq9 at hK dq9 ⊢
                          subst vq9
                          go_wp2
                          exact hK _ _ rfl (Mod.refl _ _)
                        refine opsOkA_cons ?_ ?_
                        · intro K vs W hR hD hK
                          have dq8 : vs 8 = .bool false := hD 8 (by decide)
                          have dq10 : vs 10 = .bool false := hD 10 (by decide)
                          clear hD
                          try dsimp only at hK ⊢
                          simp only [Act.put, List.setIfInBounds_toArray, List.set_cons_succ, List.set_cons_zero] at hK
                          generalize vs 8 = vq8 at hK dq8 ⊢
                          subst vq8
                          generalize vs 10 = vq10 at hK dq10 ⊢
                          subst vq10
                          go_wp2
                          exact hK _ _ rfl (Mod.refl _ _)
                        refine opsOkA_cons ?_ ?_
                        · intro K vs W hR hD hK
                          have dq11 : vs 11 = .bool false := hD 11 (by decide)
                          clear hD
                          try dsimp only at hK ⊢
                          simp only [Act.put, List.setIfInBounds_toArray, List.set_cons_succ, List.set_cons_zero] at hK
                          generalize vs 11 = vq11 at hK dq11 ⊢
                          subst vq11
                          go_wp2
                          exact hK _ _ rfl (Mod.refl _ _)
                        refine opsOkA_cons ?_ ?_
                        · intro K vs W hR hD hK
                          have dq12 : vs 12 = .bool false := hD 12 (by decide)
                          clear hD
                          try dsimp only at hK ⊢
                          simp only [Act.put, List.setIfInBounds_toArray, List.set_cons_succ, List.set_cons_zero] at hK
                          generalize vs 12 = vq12 at hK dq12 ⊢
                          subst vq12
                          go_wp2
                          exact hK _ _ rfl (Mod.refl _ _)
                        refine opsOkA_cons ?_ ?_
                        · intro K vs W hR hD hK
                          have dq12 : vs 12 = .bool false := hD 12 (by decide)
                          have dq13 : vs 13 = .slice ab 1 cb := hD 13 (by decide)
                          clear hD
                          try dsimp only at hK ⊢
                          simp only [Act.put, List.setIfInBounds_toArray, List.set_cons_succ, List.set_cons_zero] at hK
                          generalize vs 12 = vq12 at hK dq12 ⊢
                          subst vq12
                          generalize vs 13 = vq13 at hK dq13 ⊢
                          subst vq13
                          have k1 := run_strS W 35 9 5 Try.underlying35 Try.underlying5 Try.underlying9 ((HSd.out.at (hR)).2.1)
                          rw [HY.out] at k1
                          go_wp2
                          exact hK _ _ rfl (Mod.refl _ _)
                        refine opsOkA_cons ?_ ?_
                        · intro K vs W hR hD hK
                          have dq12 : vs 12 = .bool false := hD 12 (by decide)
                          clear hD
                          try dsimp only at hK ⊢
                          simp only [Act.put, List.setIfInBounds_toArray, List.set_cons_succ, List.set_cons_zero] at hK
                          generalize vs 12 = vq12 at hK dq12 ⊢
                          subst vq12
                          go_wp2
                          exact hK _ _ rfl (Mod.refl _ _)
                        refine opsOkA_cons ?_ ?_
                        · intro K vs W hR hD hK
                          have dq12 : vs 12 = .bool false := hD 12 (by decide)
                          clear hD
                          try dsimp only at hK ⊢
                          simp only [Act.put, List.setIfInBounds_toArray, List.set_cons_succ, List.set_cons_zero] at hK
                          generalize vs 12 = vq12 at hK dq12 ⊢
                          subst vq12
                          go_wp2
                          exact hK _ _ rfl (Mod.refl _ _)
                        refine opsOkA_cons ?_ ?_
                        · intro K vs W hR hD hK
                          have dq12 : vs 12 = .bool false := hD 12 (by decide)
                          have dq15 : vs 15 = .slice a1 n2 c1 := hD 15 (by decide)
                          have dq16 : vs 16 = .int .i64 (j : Int) := hD 16 (by decide)
                          clear hD
                          try dsimp only at hK ⊢
                          simp only [Act.put, List.setIfInBounds_toArray, List.set_cons_succ, List.set_cons_zero] at hK
                          generalize vs 12 = vq12 at hK dq12 ⊢
                          subst vq12
                          generalize vs 15 = vq15 at hK dq15 ⊢
                          subst vq15
                          generalize vs 16 = vq16 at hK dq16 ⊢
                          subst vq16
                          have hix := HIX2.out
                          go_wp2_with fail
                          exact hK _ _ rfl (Mod.refl _ _)
                        refine opsOkA_cons ?_ ?_
                        · intro K vs W hR hD hK
                          have dq12 : vs 12 = .bool false := hD 12 (by decide)
                          have dq17 : vs 17 = .pointer (some ⟨fb, fo, none⟩) := hD 17 (by decide)
                          clear hD
                          try dsimp only at hK ⊢
                          simp only [Act.put, List.setIfInBounds_toArray, List.set_cons_succ, List.set_cons_zero] at hK
                          generalize vs 12 = vq12 at hK dq12 ⊢
                          subst vq12
                          generalize vs 17 = vq17 at hK dq17 ⊢
                          subst vq17
                          have hc := (HSd.out.at (hR)).1
                          go_wp2
                          exact hK _ _ rfl (Mod.refl _ _)
                        refine opsOkA_cons ?_ ?_
                        · intro K vs W hR hD hK
                          have dq12 : vs 12 = .bool false := hD 12 (by decide)
                          have dq18 : vs 18 = .int .i64 (s : Int) := hD 18 (by decide)
                          clear hD
                          try dsimp only at hK ⊢
                          simp only [Act.put, List.setIfInBounds_toArray, List.set_cons_succ, List.set_cons_zero] at hK
                          generalize vs 12 = vq12 at hK dq12 ⊢
                          subst vq12
                          generalize vs 18 = vq18 at hK dq18 ⊢
                          subst vq18
                          go_wp2
                          exact hK _ _ rfl (Mod.refl _ _)
                        refine opsOkA_cons ?_ ?_
                        · intro K vs W hR hD hK
                          have dq12 : vs 12 = .bool false := hD 12 (by decide)
                          have dq19 : vs 19 = .int .u8 (s : Int) := hD 19 (by decide)
                          clear hD
                          try dsimp only at hK ⊢
                          simp only [Act.put, List.setIfInBounds_toArray, List.set_cons_succ, List.set_cons_zero] at hK
                          generalize vs 12 = vq12 at hK dq12 ⊢
                          subst vq12
                          generalize vs 19 = vq19 at hK dq19 ⊢
                          subst vq19
                          go_wp2
                          exact hK _ _ ⟨_, rfl, by exact Rd.litN _ 1 _ _ _ 1 rfl rfl (by decide)⟩ (Mod.alloc _ _ _)
                        refine opsOkA_cons ?_ ?_
                        · intro K vs W hR hD hK
                          have dq12 : vs 12 = .bool false := hD 12 (by decide)
                          have dq20 : (LitT 1 [.int .u8 (s : Int)]) (vs 20) W := hD 20 (by decide)
                          clear hD
                          try dsimp only at hK ⊢
                          simp only [Act.put, List.setIfInBounds_toArray, List.set_cons_succ, List.set_cons_zero] at hK
                          generalize vs 12 = vq12 at hK dq12 ⊢
                          subst vq12
                          generalize vs 20 = vq20 at hK dq20 ⊢
                          obtain ⟨p20, rfl, hn20⟩ := dq20
                          have k1 := run_strS W 35 9 5 Try.underlying35 Try.underlying5 Try.underlying9 (show Rd W 1 _ 1 ([(s : Int)].map (Value.int .u8)) from hn20)
                          rw [HY.out] at k1
                          go_wp2
                          exact hK _ _ rfl (Mod.refl _ _)
                        refine opsOkA_cons ?_ ?_
                        · intro K vs W hR hD hK
                          have dq12 : vs 12 = .bool false := hD 12 (by decide)
                          have dq14 : vs 14 = .string Y := hD 14 (by decide)
                          have dq21 : vs 21 = .string Y := hD 21 (by decide)
                          clear hD
                          try dsimp only at hK ⊢
                          simp only [Act.put, List.setIfInBounds_toArray, List.set_cons_succ, List.set_cons_zero] at hK
                          generalize vs 12 = vq12 at hK dq12 ⊢
                          subst vq12
                          generalize vs 14 = vq14 at hK dq14 ⊢
                          subst vq14
                          generalize vs 21 = vq21 at hK dq21 ⊢
                          subst vq21
                          go_wp2
                          exact hK _ _ rfl (Mod.refl _ _)
                        refine opsOkA_cons ?_ ?_
                        · intro K vs W hR hD hK
                          have dq12 : vs 12 = .bool false := hD 12 (by decide)
                          have dq22 : vs 22 = .bool false := hD 22 (by decide)
                          clear hD
                          try dsimp only at hK ⊢
                          simp only [Act.put, List.setIfInBounds_toArray, List.set_cons_succ, List.set_cons_zero] at hK
                          generalize vs 12 = vq12 at hK dq12 ⊢
                          subst vq12
                          generalize vs 22 = vq22 at hK dq22 ⊢
                          subst vq22
                          go_wp2
                          exact hK _ _ rfl (Mod.refl _ _)
                        exact opsOkA_nil
                      · intro vs wq1 hR hF
                        have dq23 : vs 23 = .bool false := hF 23 (by decide)
                        clear hF
                        try dsimp only
                        generalize vs 23 = vq23 at dq23 ⊢
                        subst dq23
                        replace HS := Lib.hid (HSd.out.step hR)
                        clear HSd hR
                        go_wp2_with fail
                        go_roundw
                        case rel => exact ⟨j + 1, hjn, by go_num, HS9.out.keep (HS.out.now).2.2.2, HM9.out.of2 (HS.out.now).2.2.2⟩
                        case measure => simp [intOf]; omega
            case neg =>
              obtain rfl : A2 = A := by omega
              clear hmax
              have v1 : decide ((A2 : Int) < (rr : Int)) = false := by simp; omega
              have v3 : decide ((rr : Int) ≤ (A2 : Int)) = true := by simp; omega
              go_wp2_with fail
              refine HACK.out.mono ?_
              rintro e w6 ⟨⟨r6, rfl⟩, hs⟩
              have HS6 := Lib.hid hs
              clear hs HS5 HACK hmx hk3 hcmp v1 v3
              by_cases hgo : n2 = 0 ∨ C < T
              case neg =>
                have hov := sg_over HS6.out (by omega) (by omega) (by omega) (by omega)
                have HOV := Lib.hid hov
                clear hov
                have x1 : decide ((A2 : Int) < (i : Int)) = true := by simp; omega
                have x1n : decide (A2 < i) = true := by simp; omega
                have x2 : decide ((T : Int) < (K : Int)) = true := by simp; omega
                have x2n : decide (T < K) = true := by simp; omega
                go_wp2_with fail
                refine HOV.out.mono ?_
                rintro e w7 ⟨rfl, hs⟩
                have HS7 := Lib.hid hs
                clear hs
                go_wp2_with (first
                  | (go_at_call 22; refine (s1_room HS7.out 0 rfl).mono ?_; rintro e w9 ⟨rfl, hs, _⟩; have HS9 := Lib.hid hs; clear hs)
                  | (go_at_call 7; refine (awake25_any _).mono ?_; rintro e w8 ⟨rfl, hm8⟩; have HM8 := Lib.hid hm8; clear hm8))
                go_ret
                exact ⟨rfl, HS9.out.mod.of2 HM8.out⟩
              case pos =>
                have hov := sg_again HS6.out (by omega) (by omega) hgo
                have HOV := Lib.hid hov
                clear hov
                have x2 : (decide ((A2 : Int) < (i : Int)) = false ∧ decide (A2 < i) = false) ∨ (decide ((A2 : Int) < (i : Int)) = true ∧ decide (A2 < i) = true ∧ decide ((T : Int) < (K : Int)) = false ∧ decide (T < K) = false) := by
                  by_cases q : A2 < i
                  · exact .inr ⟨by simp; omega, by simp; omega, by simp; omega, by simp; omega⟩
                  · exact .inl ⟨by simp; omega, by simp; omega⟩
                have HX2 := Lib.hid x2
                clear x2
                go_wp2_with fail
                refine HOV.out.mono ?_
                rintro e w7 ⟨⟨a1, c1, rfl, hrow⟩, hs⟩
                have HS7 := Lib.hid hs
                have HRW := Lib.hid hrow
                clear hs hrow
                have d1 : IntKind.i64.wrap ((i : Int) - (A2 : Int)) = (n2 : Int) := by rw [IntWalk.i64_in _ (by omega)]; omega
                have d1n : (i : Int) - (A2 : Int) = (n2 : Int) := by omega
                rcases HX2.out with ⟨x2, x2n⟩ | ⟨x2, x2n, x3, x3n⟩
                · skip
                  go_wp2_with fail
                  go_loopw [18] (fun jv wr => ∃ j : Nat, j ≤ n2 ∧ jv = .int .i64 (j : Int) ∧ SG w wr p tp A2 n2 T ((D : Int) + 4) (C + 1) ∧ Mod (fun _ => False) w7 wr) (fun jv _ => n2 - (intOf jv).toNat)
                  case atStart => exact ⟨0, Nat.zero_le _, rfl, HS7.out, Mod.refl _ _⟩
                  case round =>
                    obtain ⟨j, hj, rfl, hS, hm⟩ := hrel
                    obtain ⟨wo3, hwo3⟩ : ∃ x : World, x = wr := ⟨_, rfl⟩
                    subst hwo3
                    have HS8 := Lib.hid hS
                    have HM8 := Lib.hid hm
                    clear hS hm HS7
                    by_cases hjn : j < n2
                    case neg =>
                      obtain rfl : j = n2 := by omega
                      have y2 : decide ((j : Int) < (j : Int)) = false := by simp
                      have y2n : decide (j < j) = false := by simp
                      go_wp2_with fail
                      go_roundw
                      case rel => exact ⟨A2, j, K + 1, C + 1, by omega, by omega, by omega, fun h => by omega, by go_num, by go_num, (by have h := HS8.out; rw [show (D : Int) + 4 = 4 * ((K + 1 : Nat) : Int) by omega] at h; exact h)⟩
                      case measure => simp [intOf]; omega
                    case pos =>
                      have y2 : decide ((j : Int) < (n2 : Int)) = true := by simp; omega
                      have y2n : decide (j < n2) = true := by simp; omega
                      have hjl : j < (idsL A2 n2).length := by rw [idsL_len]; exact hjn
                      have hr8 := HRW.out.keep HM8.out (fun _ _ e => e)
                      obtain ⟨fb, fo, hpl2, f0⟩ := rd1 hr8 j hjl
                      have hix2 := fun wx => run_indexS (P := Try.prog) wx 44 3 iI 1 Try.underlying44 hiI hsI a1 n2 c1 j hjn (hr8.some_ (by omega))
                      rw [hpl2] at hix2
                      rw [idsL_at] at f0
                      obtain ⟨s, hs⟩ : ∃ s, A2 + j = s := ⟨_, rfl⟩
                      rw [hs] at f0
                      replace hs : A2 + j ≤ s ∧ s ≤ A2 + j := ⟨Nat.le_of_eq hs, Nat.le_of_eq hs.symm⟩
                      have HF0 := Lib.hid f0
                      have HIX2 := Lib.hid hix2
                      have u1 : IntKind.i64.wrap ((A2 : Int) + (j : Int)) = (s : Int) := by rw [IntWalk.i64_in _ (by omega)]; omega
                      have u1n : (A2 : Int) + (j : Int) = (s : Int) := by omega
                      have hsb : s ≤ 16 := by omega
                      have hsw : IntKind.i64.wrap (s : Int) = (s : Int) := IntWalk.i64_in _ (by omega)
                      have hw8 : IntKind.u8.wrap (s : Int) = (s : Int) := IntWalk.u8_in _ (by omega)
                      clear hpl2 hr8
                      go_wp2_with fail
                      refine (sg_body HS8.out (by omega) j hjn (s : Int) (by omega)).mono ?_
                      rintro e w9 ⟨ab, cb, rfl, hrd, hs9, hm9⟩
                      have HS9 := Lib.hid hs9
                      have HM9 := Lib.hid (HM8.out.of2 hm9)
                      clear f0
                      have f0 := hm9.cell HF0.out (fun e => e)
                      clear hs9 hm9 HS8
                      go_wp2_with fail
                      have HS : Hid (Ev (Mod (fun _ => False) w9) w9) := Lib.hid (Ev.mod w9)
                      replace HS := Lib.hid ((Ev.rd (HRW.out.keep HM9.out (fun _ _ e => e))).and HS.out)
                      replace HS := Lib.hid ((Ev.rd hrd).and HS.out)
                      replace HS := Lib.hid ((Ev.cell f0).and HS.out)
                      clear f0 hrd
                      obtain ⟨Y, hY⟩ : ∃ x, strOf [(s : Int)] = x := ⟨_, rfl⟩
                      have HY := Lib.hid hY
                      clear hY
                      have HSd := Lib.hid HS.out.drew
                      refine wp_region_inv3 (act := ?actsa4_r31_0) (Mod (fun _ => False)) (fun i => (sa4_r31_0_F s j fb fo cb c1 A2 n2 ab a1 Y).getD i (fun _ _ => True)) (fun i => sa4_r31_0_D.getD i []) (by kernel_rfl) (by kernel_rfl) (by kernel_rfl) (by kernel_rfl) (fun _ => Mod.refl _ _)
                        (fun _ _ _ h k => h.trans k (fun _ _ e => e) (fun _ _ e => e)) ?hactsa4_r31_0 (stable_list ?_) ?_ ?_
                      case hactsa4_r31_0 => intro vs; simp only [putAll, Nat.zero_add, Nat.reduceAdd, Act.put, List.setIfInBounds_toArray, List.set_cons_succ, List.set_cons_zero]; exact rfl
                      · unfold sa4_r31_0_F
                        exact stable_cons (stable_val _) <| stable_cons (stable_val _) <| stable_cons (stable_val _) <| stable_cons (stable_val _) <| stable_cons (stable_val _) <| stable_cons (stable_val _) <| stable_cons (stable_val _) <| stable_cons (stable_val _) <| stable_cons (stable_val _) <| stable_cons (stable_val _) <| stable_cons (stable_val _) <| stable_cons (stable_val _) <| stable_cons (stable_val _) <| stable_cons (stable_val _) <| stable_cons (stable_val _) <| stable_cons (stable_val _) <| stable_cons (stable_val _) <| stable_cons (stable_val _) <| stable_cons (stable_val _) <| stable_cons (stable_val _) <| stable_cons (LitT.st) <| stable_cons (stable_val _) <| stable_cons (stable_val _) <| stable_cons (stable_val _) <| stable_nil
                      · refine opsOkA_cons ?_ ?_
                        · intro K vs W hR hD hK
                          clear hD
                          try dsimp only at hK ⊢
                          simp only [Act.put, List.setIfInBounds_toArray, List.set_cons_succ, List.set_cons_zero] at hK
                          go_wp2
                          exact hK _ _ rfl (Mod.refl _ _)
                        refine opsOkA_cons ?_ ?_
                        · intro K vs W hR hD hK
                          clear hD
                          try dsimp only at hK ⊢
                          simp only [Act.put, List.setIfInBounds_toArray, List.set_cons_succ, List.set_cons_zero] at hK
                          go_wp2
                          exact hK _ _ rfl (Mod.refl _ _)
                        refine opsOkA_cons ?_ ?_
                        · intro K vs W hR hD hK
                          have dq0 : vs 0 = .slice a1 n2 c1 := hD 0 (by decide)
                          have dq1 : vs 1 = .int .i64 (j : Int) := hD 1 (by decide)
                          clear hD
                          try dsimp only at hK ⊢
                          simp only [Act.put, List.setIfInBounds_toArray, List.set_cons_succ, List.set_cons_zero] at hK
                          generalize vs 0 = vq0 at hK dq0 ⊢
                          subst vq0
                          generalize vs 1 = vq1 at hK dq1 ⊢
                          subst vq1
                          have hix := HIX2.out
                          go_wp2_with fail
                          exact hK _ _ rfl (Mod.refl _ _)
                        refine opsOkA_cons ?_ ?_
                        · intro K vs W hR hD hK
                          have dq2 : vs 2 = .pointer (some ⟨fb, fo, none⟩) := hD 2 (by decide)
                          clear hD
                          try dsimp only at hK ⊢
                          simp only [Act.put, List.setIfInBounds_toArray, List.set_cons_succ, List.set_cons_zero] at hK
                          generalize vs 2 = vq2 at hK dq2 ⊢
                          subst vq2
                          have hc := (HSd.out.at (hR)).1
                          go_wp2
                          exact hK _ _ rfl (Mod.refl _ _)
                        refine opsOkA_cons ?_ ?_
                        · intro K vs W hR hD hK
                          clear hD
                          try dsimp only at hK ⊢
                          simp only [Act.put, List.setIfInBounds_toArray, List.set_cons_succ, List.set_cons_zero] at hK
                          go_wp2
                          exact hK _ _ rfl (Mod.refl _ _)
                        refine opsOkA_cons ?_ ?_
                        · intro K vs W hR hD hK
                          clear hD
                          try dsimp only at hK ⊢
                          simp only [Act.put, List.setIfInBounds_toArray, List.set_cons_succ, List.set_cons_zero] at hK
                          go_wp2
                          exact hK _ _ rfl (Mod.refl _ _)
                        refine opsOkA_cons ?_ ?_
                        · intro K vs W hR hD hK
                          have dq4 : vs 4 = .int .i64 (A2 : Int) := hD 4 (by decide)
                          have dq5 : vs 5 = .int .i64 (j : Int) := hD 5 (by decide)
                          clear hD
                          try dsimp only at hK ⊢
                          simp only [Act.put, List.setIfInBounds_toArray, List.set_cons_succ, List.set_cons_zero] at hK
                          generalize vs 4 = vq4 at hK dq4 ⊢
                          subst vq4
                          generalize vs 5 = vq5 at hK dq5 ⊢
                          subst vq5
                          go_wp2
                          exact hK _ _ rfl (Mod.refl _ _)
                        refine opsOkA_cons ?_ ?_
                        · intro K vs W hR hD hK
                          have dq3 : vs 3 = .int .i64 (s : Int) := hD 3 (by decide)
                          have dq6 : vs 6 = .int .i64 (s : Int) := hD 6 (by decide)
                          clear hD
                          try dsimp only at hK ⊢
                          simp only [Act.put, List.setIfInBounds_toArray, List.set_cons_succ, List.set_cons_zero] at hK
                          generalize vs 3 = vq3 at hK dq3 ⊢
                          subst vq3
                          generalize vs 6 = vq6 at hK dq6 ⊢
                          subst vq6
                          go_wp2
                          exact hK _ _ rfl (Mod.refl _ _)
                        refine opsOkA_cons ?_ ?_
                        · intro K vs W hR hD hK
                          have dq7 : vs 7 = .bool false := hD 7 (by decide)
                          clear hD
                          try dsimp only at hK ⊢
                          simp only [Act.put, List.setIfInBounds_toArray, List.set_cons_succ, List.set_cons_zero] at hK
                          generalize vs 7 = vq7 at hK dq7 ⊢
                          subst vq7
                          go_wp2
                          exact hK _ _ rfl (Mod.refl _ _)
                        refine opsOkA_cons ?_ ?_
                        · intro K vs W hR hD hK
                          have dq8 : vs 8 = .bool false := hD 8 (by decide)
                          clear hD
                          try dsimp only at hK ⊢
                          simp only [Act.put, List.setIfInBounds_toArray, List.set_cons_succ, List.set_cons_zero] at hK
                          generalize vs 8 = vq8 at hK dq8 ⊢
                          subst vq8
                          go_wp2
                          exact hK _ _ rfl (Mod.refl _ _)
                        refine opsOkA_cons ?_ ?_
                        · intro K vs W hR hD hK
                          have dq8 : vs 8 = .bool false := hD 8 (by decide)
                          have dq9 : vs 9 = .bool true := hD 9 (by decide)
                          clear hD
                          try dsimp only at hK ⊢
                          simp only [Act.put, List.setIfInBounds_toArray, List.set_cons_succ, List.set_cons_zero] at hK
                          generalize vs 8 = vq8 at hK dq8 ⊢
                          subst vq8
                          generalize vs 9 = vq9 at hK dq9 ⊢
                          subst vq9
                          go_wp2
                          exact hK _ _ rfl (Mod.refl _ _)
                        refine opsOkA_cons ?_ ?_
                        · intro K vs W hR hD hK
                          have dq8 : vs 8 = .bool false := hD 8 (by decide)
                          have dq10 : vs 10 = .bool false := hD 10 (by decide)
                          clear hD
                          try dsimp only at hK ⊢
                          simp only [Act.put, List.setIfInBounds_toArray, List.set_cons_succ, List.set_cons_zero] at hK
                          generalize vs 8 = vq8 at hK dq8 ⊢
                          subst vq8
                          generalize vs 10 = vq10 at hK dq10 ⊢
                          subst vq10
                          go_wp2
                          exact hK _ _ rfl (Mod.refl _ _)
                        refine opsOkA_cons ?_ ?_
                        · intro K vs W hR hD hK
                          have dq11 : vs 11 = .bool false := hD 11 (by decide)
                          clear hD
                          try dsimp only at hK ⊢
                          simp only [Act.put, List.setIfInBounds_toArray, List.set_cons_succ, List.set_cons_zero] at hK
                          generalize vs 11 = vq11 at hK dq11 ⊢
                          subst vq11
                          go_wp2
                          exact hK _ _ rfl (Mod.refl _ _)
                        refine opsOkA_cons ?_ ?_
                        · intro K vs W hR hD hK
                          have dq12 : vs 12 = .bool false := hD 12 (by decide)
                          clear hD
                          try dsimp only at hK ⊢
                          simp only [Act.put, List.setIfInBounds_toArray, List.set_cons_succ, List.set_cons_zero] at hK
                          generalize vs 12 = vq12 at hK dq12 ⊢
                          subst vq12
                          go_wp2
                          exact hK _ _ rfl (Mod.refl _ _)
                        refine opsOkA_cons ?_ ?_
                        · intro K vs W hR hD hK
                          have dq12 : vs 12 = .bool false := hD 12 (by decide)
                          have dq13 : vs 13 = .slice ab 1 cb := hD 13 (by decide)
                          clear hD
                          try dsimp only at hK ⊢
                          simp only [Act.put, List.setIfInBounds_toArray, List.set_cons_succ, List.set_cons_zero] at hK
                          generalize vs 12 = vq12 at hK dq12 ⊢
                          subst vq12
                          generalize vs 13 = vq13 at hK dq13 ⊢
                          subst vq13
                          have k1 := run_strS W 35 9 5 Try.underlying35 Try.underlying5 Try.underlying9 ((HSd.out.at (hR)).2.1)
                          rw [HY.out] at k1
                          go_wp2
                          exact hK _ _ rfl (Mod.refl _ _)
                        refine opsOkA_cons ?_ ?_
                        · intro K vs W hR hD hK
                          have dq12 : vs 12 = .bool false := hD 12 (by decide)
                          clear hD
                          try dsimp only at hK ⊢
                          simp only [Act.put, List.setIfInBounds_toArray, List.set_cons_succ, List.set_cons_zero] at hK
                          generalize vs 12 = vq12 at hK dq12 ⊢
                          subst vq12
                          go_wp2
                          exact hK _ _ rfl (Mod.refl _ _)
                        refine opsOkA_cons ?_ ?_
                        · intro K vs W hR hD hK
                          have dq12 : vs 12 = .bool false := hD 12 (by decide)
                          clear hD
                          try dsimp only at hK ⊢
                          simp only [Act.put, List.setIfInBounds_toArray, List.set_cons_succ, List.set_cons_zero] at hK
                          generalize vs 12 = vq12 at hK dq12 ⊢
                          subst vq12
                          go_wp2
                          exact hK _ _ rfl (Mod.refl _ _)
                        refine opsOkA_cons ?_ ?_
                        · intro K vs W hR hD hK
                          have dq12 : vs 12 = .bool false := hD 12 (by decide)
                          have dq15 : vs 15 = .slice a1 n2 c1 := hD 15 (by decide)
                          have dq16 : vs 16 = .int .i64 (j : Int) := hD 16 (by decide)
                          clear hD
                          try dsimp only at hK ⊢
                          simp only [Act.put, List.setIfInBounds_toArray, List.set_cons_succ, List.set_cons_zero] at hK
                          generalize vs 12 = vq12 at hK dq12 ⊢
                          subst vq12
                          generalize vs 15 = vq15 at hK dq15 ⊢
                          subst vq15
                          generalize vs 16 = vq16 at hK dq16 ⊢
                          subst vq16
                          have hix := HIX2.out
                          go_wp2_with fail
                          exact hK _ _ rfl (Mod.refl _ _)
                        refine opsOkA_cons ?_ ?_
                        · intro K vs W hR hD hK
                          have dq12 : vs 12 = .bool false := hD 12 (by decide)
                          have dq17 : vs 17 = .pointer (some ⟨fb, fo, none⟩) := hD 17 (by decide)
                          clear hD
                          try dsimp only at hK ⊢
                          simp only [Act.put, List.setIfInBounds_toArray, List.set_cons_succ, List.set_cons_zero] at hK
                          generalize vs 12 = vq12 at hK dq12 ⊢
                          subst vq12
                          generalize vs 17 = vq17 at hK dq17 ⊢
                          subst vq17
                          have hc := (HSd.out.at (hR)).1
                          go_wp2
                          exact hK _ _ rfl (Mod.refl _ _)
                        refine opsOkA_cons ?_ ?_
                        · intro K vs W hR hD hK
                          have dq12 : vs 12 = .bool false := hD 12 (by decide)
                          have dq18 : vs 18 = .int .i64 (s : Int) := hD 18 (by decide)
                          clear hD
                          try dsimp only at hK ⊢
                          simp only [Act.put, List.setIfInBounds_toArray, List.set_cons_succ, List.set_cons_zero] at hK
                          generalize vs 12 = vq12 at hK dq12 ⊢
                          subst vq12
                          generalize vs 18 = vq18 at hK dq18 ⊢
                          subst vq18
                          go_wp2
                          exact hK _ _ rfl (Mod.refl _ _)
                        refine opsOkA_cons ?_ ?_
                        · intro K vs W hR hD hK
                          have dq12 : vs 12 = .bool false := hD 12 (by decide)
                          have dq19 : vs 19 = .int .u8 (s : Int) := hD 19 (by decide)
                          clear hD
                          try dsimp only at hK ⊢
                          simp only [Act.put, List.setIfInBounds_toArray, List.set_cons_succ, List.set_cons_zero] at hK
                          generalize vs 12 = vq12 at hK dq12 ⊢
                          subst vq12
                          generalize vs 19 = vq19 at hK dq19 ⊢
                          subst vq19
                          go_wp2
                          exact hK _ _ ⟨_, rfl, by exact Rd.litN _ 1 _ _ _ 1 rfl rfl (by decide)⟩ (Mod.alloc _ _ _)
                        refine opsOkA_cons ?_ ?_
                        · intro K vs W hR hD hK
                          have dq12 : vs 12 = .bool false := hD 12 (by decide)
                          have dq20 : (LitT 1 [.int .u8 (s : Int)]) (vs 20) W := hD 20 (by decide)
                          clear hD
                          try dsimp only at hK ⊢
                          simp only [Act.put, List.setIfInBounds_toArray, List.set_cons_succ, List.set_cons_zero] at hK
                          generalize vs 12 = vq12 at hK dq12 ⊢
                          subst vq12
                          generalize vs 20 = vq20 at hK dq20 ⊢
                          obtain ⟨p20, rfl, hn20⟩ := dq20
                          have k1 := run_strS W 35 9 5 Try.underlying35 Try.underlying5 Try.underlying9 (show Rd W 1 _ 1 ([(s : Int)].map (Value.int .u8)) from hn20)
                          rw [HY.out] at k1
                          go_wp2
                          exact hK _ _ rfl (Mod.refl _ _)
                        refine opsOkA_cons ?_ ?_
                        · intro K vs W hR hD hK
                          have dq12 : vs 12 = .bool false := hD 12 (by decide)
                          have dq14 : vs 14 = .string Y := hD 14 (by decide)
                          have dq21 : vs 21 = .string Y := hD 21 (by decide)
                          clear hD
                          try dsimp only at hK ⊢
                          simp only [Act.put, List.setIfInBounds_toArray, List.set_cons_succ, List.set_cons_zero] at hK
                          generalize vs 12 = vq12 at hK dq12 ⊢
                          subst vq12
                          generalize vs 14 = vq14 at hK dq14 ⊢
                          subst vq14
                          generalize vs 21 = vq21 at hK dq21 ⊢
                          subst vq21
                          go_wp2
                          exact hK _ _ rfl (Mod.refl _ _)
                        refine opsOkA_cons ?_ ?_
                        · intro K vs W hR hD hK
                          have dq12 : vs 12 = .bool false := hD 12 (by decide)
                          have dq22 : vs 22 = .bool false := hD 22 (by decide)
                          clear hD
                          try dsimp only at hK ⊢
                          simp only [Act.put, List.setIfInBounds_toArray, List.set_cons_succ, List.set_cons_zero] at hK
                          generalize vs 12 = vq12 at hK dq12 ⊢
                          subst vq12
                          generalize vs 22 = vq22 at hK dq22 ⊢
                          subst vq22
                          go_wp2
                          exact hK _ _ rfl (Mod.refl _ _)
                        exact opsOkA_nil
                      · intro vs wq1 hR hF
                        have dq23 : vs 23 = .bool false := hF 23 (by decide)
                        clear hF
                        try dsimp only
                        generalize vs 23 = vq23 at dq23 ⊢
                        subst dq23
                        replace HS := Lib.hid (HSd.out.step hR)
                        clear HSd hR
                        go_wp2_with fail
                        go_roundw
                        case rel => exact ⟨j + 1, hjn, by go_num, HS9.out.keep (HS.out.now).2.2.2, HM9.out.of2 (HS.out.now).2.2.2⟩
                        case measure => simp [intOf]; omega
                · skip
                  go_wp2_with fail
                  go_loopw [18] (fun jv wr => ∃ j : Nat, j ≤ n2 ∧ jv = .int .i64 (j : Int) ∧ SG w wr p tp A2 n2 T ((D : Int) + 4) (C + 1) ∧ Mod (fun _ => False) w7 wr) (fun jv _ => n2 - (intOf jv).toNat)
                  case atStart => exact ⟨0, Nat.zero_le _, rfl, HS7.out, Mod.refl _ _⟩
                  case round =>
                    obtain ⟨j, hj, rfl, hS, hm⟩ := hrel
                    obtain ⟨wo3, hwo3⟩ : ∃ x : World, x = wr := ⟨_, rfl⟩
                    subst hwo3
                    have HS8 := Lib.hid hS
                    have HM8 := Lib.hid hm
                    clear hS hm HS7
                    by_cases hjn : j < n2
                    case neg =>
                      obtain rfl : j = n2 := by omega
                      have y2 : decide ((j : Int) < (j : Int)) = false := by simp
                      have y2n : decide (j < j) = false := by simp
                      go_wp2_with fail
                      go_roundw
                      case rel => exact ⟨A2, j, K + 1, C + 1, by omega, by omega, by omega, fun h => by omega, by go_num, by go_num, (by have h := HS8.out; rw [show (D : Int) + 4 = 4 * ((K + 1 : Nat) : Int) by omega] at h; exact h)⟩
                      case measure => simp [intOf]; omega
                    case pos =>
                      have y2 : decide ((j : Int) < (n2 : Int)) = true := by simp; omega
                      have y2n : decide (j < n2) = true := by simp; omega
                      have hjl : j < (idsL A2 n2).length := by rw [idsL_len]; exact hjn
                      have hr8 := HRW.out.keep HM8.out (fun _ _ e => e)
                      obtain ⟨fb, fo, hpl2, f0⟩ := rd1 hr8 j hjl
                      have hix2 := fun wx => run_indexS (P := Try.prog) wx 44 3 iI 1 Try.underlying44 hiI hsI a1 n2 c1 j hjn (hr8.some_ (by omega))
                      rw [hpl2] at hix2
                      rw [idsL_at] at f0
                      obtain ⟨s, hs⟩ : ∃ s, A2 + j = s := ⟨_, rfl⟩
                      rw [hs] at f0
                      replace hs : A2 + j ≤ s ∧ s ≤ A2 + j := ⟨Nat.le_of_eq hs, Nat.le_of_eq hs.symm⟩
                      have HF0 := Lib.hid f0
                      have HIX2 := Lib.hid hix2
                      have u1 : IntKind.i64.wrap ((A2 : Int) + (j : Int)) = (s : Int) := by rw [IntWalk.i64_in _ (by omega)]; omega
                      have u1n : (A2 : Int) + (j : Int) = (s : Int) := by omega
                      have hsb : s ≤ 16 := by omega
                      have hsw : IntKind.i64.wrap (s : Int) = (s : Int) := IntWalk.i64_in _ (by omega)
                      have hw8 : IntKind.u8.wrap (s : Int) = (s : Int) := IntWalk.u8_in _ (by omega)
                      clear hpl2 hr8
                      go_wp2_with fail
                      refine (sg_body HS8.out (by omega) j hjn (s : Int) (by omega)).mono ?_
                      rintro e w9 ⟨ab, cb, rfl, hrd, hs9, hm9⟩
                      have HS9 := Lib.hid hs9
                      have HM9 := Lib.hid (HM8.out.of2 hm9)
                      clear f0
                      have f0 := hm9.cell HF0.out (fun e => e)
                      clear hs9 hm9 HS8
                      go_wp2_with fail
                      have HS : Hid (Ev (Mod (fun _ => False) w9) w9) := Lib.hid (Ev.mod w9)
                      replace HS := Lib.hid ((Ev.rd (HRW.out.keep HM9.out (fun _ _ e => e))).and HS.out)
                      replace HS := Lib.hid ((Ev.rd hrd).and HS.out)
                      replace HS := Lib.hid ((Ev.cell f0).and HS.out)
                      clear f0 hrd
                      obtain ⟨Y, hY⟩ : ∃ x, strOf [(s : Int)] = x := ⟨_, rfl⟩
                      have HY := Lib.hid hY
                      clear hY
                      have HSd := Lib.hid HS.out.drew
                      refine wp_region_inv3 (act := ?actsa5_r31_0) (Mod (fun _ => False)) (fun i => (sa5_r31_0_F s j fb fo cb c1 A2 n2 ab a1 Y).getD i (fun _ _ => True)) (fun i => sa5_r31_0_D.getD i []) (by kernel_rfl) (by kernel_rfl) (by kernel_rfl) (by kernel_rfl) (fun _ => Mod.refl _ _)
                        (fun _ _ _ h k => h.trans k (fun _ _ e => e) (fun _ _ e => e)) ?hactsa5_r31_0 (stable_list ?_) ?_ ?_
                      case hactsa5_r31_0 => intro vs; simp only [putAll, Nat.zero_add, Nat.reduceAdd, Act.put, List.setIfInBounds_toArray, List.set_cons_succ, List.set_cons_zero]; exact rfl
                      · unfold sa5_r31_0_F
                        exact stable_cons (stable_val _) <| stable_cons (stable_val _) <| stable_cons (stable_val _) <| stable_cons (stable_val _) <| stable_cons (stable_val _) <| stable_cons (stable_val _) <| stable_cons (stable_val _) <| stable_cons (stable_val _) <| stable_cons (stable_val _) <| stable_cons (stable_val _) <| stable_cons (stable_val _) <| stable_cons (stable_val _) <| stable_cons (stable_val _) <| stable_cons (stable_val _) <| stable_cons (stable_val _) <| stable_cons (stable_val _) <| stable_cons (stable_val _) <| stable_cons (stable_val _) <| stable_cons (stable_val _) <| stable_cons (stable_val _) <| stable_cons (LitT.st) <| stable_cons (stable_val _) <| stable_cons (stable_val _) <| stable_cons (stable_val _) <| stable_nil
                      · refine opsOkA_cons ?_ ?_
                        · intro K vs W hR hD hK
                          clear hD
                          try dsimp only at hK ⊢
                          simp only [Act.put, List.setIfInBounds_toArray, List.set_cons_succ, List.set_cons_zero] at hK
                          go_wp2
                          exact hK _ _ rfl (Mod.refl _ _)
                        refine opsOkA_cons ?_ ?_
                        · intro K vs W hR hD hK
                          clear hD
                          try dsimp only at hK ⊢
                          simp only [Act.put, List.setIfInBounds_toArray, List.set_cons_succ, List.set_cons_zero] at hK
                          go_wp2
                          exact hK _ _ rfl (Mod.refl _ _)
                        refine opsOkA_cons ?_ ?_
                        · intro K vs W hR hD hK
                          have dq0 : vs 0 = .slice a1 n2 c1 := hD 0 (by decide)
                          have dq1 : vs 1 = .int .i64 (j : Int) := hD 1 (by decide)
                          clear hD
                          try dsimp only at hK ⊢
                          simp only [Act.put, List.setIfInBounds_toArray, List.set_cons_succ, List.set_cons_zero] at hK
                          generalize vs 0 = vq0 at hK dq0 ⊢
                          subst vq0
                          generalize vs 1 = vq1 at hK dq1 ⊢
                          subst vq1
                          have hix := HIX2.out
                          go_wp2_with fail
                          exact hK _ _ rfl (Mod.refl _ _)
                        refine opsOkA_cons ?_ ?_
                        · intro K vs W hR hD hK
                          have dq2 : vs 2 = .pointer (some ⟨fb, fo, none⟩) := hD 2 (by decide)
                          clear hD
                          try dsimp only at hK ⊢
                          simp only [Act.put, List.setIfInBounds_toArray, List.set_cons_succ, List.set_cons_zero] at hK
                          generalize vs 2 = vq2 at hK dq2 ⊢
                          subst vq2
                          have hc := (HSd.out.at (hR)).1
                          go_wp2
                          exact hK _ _ rfl (Mod.refl _ _)
                        refine opsOkA_cons ?_ ?_
                        · intro K vs W hR hD hK
                          clear hD
                          try dsimp only at hK ⊢
                          simp only [Act.put, List.setIfInBounds_toArray, List.set_cons_succ, List.set_cons_zero] at hK
                          go_wp2
                          exact hK _ _ rfl (Mod.refl _ _)
                        refine opsOkA_cons ?_ ?_
                        · intro K vs W hR hD hK
                          clear hD
                          try dsimp only at hK ⊢
                          simp only [Act.put, List.setIfInBounds_toArray, List.set_cons_succ, List.set_cons_zero] at hK
                          go_wp2
                          exact hK _ _ rfl (Mod.refl _ _)
                        refine opsOkA_cons ?_ ?_
                        · intro K vs W hR hD hK
                          have dq4 : vs 4 = .int .i64 (A2 : Int) := hD 4 (by decide)
                          have dq5 : vs 5 = .int .i64 (j : Int) := hD 5 (by decide)
                          clear hD
                          try dsimp only at hK ⊢
                          simp only [Act.put, List.setIfInBounds_toArray, List.set_cons_succ, List.set_cons_zero] at hK
                          generalize vs 4 = vq4 at hK dq4 ⊢
                          subst vq4
                          generalize vs 5 = vq5 at hK dq5 ⊢
                          subst vq5
                          go_wp2
                          exact hK _ _ rfl (Mod.refl _ _)
                        refine opsOkA_cons ?_ ?_
                        · intro K vs W hR hD hK
                          have dq3 : vs 3 = .int .i64 (s : Int) := hD 3 (by decide)
                          have dq6 : vs 6 = .int .i64 (s : Int) := hD 6 (by decide)
                          clear hD
                          try dsimp only at hK ⊢
                          simp only [Act.put, List.setIfInBounds_toArray, List.set_cons_succ, List.set_cons_zero] at hK
                          generalize vs 3 = vq3 at hK dq3 ⊢
                          subst vq3
                          generalize vs 6 = vq6 at hK dq6 ⊢
                          subst vq6
                          go_wp2
                          exact hK _ _ rfl (Mod.refl _ _)
                        refine opsOkA_cons ?_ ?_
                        · intro K vs W hR hD hK
                          have dq7 : vs 7 = .bool false := hD 7 (by decide)
                          clear hD
                          try dsimp only at hK ⊢
                          simp only [Act.put, List.setIfInBounds_toArray, List.set_cons_succ, List.set_cons_zero] at hK
                          generalize vs 7 = vq7 at hK dq7 ⊢
                          subst vq7
                          go_wp2
                          exact hK _ _ rfl (Mod.refl _ _)
                        refine opsOkA_cons ?_ ?_
                        · intro K vs W hR hD hK
                          have dq8 : vs 8 = .bool false := hD 8 (by decide)
                          clear hD
                          try dsimp only at hK ⊢
                          simp only [Act.put, List.setIfInBounds_toArray, List.set_cons_succ, List.set_cons_zero] at hK
                          generalize vs 8 = vq8 at hK dq8 ⊢
                          subst vq8
                          go_wp2
                          exact hK _ _ rfl (Mod.refl _ _)
                        refine opsOkA_cons ?_ ?_
                        · intro K vs W hR hD hK
                          have dq8 : vs 8 = .bool false := hD 8 (by decide)
                          have dq9 : vs 9 = .bool true := hD 9 (by decide)
                          clear hD
                          try dsimp only at hK ⊢
                          simp only [Act.put, List.setIfInBounds_toArray, List.set_cons_succ, List.set_cons_zero] at hK
                          generalize vs 8 = vq8 at hK dq8 ⊢
                          subst vq8
                          generalize vs 9 = vq9 at hK dq9 ⊢
                          subst vq9
                          go_wp2
                          exact hK _ _ rfl (Mod.refl _ _)
                        refine opsOkA_cons ?_ ?_
                        · intro K vs W hR hD hK
                          have dq8 : vs 8 = .bool false := hD 8 (by decide)
                          have dq10 : vs 10 = .bool false := hD 10 (by decide)
                          clear hD
                          try dsimp only at hK ⊢
                          simp only [Act.put, List.setIfInBounds_toArray, List.set_cons_succ, List.set_cons_zero] at hK
                          generalize vs 8 = vq8 at hK dq8 ⊢
                          subst vq8
                          generalize vs 10 = vq10 at hK dq10 ⊢
                          subst vq10
                          go_wp2
                          exact hK _ _ rfl (Mod.refl _ _)
                        refine opsOkA_cons ?_ ?_
                        · intro K vs W hR hD hK
                          have dq11 : vs 11 = .bool false := hD 11 (by decide)
                          clear hD
                          try dsimp only at hK ⊢
                          simp only [Act.put, List.setIfInBounds_toArray, List.set_cons_succ, List.set_cons_zero] at hK
                          generalize vs 11 = vq11 at hK dq11 ⊢
                          subst vq11
                          go_wp2
                          exact hK _ _ rfl (Mod.refl _ _)
                        refine opsOkA_cons ?_ ?_
                        · intro K vs W hR hD hK
                          have dq12 : vs 12 = .bool false := hD 12 (by decide)
                          clear hD
                          try dsimp only at hK ⊢
                          simp only [Act.put, List.setIfInBounds_toArray, List.set_cons_succ, List.set_cons_zero] at hK
                          generalize vs 12 = vq12 at hK dq12 ⊢
                          subst vq12
                          go_wp2
                          exact hK _ _ rfl (Mod.refl _ _)
                        refine opsOkA_cons ?_ ?_
                        · intro K vs W hR hD hK
                          have dq12 : vs 12 = .bool false := hD 12 (by decide)
                          have dq13 : vs 13 = .slice ab 1 cb := hD 13 (by decide)
                          clear hD
                          try dsimp only at hK ⊢
                          simp only [Act.put, List.setIfInBounds_toArray, List.set_cons_succ, List.set_cons_zero] at hK
                          generalize vs 12 = vq12 at hK dq12 ⊢
                          subst vq12
                          generalize vs 13 = vq13 at hK dq13 ⊢
                          subst vq13
                          have k1 := run_strS W 35 9 5 Try.underlying35 Try.underlying5 Try.underlying9 ((HSd.out.at (hR)).2.1)
                          rw [HY.out] at k1
                          go_wp2
                          exact hK _ _ rfl (Mod.refl _ _)
                        refine opsOkA_cons ?_ ?_
                        · intro K vs W hR hD hK
                          have dq12 : vs 12 = .bool false := hD 12 (by decide)
                          clear hD
                          try dsimp only at hK ⊢
                          simp only [Act.put, List.setIfInBounds_toArray, List.set_cons_succ, List.set_cons_zero] at hK
                          generalize vs 12 = vq12 at hK dq12 ⊢
                          subst vq12
                          go_wp2
                          exact hK _ _ rfl (Mod.refl _ _)
                        refine opsOkA_cons ?_ ?_
                        · intro K vs W hR hD hK
                          have dq12 : vs 12 = .bool false := hD 12 (by decide)
                          clear hD
                          try dsimp only at hK ⊢
                          simp only [Act.put, List.setIfInBounds_toArray, List.set_cons_succ, List.set_cons_zero] at hK
                          generalize vs 12 = vq12 at hK dq12 ⊢
                          subst vq12
                          go_wp2
                          exact hK _ _ rfl (Mod.refl _ _)
                        refine opsOkA_cons ?_ ?_
                        · intro K vs W hR hD hK
                          have dq12 : vs 12 = .bool false := hD 12 (by decide)
                          have dq15 : vs 15 = .slice a1 n2 c1 := hD 15 (by decide)
                          have dq16 : vs 16 = .int .i64 (j : Int) := hD 16 (by decide)
                          clear hD
                          try dsimp only at hK ⊢
                          simp only [Act.put, List.setIfInBounds_toArray, List.set_cons_succ, List.set_cons_zero] at hK
                          generalize vs 12 = vq12 at hK dq12 ⊢
                          subst vq12
                          generalize vs 15 = vq15 at hK dq15 ⊢
                          subst vq15
                          generalize vs 16 = vq16 at hK dq16 ⊢
                          subst vq16
                          have hix := HIX2.out
                          go_wp2_with fail
                          exact hK _ _ rfl (Mod.refl _ _)
                        refine opsOkA_cons ?_ ?_
                        · intro K vs W hR hD hK
                          have dq12 : vs 12 = .bool false := hD 12 (by decide)
                          have dq17 : vs 17 = .pointer (some ⟨fb, fo, none⟩) := hD 17 (by decide)
                          clear hD
                          try dsimp only at hK ⊢
                          simp only [Act.put, List.setIfInBounds_toArray, List.set_cons_succ, List.set_cons_zero] at hK
                          generalize vs 12 = vq12 at hK dq12 ⊢
                          subst vq12
                          generalize vs 17 = vq17 at hK dq17 ⊢
                          subst vq17
                          have hc := (HSd.out.at (hR)).1
                          go_wp2
                          exact hK _ _ rfl (Mod.refl _ _)
                        refine opsOkA_cons ?_ ?_
                        · intro K vs W hR hD hK
                          have dq12 : vs 12 = .bool false := hD 12 (by decide)
                          have dq18 : vs 18 = .int .i64 (s : Int) := hD 18 (by decide)
                          clear hD
                          try dsimp only at hK ⊢
                          simp only [Act.put, List.setIfInBounds_toArray, List.set_cons_succ, List.set_cons_zero] at hK
                          generalize vs 12 = vq12 at hK dq12 ⊢
                          subst vq12
                          generalize vs 18 = vq18 at hK dq18 ⊢
                          subst vq18
                          go_wp2
                          exact hK _ _ rfl (Mod.refl _ _)
                        refine opsOkA_cons ?_ ?_
                        · intro K vs W hR hD hK
                          have dq12 : vs 12 = .bool false := hD 12 (by decide)
                          have dq19 : vs 19 = .int .u8 (s : Int) := hD 19 (by decide)
                          clear hD
                          try dsimp only at hK ⊢
                          simp only [Act.put, List.setIfInBounds_toArray, List.set_cons_succ, List.set_cons_zero] at hK
                          generalize vs 12 = vq12 at hK dq12 ⊢
                          subst vq12
                          generalize vs 19 = vq19 at hK dq19 ⊢
                          subst vq19
                          go_wp2
                          exact hK _ _ ⟨_, rfl, by exact Rd.litN _ 1 _ _ _ 1 rfl rfl (by decide)⟩ (Mod.alloc _ _ _)
                        refine opsOkA_cons ?_ ?_
                        · intro K vs W hR hD hK
                          have dq12 : vs 12 = .bool false := hD 12 (by decide)
                          have dq20 : (LitT 1 [.int .u8 (s : Int)]) (vs 20) W := hD 20 (by decide)
                          clear hD
                          try dsimp only at hK ⊢
                          simp only [Act.put, List.setIfInBounds_toArray, List.set_cons_succ, List.set_cons_zero] at hK
                          generalize vs 12 = vq12 at hK dq12 ⊢
                          subst vq12
                          generalize vs 20 = vq20 at hK dq20 ⊢
                          obtain ⟨p20, rfl, hn20⟩ := dq20
                          have k1 := run_strS W 35 9 5 Try.underlying35 Try.underlying5 Try.underlying9 (show Rd W 1 _ 1 ([(s : Int)].map (Value.int .u8)) from hn20)
                          rw [HY.out] at k1
                          go_wp2
                          exact hK _ _ rfl (Mod.refl _ _)
                        refine opsOkA_cons ?_ ?_
                        · intro K vs W hR hD hK
                          have dq12 : vs 12 = .bool false := hD 12 (by decide)
                          have dq14 : vs 14 = .string Y := hD 14 (by decide)
                          have dq21 : vs 21 = .string Y := hD 21 (by decide)
                          clear hD
                          try dsimp only at hK ⊢
                          simp only [Act.put, List.setIfInBounds_toArray, List.set_cons_succ, List.set_cons_zero] at hK
                          generalize vs 12 = vq12 at hK dq12 ⊢
                          subst vq12
                          generalize vs 14 = vq14 at hK dq14 ⊢
                          subst vq14
                          generalize vs 21 = vq21 at hK dq21 ⊢
                          subst vq21
                          go_wp2
                          exact hK _ _ rfl (Mod.refl _ _)
                        refine opsOkA_cons ?_ ?_
                        · intro K vs W hR hD hK
                          have dq12 : vs 12 = .bool false := hD 12 (by decide)
                          have dq22 : vs 22 = .bool false := hD 22 (by decide)
                          clear hD
                          try dsimp only at hK ⊢
                          simp only [Act.put, List.setIfInBounds_toArray, List.set_cons_succ, List.set_cons_zero] at hK
                          generalize vs 12 = vq12 at hK dq12 ⊢
                          subst vq12
                          generalize vs 22 = vq22 at hK dq22 ⊢
                          subst vq22
                          go_wp2
                          exact hK _ _ rfl (Mod.refl _ _)
                        exact opsOkA_nil
                      · intro vs wq1 hR hF
                        have dq23 : vs 23 = .bool false := hF 23 (by decide)
                        clear hF
                        try dsimp only
                        generalize vs 23 = vq23 at dq23 ⊢
                        subst dq23
                        replace HS := Lib.hid (HSd.out.step hR)
                        clear HSd hR
                        go_wp2_with fail
                        go_roundw
                        case rel => exact ⟨j + 1, hjn, by go_num, HS9.out.keep (HS.out.now).2.2.2, HM9.out.of2 (HS.out.now).2.2.2⟩
                        case measure => simp [intOf]; omega
theorem sagain_law (w : World) (nv : Int) (_ : (Lit.int .i64 nv).wf = true) (a0 : Option Addr) (m c0 : Nat) (l : List Int) (ok : (encSlice (encInt .i64)).ok w (.slice a0 m c0, l)) (tv : Int) (_ : (Lit.int .i64 tv).wf = true) :
    Calls Try.prog 5 #[.int .i64 nv, .slice a0 m c0, .int .i64 tv] w fun e w' => e = .returned (.bool true) ∧ Below w.heap.size w w' := by
  obtain ⟨hn, hr, _⟩ := ok_ints ok
  exact (sagain_all w nv a0 m c0 l hn hr tv).mono fun e w' h => ⟨h.1, h.2.below (Nat.le_refl _) (fun _ e => e.elim)⟩
end Go.Proofs.Ytopldodfkcgmhaa
