/- ChannelOwes by contract. -/
import Derived.Test.YtdahoecejnnjkaaChOwP
import Derived.Test.YtdahoecejnnjkaaAwake27
import Derived.Test.YtdahoecejnnjkaaRowT
import Derived.Test.YtdahoecejnnjkaaRegion2
import Derived.Test.YtdahoecejnnjkaaOpens
import Derived.Test.YtdahoecejnnjkaaRound
namespace Go.Proofs.Ytdahoecejnnjkaa
open Go.RowKit Mile Go.Maps
set_option maxRecDepth 100000
/-- What each operation of the statement leaves. -/
def co0_r36_0_F (s2 : Nat) (fb : Nat) (fo : Nat) (uc : Nat) (k : Nat) (mm : Nat) (cg : Nat) (ua : Option Addr) (ag : Option Addr) (Y : ByteArray) : List (Value → World → Prop) :=
  [IsV (.slice ag mm cg),
   IsV (.int .i64 (k : Int)),
   IsV (.pointer (some ⟨fb, fo, none⟩)),
   IsV (.pointer (some ⟨fb, fo + 1, none⟩)),
   IsV (.int .i64 1),
   IsV (.bool false),
   IsV (.bool false),
   IsV (.slice ag mm cg),
   IsV (.int .i64 (k : Int)),
   IsV (.pointer (some ⟨fb, fo, none⟩)),
   IsV (.pointer (some ⟨fb, fo + 2, none⟩)),
   IsV (.int .i64 (s2 : Int)),
   IsV (.int .i64 (s2 : Int)),
   IsV (.bool false),
   IsV (.bool false),
   IsV (.bool false),
   IsV (.slice ag mm cg),
   IsV (.int .i64 (k : Int)),
   IsV (.pointer (some ⟨fb, fo, none⟩)),
   IsV (.pointer (some ⟨fb, fo + 5, none⟩)),
   IsV (.slice ua 1 uc),
   IsV (.string Y),
   IsV (.int .i64 (s2 : Int)),
   IsV (.int .u8 (s2 : Int)),
   (LitT 1 [.int .u8 (s2 : Int)]),
   IsV (.string Y),
   IsV (.bool false),
   IsV (.bool false)]
def co0_r36_0_D : List (List Nat) := [[], [], [0, 1], [2], [3], [4], [5], [6], [6], [6, 7, 8], [6, 9], [6, 10], [6], [6, 11, 12], [6, 13], [14], [15], [15], [15, 16, 17], [15, 18], [15, 19], [15, 20], [15], [15, 22], [15, 23], [15, 24], [15, 21, 25], [15, 26]]

/-- What each operation of the statement leaves. -/
def co1_r36_0_F (s2 : Nat) (fb : Nat) (fo : Nat) (uc : Nat) (k : Nat) (mm : Nat) (cg : Nat) (ua : Option Addr) (ag : Option Addr) (Y : ByteArray) : List (Value → World → Prop) :=
  [IsV (.slice ag mm cg),
   IsV (.int .i64 (k : Int)),
   IsV (.pointer (some ⟨fb, fo, none⟩)),
   IsV (.pointer (some ⟨fb, fo + 1, none⟩)),
   IsV (.int .i64 1),
   IsV (.bool false),
   IsV (.bool false),
   IsV (.slice ag mm cg),
   IsV (.int .i64 (k : Int)),
   IsV (.pointer (some ⟨fb, fo, none⟩)),
   IsV (.pointer (some ⟨fb, fo + 2, none⟩)),
   IsV (.int .i64 (s2 : Int)),
   IsV (.int .i64 (s2 : Int)),
   IsV (.bool false),
   IsV (.bool false),
   IsV (.bool false),
   IsV (.slice ag mm cg),
   IsV (.int .i64 (k : Int)),
   IsV (.pointer (some ⟨fb, fo, none⟩)),
   IsV (.pointer (some ⟨fb, fo + 5, none⟩)),
   IsV (.slice ua 1 uc),
   IsV (.string Y),
   IsV (.int .i64 (s2 : Int)),
   IsV (.int .u8 (s2 : Int)),
   (LitT 1 [.int .u8 (s2 : Int)]),
   IsV (.string Y),
   IsV (.bool false),
   IsV (.bool false)]
def co1_r36_0_D : List (List Nat) := [[], [], [0, 1], [2], [3], [4], [5], [6], [6], [6, 7, 8], [6, 9], [6, 10], [6], [6, 11, 12], [6, 13], [14], [15], [15], [15, 16, 17], [15, 18], [15, 19], [15, 20], [15], [15, 22], [15, 23], [15, 24], [15, 21, 25], [15, 26]]

/-- What each operation of the statement leaves. -/
def co2_r20_0_F (s2 : Nat) (fb : Nat) (fo : Nat) (uc : Nat) (k : Nat) (mm : Nat) (cg : Nat) (ua : Option Addr) (ag : Option Addr) (Y : ByteArray) : List (Value → World → Prop) :=
  [IsV (.slice ag mm cg),
   IsV (.int .i64 (k : Int)),
   IsV (.pointer (some ⟨fb, fo, none⟩)),
   IsV (.pointer (some ⟨fb, fo + 1, none⟩)),
   IsV (.int .i64 1),
   IsV (.bool false),
   IsV (.bool false),
   IsV (.slice ag mm cg),
   IsV (.int .i64 (k : Int)),
   IsV (.pointer (some ⟨fb, fo, none⟩)),
   IsV (.pointer (some ⟨fb, fo + 2, none⟩)),
   IsV (.int .i64 (s2 : Int)),
   IsV (.int .i64 (s2 : Int)),
   IsV (.bool false),
   IsV (.bool false),
   IsV (.bool false),
   IsV (.slice ag mm cg),
   IsV (.int .i64 (k : Int)),
   IsV (.pointer (some ⟨fb, fo, none⟩)),
   IsV (.pointer (some ⟨fb, fo + 5, none⟩)),
   IsV (.slice ua 1 uc),
   IsV (.string Y),
   IsV (.int .i64 (s2 : Int)),
   IsV (.int .u8 (s2 : Int)),
   (LitT 1 [.int .u8 (s2 : Int)]),
   IsV (.string Y),
   IsV (.bool false),
   IsV (.bool false)]
def co2_r20_0_D : List (List Nat) := [[], [], [0, 1], [2], [3], [4], [5], [6], [6], [6, 7, 8], [6, 9], [6, 10], [6], [6, 11, 12], [6, 13], [14], [15], [15], [15, 16, 17], [15, 18], [15, 19], [15, 20], [15], [15, 22], [15, 23], [15, 24], [15, 21, 25], [15, 26]]

set_option maxHeartbeats 64000000 in
theorem chowes_all (w : World) (nv tv : Int) (a0 : Option Addr) (m c0 : Nat) (l : List Int) (hm : l.length = m) (hr : Rd w 1 (.slice a0 m c0) m (l.map (Value.int .i64))) :
    Calls Try.prog 5 #[.int .i64 nv, .int .i64 tv, .slice a0 m c0] w fun e w' => e = .returned (.bool true) ∧ Mod (fun _ => False) w w' := by
  by_cases hno : ¬ (1 ≤ nv ∧ nv ≤ 16 ∧ 0 ≤ tv ∧ tv ≤ 100 ∧ m ≤ 30)
  case pos =>
    clear hr hm
    have hend : ∀ (b0 b1 b2 b3 b4 : Bool), decide (nv < 1) = b0 → decide (16 < nv) = b1 → decide (tv < 0) = b2 → decide (100 < tv) = b3 → decide (30 < (m : Int)) = b4 → (b0 || b1 || b2 || b3 || b4) = true →
        Calls Try.prog 5 #[.int .i64 nv, .int .i64 tv, .slice a0 m c0] w fun e w' => e = .returned (.bool true) ∧ Mod (fun _ => False) w w' := by
      intro b0 b1 b2 b3 b4 hc0 hc1 hc2 hc3 hc4 hbb
      clear hno
      cases b0
      · skip
        cases b1
        · skip
          cases b2
          · skip
            cases b3
            · skip
              cases b4
              · cases hbb
              · clear hbb 
                go_enter Try.func5, Try.ntmps5
                go_wp2_with fail
                refine (awake27_any _).mono ?_
                rintro e w9 ⟨rfl, hm9⟩
                go_wp2_with fail
                go_ret
                exact ⟨rfl, hm9⟩
            · clear hbb hc4
              go_enter Try.func5, Try.ntmps5
              go_wp2_with fail
              refine (awake27_any _).mono ?_
              rintro e w9 ⟨rfl, hm9⟩
              go_wp2_with fail
              go_ret
              exact ⟨rfl, hm9⟩
          · clear hbb hc3 hc4
            go_enter Try.func5, Try.ntmps5
            go_wp2_with fail
            refine (awake27_any _).mono ?_
            rintro e w9 ⟨rfl, hm9⟩
            go_wp2_with fail
            go_ret
            exact ⟨rfl, hm9⟩
        · clear hbb hc2 hc3 hc4
          go_enter Try.func5, Try.ntmps5
          go_wp2_with fail
          refine (awake27_any _).mono ?_
          rintro e w9 ⟨rfl, hm9⟩
          go_wp2_with fail
          go_ret
          exact ⟨rfl, hm9⟩
      · clear hbb hc1 hc2 hc3 hc4
        go_enter Try.func5, Try.ntmps5
        go_wp2_with fail
        refine (awake27_any _).mono ?_
        rintro e w9 ⟨rfl, hm9⟩
        go_wp2_with fail
        go_ret
        exact ⟨rfl, hm9⟩
    refine hend _ _ _ _ _ rfl rfl rfl rfl rfl ?_
    simp only [Bool.or_eq_true, decide_eq_true_eq]
    omega
  case neg =>
  obtain ⟨iG, hiG, hzG, hsG, hbG⟩ := info_parts Ch.infoG
  have hyes := Decidable.not_not.1 hno
  clear hno
  obtain ⟨N, rfl⟩ := Int.eq_ofNat_of_zero_le (show 0 ≤ nv by omega)
  obtain ⟨n, rfl⟩ := Int.eq_ofNat_of_zero_le (show 0 ≤ tv by omega)
  have hN1 : 1 ≤ N := by omega
  have hN2 : N ≤ 16 := by omega
  have hn2 : n ≤ 100 := by omega
  have hM2 : m ≤ 30 := by omega
  clear hyes
  have z0 : decide ((N : Int) < 1) = false := by simp; omega
  have z1 : decide (16 < (N : Int)) = false := by simp; omega
  have z2 : decide ((n : Int) < 0) = false := by simp
  have z3 : decide (100 < (n : Int)) = false := by simp; omega
  have z4 : decide (30 < (m : Int)) = false := by simp; omega
  have HN := Lib.hid hm
  have HRD := Lib.hid hr
  clear hm hr
  have HNEW : Hid (Calls Try.prog 10 #[.agg #[.int .i64 1, .int .i64 (N : Int), .int .i64 0, .int .i64 900, .int .i64 900, .int .i64 5], .int .i64 1] w _) := Lib.hid (chnew_any w 1 5 1 N 0 900 900 (by unfold fitC; omega) (by omega))
  go_enter Try.func5, Try.ntmps5
  go_wp2_with fail
  refine HNEW.out.mono ?_
  rintro e w1 ⟨p, sp, tp, kp, kr, rfl, hn⟩
  have HC1 := Lib.hid (c1_made hn (Mod.refl (fun _ => False) w))
  clear hn HNEW z0 z1 z2 z3 z4
  go_wp2_with fail
  go_loopw [9, 10, 12] (fun sv qv iv wr => ∃ (s q i : Nat) (x : ChS), sv = .int .i64 (s : Int) ∧ qv = .int .i64 (q : Int) ∧ iv = .int .i64 (i : Int) ∧ i ≤ n ∧ q ≤ i ∧ (q = i ∨ 64 ≤ q - s) ∧ q - s ≤ 64 ∧ OwX x N 0 s q ∧ (s < q → s - 0 = N) ∧ C1 w wr p N 900 900 0 1 x) (fun _ _ iv _ => n - (intOf iv).toNat)
  case atStart => exact ⟨0, 0, 0, _, rfl, rfl, rfl, Nat.zero_le _, Nat.le_refl _, .inl rfl, by omega, owx0 N, fun h => by omega, HC1.out⟩
  case round =>
    obtain ⟨s, q, i, x, rfl, rfl, rfl, hin, hqi, hqs, h64, hx, hfull, hc⟩ := hrel
    obtain ⟨wo, hwo⟩ : ∃ x : World, x = wr := ⟨_, rfl⟩
    subst hwo
    have HC2 := Lib.hid hc
    have HX := Lib.hid hx
    have hsq := hx.sq
    have hsw := hx.sw
    clear hc HC1 hx
    by_cases hi : i < n
    case neg =>
      have z5 : decide ((i : Int) < (n : Int)) = false := by simp; omega
      have z5n : decide (i < n) = false := by simp; omega
      go_wp2_with fail
      have HFU := Lib.hid hfull
      have hq100 : q ≤ 100 := by omega
      clear hfull hqs hqi z5 z5n hsw
      go_loopw [9, 11, 16] (fun sv av jv wr => ∃ (s1 a j : Nat) (y : ChS), sv = .int .i64 (s1 : Int) ∧ av = .int .i64 (a : Int) ∧ jv = .int .i64 (j : Int) ∧ j ≤ m ∧ q - s1 ≤ 64 ∧ OwX y N a s1 q ∧ (s1 < q → s1 - a = N) ∧ C1 w wr p N 900 900 0 1 y) (fun _ _ jv _ => m - (intOf jv).toNat)
      case atStart => exact ⟨s, 0, 0, x, rfl, rfl, rfl, Nat.zero_le _, h64, HX.out, HFU.out, HC2.out⟩
      case round =>
        clear hsq h64 HFU HX HC2
        obtain ⟨s1, a, j, y, rfl, rfl, rfl, hjm, h64, hx, hfull, hc⟩ := hrel
        obtain ⟨wp, hwp⟩ : ∃ x : World, x = wr := ⟨_, rfl⟩
        subst hwp
        have HC2 := Lib.hid hc
        have HX := Lib.hid hx
        have hsq := hx.sq
        have hla := hx.la
        have hsw := hx.sw
        clear hc hx
        by_cases hj : j < m
        case neg =>
          have z6 : decide ((j : Int) < (m : Int)) = false := by simp; omega
          have z6n : decide (j < m) = false := by simp; omega
          go_wp2_with (go_at_call 7; refine (awake27_any _).mono ?_; rintro e w8 ⟨rfl, hm8⟩; have HM8 := Lib.hid hm8; clear hm8)
          go_ret
          exact ⟨rfl, HC2.out.mod.of2 HM8.out⟩
        case pos =>
          have z6 : decide ((j : Int) < (m : Int)) = true := by simp; omega
          have z6n : decide (j < m) = true := by simp; omega
          have hjl : j < l.length := by rw [HN.out]; exact hj
          have hj1 : IntKind.i64.wrap ((j : Int) + 1) = ((j + 1 : Nat) : Int) := by rw [IntWalk.i64_in _ (by omega)]; omega
          have hn1 : IntKind.i64.wrap ((N : Int) + 1) = (N : Int) + 1 := by rw [IntWalk.i64_in _ (by omega)]
          have hrj := HRD.out.keep (HC2.out.mod) (fun _ _ e => e)
          obtain ⟨eb, eo, hpl, e0⟩ := rd1 hrj j hjl
          obtain ⟨iI, hiI, hzI, hsI, hbI⟩ := info_parts Ch.infoI
          have hix := fun wx => run_indexS (P := Try.prog) wx 70 3 iI 1 Try.underlying70 hiI hsI a0 m c0 j hj (hrj.some_ (by omega))
          clear hiI hzI hsI hbI
          rw [hpl] at hix
          obtain ⟨kv, hkv⟩ : ∃ x, l[j] = x := ⟨_, rfl⟩
          rw [hkv] at e0
          clear hkv hpl hrj
          go_wp2_with fail
          refine (round_any kv ((N : Int) + 1) _ (by omega) (by omega)).mono ?_
          rintro e w' ⟨rfl, rfl⟩
          have hr0 := Int.emod_nonneg kv (b := (N : Int) + 1) (by omega)
          have hr1 := Int.emod_lt_of_pos kv (b := (N : Int) + 1) (by omega)
          obtain ⟨rr, hrr⟩ := Int.eq_ofNat_of_zero_le hr0
          rw [hrr] at hr1 ⊢
          have hr2 : rr < N + 1 := by omega
          clear hr0 hr1 hrr e0 hix
          obtain ⟨kk, hkk⟩ : ∃ kk : Nat, a + rr ≤ kk ∧ kk ≤ a + rr := ⟨_, Nat.le_refl _, Nat.le_refl _⟩
          have ha1 : IntKind.i64.wrap ((a : Int) + (rr : Int)) = (kk : Int) := by rw [IntWalk.i64_in _ (by omega)]; omega
          have ha2 : (a : Int) + (rr : Int) = (kk : Int) := by omega
          have hkb : kk ≤ 200 := by omega
          have hkw0 : IntKind.i64.wrap (kk : Int) = (kk : Int) := IntWalk.i64_in _ (by omega)
          have hway : ∃ g : Nat, a ≤ g ∧ g ≤ s1 ∧ ((s1 < kk ∧ s1 = g) ∨ (kk ≤ s1 ∧ g = kk)) := by
            by_cases hgk : s1 < kk
            · exact ⟨s1, hla, Nat.le_refl _, .inl ⟨hgk, rfl⟩⟩
            · exact ⟨kk, by omega, by omega, .inr ⟨by omega, rfl⟩⟩
          obtain ⟨g, hg1, hg2, hg3⟩ := hway
          obtain ⟨hak, hax⟩ := HX.out.ack g hg1 hg2
          obtain ⟨mm, hmm⟩ : ∃ y, min (N - (s1 - g)) (q - s1) = y := ⟨_, rfl⟩
          obtain ⟨hp1, hp2, hp3, hp4⟩ := hax.pay 900 0 mm hmm
          have hp := c1_ack HC2.out HX.out.o (HX.out.b h64 (by omega)) 0 (by omega) 0 (g : Int) 0 none 0 0
          rw [hak, hp1] at hp
          have HPX := Lib.hid hp2
          have HP3 := Lib.hid hp3
          have HP := Lib.hid hp
          have hmm17 : mm ≤ 100 := by omega
          clear hp hp1 hp2 hp3 hmm hak hax
          have hgb : g ≤ 200 := by omega
          have hgw : IntKind.i64.wrap (g : Int) = (g : Int) := IntWalk.i64_in _ (by omega)
          rcases hg3 with ⟨hgk, rfl⟩ | ⟨hgk, rfl⟩
          · skip
            clear hg2
            have w1 : decide ((s1 : Int) < (kk : Int)) = true := by simp; omega
            have w1n : decide (s1 < kk) = true := by simp; omega
            go_wp2_with fail
            clear hgk w1 w1n ha1 ha2 hkw0
            refine HP.out.mono ?_
            rintro e w2 ⟨v2, rfl, hv2, hc2, _⟩
            obtain ⟨ag, cg, gl, rfl, hol⟩ := hv2.form mm (by rw [dgD_len, rng_len])
            have HOL := Lib.hid hol
            have HC5 := Lib.hid hc2
            clear hv2 hol hc2 HP HC2
            go_wp2_with fail
            go_loopw [9, 20] (fun sv kv wr => ∃ k s2 : Nat, k ≤ mm ∧ s1 + k = s2 ∧ sv = .int .i64 (s2 : Int) ∧ kv = .int .i64 (k : Int) ∧ Mod (fun _ => False) w2 wr) (fun _ kv _ => mm - (intOf kv).toNat)
            case atStart => exact ⟨0, s1, Nat.zero_le _, rfl, rfl, rfl, Mod.refl _ _⟩
            case round =>
              obtain ⟨k, s2, hk, hks, rfl, rfl, hmk⟩ := hrel
              obtain ⟨wi, hwi⟩ : ∃ x : World, x = wr := ⟨_, rfl⟩
              subst hwi
              have HMK := Lib.hid hmk
              clear hmk
              replace hks : s1 + k ≤ s2 ∧ s2 ≤ s1 + k := ⟨Nat.le_of_eq hks, Nat.le_of_eq hks.symm⟩
              by_cases hkm : k < mm
              case neg =>
                obtain rfl : k = mm := by omega
                have y2 : decide ((k : Int) < (k : Int)) = false := by simp
                have y2n : decide (k < k) = false := by simp
                have HC3 := Lib.hid (HC5.out.later HMK.out)
                have hlo2 : (payC N 900 0 (ackC y (s1 - a))).os.length = q - s2 := by rw [HPX.out.os, rng_len]; omega
                have hs2e : s1 + k = s2 := by omega
                have hpx2 := HPX.out
                have hp32 := HP3.out
                rw [hs2e] at hpx2 hp32
                have HPX2 := Lib.hid hpx2
                have HP32 := Lib.hid hp32
                have hsx := hpx2.sw
                have hsx2 := hpx2.sq
                have hsx3 := hpx2.la
                clear hpx2 hp32 hs2e
                obtain ⟨d1, hd1⟩ : ∃ y : Nat, s1 + y ≤ s2 ∧ s2 ≤ s1 + y := ⟨s2 - s1, by omega, by omega⟩
                obtain ⟨r1, hr1⟩ : ∃ y : Nat, s2 + y ≤ q ∧ q ≤ s2 + y := ⟨q - s2, by omega, by omega⟩
                have u1 : IntKind.i64.wrap ((s2 : Int) - (s1 : Int)) = (d1 : Int) := by rw [IntWalk.i64_in _ (by omega)]; omega
                have u1n : (s2 : Int) - (s1 : Int) = (d1 : Int) := by omega
                have u2 : IntKind.i64.wrap ((q : Int) - (s2 : Int)) = (r1 : Int) := by rw [IntWalk.i64_in _ (by omega)]; omega
                have u2n : (q : Int) - (s2 : Int) = (r1 : Int) := by omega
                have hd1b : d1 ≤ 200 := by omega
                have hr1b : r1 ≤ 200 := by omega
                have hd1w : IntKind.i64.wrap (d1 : Int) = (d1 : Int) := IntWalk.i64_in _ (by omega)
                have hr1w : IntKind.i64.wrap (r1 : Int) = (r1 : Int) := IntWalk.i64_in _ (by omega)
                have v1 : decide ((N : Int) < (d1 : Int)) = false := by simp; omega
                have v1n : decide (N < d1) = false := by simp; omega
                have HOW := Lib.hid (c1_owed HC3.out)
                rw [hlo2, show ((q - s2 : Nat) : Int) = (r1 : Int) by omega] at HOW
                have v2 : ((r1 : Int) != (r1 : Int)) = false := by simp
                by_cases hz : r1 = 0
                · skip
                  have v3 : decide (0 < (r1 : Int)) = false := by simp; omega
                  have v3n : decide (0 < r1) = false := by simp; omega
                  have HZ := Lib.hid hz
                  clear hz hlo2
                  go_wp2_with (first | (go_at_call 21; refine HOW.out.mono ?_; rintro e w' ⟨rfl, rfl⟩))
                  go_roundw
                  case rel => exact ⟨s2, s1, j + 1, _, rfl, rfl, by go_num, by omega, by omega, HPX2.out, HP32.out, HC3.out⟩
                  case measure => simp [intOf]; omega
                · skip
                  have hs2N : s2 - s1 = N := HP32.out (by omega)
                  have v3 : decide (0 < (r1 : Int)) = true := by simp; omega
                  have v3n : decide (0 < r1) = true := by simp; omega
                  have v4 : ((d1 : Int) != (N : Int)) = false := by simp; omega
                  have HZ := Lib.hid hz
                  clear hz hlo2
                  go_wp2_with (first | (go_at_call 21; refine HOW.out.mono ?_; rintro e w' ⟨rfl, rfl⟩))
                  go_roundw
                  case rel => exact ⟨s2, s1, j + 1, _, rfl, rfl, by go_num, by omega, by omega, HPX2.out, HP32.out, HC3.out⟩
                  case measure => simp [intOf]; omega
              case pos =>
                have y2 : decide ((k : Int) < (mm : Int)) = true := by simp; omega
                have y2n : decide (k < mm) = true := by simp; omega
                obtain ⟨fb, fo, fv, hpl, hsn, _, hnc, f0, f1, f2, f3, f4, f5, hbt⟩ := (HOL.out.keep HMK.out (fun _ _ e => e) (fun _ _ e => e.elim)).elem k _ (dgD_at 0 mm s1 k hkm)
                have hix := fun wx => run_indexS (P := Try.prog) wx 36 40 iG 6 Try.underlying36 hiG hsG ag mm cg k hkm hsn
                rw [hpl] at hix
                have hs2e : s1 + k = s2 := by omega
                rw [hs2e] at f2 hbt
                obtain ⟨ua, un, uc, rfl, hun, hbo⟩ := hbt
                obtain rfl : 1 = un := hun
                have hrd := Rd.ofOwn hbo
                have HIX := Lib.hid hix
                have hsw : IntKind.i64.wrap ((s2 : Int) + 1) = ((s2 + 1 : Nat) : Int) := by rw [IntWalk.i64_in _ (by omega)]; omega
                have hkw : IntKind.i64.wrap ((k : Int) + 1) = ((k + 1 : Nat) : Int) := by rw [IntWalk.i64_in _ (by omega)]; omega
                have hw8 : IntKind.u8.wrap (s2 : Int) = (s2 : Int) := IntWalk.u8_in _ (by omega)
                clear hbo hix hpl hsn hnc hs2e f0 f3 f4 hiG hzG hsG hbG
                have HS : Hid (Ev (Mod (fun _ => False) wi) wi) := Lib.hid (Ev.mod wi)
                replace HS := Lib.hid ((Ev.rd hrd).and HS.out)
                replace HS := Lib.hid ((Ev.cell f1).and HS.out)
                replace HS := Lib.hid ((Ev.cell f2).and HS.out)
                replace HS := Lib.hid ((Ev.cell f5).and HS.out)
                clear f1 f2 f5 hrd
                obtain ⟨Y, hY⟩ : ∃ x, strOf [(s2 : Int)] = x := ⟨_, rfl⟩
                have HY := Lib.hid hY
                clear hY
                go_upto_region 36 with fail
                have HSd := Lib.hid HS.out.drew
                refine wp_region_inv3 (act := ?actco0_r36_0) (Mod (fun _ => False)) (fun i => (co0_r36_0_F s2 fb fo uc k mm cg ua ag Y).getD i (fun _ _ => True)) (fun i => co0_r36_0_D.getD i []) (by kernel_rfl) (by kernel_rfl) (by kernel_rfl) (by kernel_rfl) (fun _ => Mod.refl _ _)
                  (fun _ _ _ h k => h.trans k (fun _ _ e => e) (fun _ _ e => e)) ?hactco0_r36_0 (stable_list ?_) ?_ ?_
                case hactco0_r36_0 => intro vs; simp only [putAll, Nat.zero_add, Nat.reduceAdd, Act.put, List.setIfInBounds_toArray, List.set_cons_succ, List.set_cons_zero]; exact rfl
                · unfold co0_r36_0_F
                  exact stable_cons (stable_val _) <| stable_cons (stable_val _) <| stable_cons (stable_val _) <| stable_cons (stable_val _) <| stable_cons (stable_val _) <| stable_cons (stable_val _) <| stable_cons (stable_val _) <| stable_cons (stable_val _) <| stable_cons (stable_val _) <| stable_cons (stable_val _) <| stable_cons (stable_val _) <| stable_cons (stable_val _) <| stable_cons (stable_val _) <| stable_cons (stable_val _) <| stable_cons (stable_val _) <| stable_cons (stable_val _) <| stable_cons (stable_val _) <| stable_cons (stable_val _) <| stable_cons (stable_val _) <| stable_cons (stable_val _) <| stable_cons (stable_val _) <| stable_cons (stable_val _) <| stable_cons (stable_val _) <| stable_cons (stable_val _) <| stable_cons (LitT.st) <| stable_cons (stable_val _) <| stable_cons (stable_val _) <| stable_cons (stable_val _) <| stable_nil
                · refine opsOkA_cons ?_ ?_
                  · intro K vs W hR hD hK
                    clear hD
                    try dsimp only at hK ⊢
                    simp only [Act.put, List.setIfInBounds_toArray, List.set_cons_succ, List.set_cons_zero] at hK
                    go_wp2
                    exact hK _ _ rfl (Mod.refl _ _)
                  refine opsOkA_cons ?_ ?_
                  · intro K vs W hR hD hK
                    clear hD
                    try dsimp only at hK ⊢
                    simp only [Act.put, List.setIfInBounds_toArray, List.set_cons_succ, List.set_cons_zero] at hK
                    go_wp2
                    exact hK _ _ rfl (Mod.refl _ _)
                  refine opsOkA_cons ?_ ?_
                  · intro K vs W hR hD hK
                    have dq0 : vs 0 = .slice ag mm cg := hD 0 (by decide)
                    have dq1 : vs 1 = .int .i64 (k : Int) := hD 1 (by decide)
                    clear hD
                    try dsimp only at hK ⊢
                    simp only [Act.put, List.setIfInBounds_toArray, List.set_cons_succ, List.set_cons_zero] at hK
                    generalize vs 0 = vq0 at hK dq0 ⊢
                    subst vq0
                    generalize vs 1 = vq1 at hK dq1 ⊢
                    subst vq1
                    have hix := HIX.out
                    go_wp2_with fail
                    exact hK _ _ rfl (Mod.refl _ _)
                  refine opsOkA_cons ?_ ?_
                  · intro K vs W hR hD hK
                    have dq2 : vs 2 = .pointer (some ⟨fb, fo, none⟩) := hD 2 (by decide)
                    clear hD
                    try dsimp only at hK ⊢
                    simp only [Act.put, List.setIfInBounds_toArray, List.set_cons_succ, List.set_cons_zero] at hK
                    generalize vs 2 = vq2 at hK dq2 ⊢
                    subst vq2
                    go_wp2
                    exact hK _ _ rfl (Mod.refl _ _)
                  refine opsOkA_cons ?_ ?_
                  · intro K vs W hR hD hK
                    have dq3 : vs 3 = .pointer (some ⟨fb, fo + 1, none⟩) := hD 3 (by decide)
                    clear hD
                    try dsimp only at hK ⊢
                    simp only [Act.put, List.setIfInBounds_toArray, List.set_cons_succ, List.set_cons_zero] at hK
                    generalize vs 3 = vq3 at hK dq3 ⊢
                    subst vq3
                    have hc := (HSd.out.at (hR)).2.2.1
                    go_wp2
                    exact hK _ _ rfl (Mod.refl _ _)
                  refine opsOkA_cons ?_ ?_
                  · intro K vs W hR hD hK
                    have dq4 : vs 4 = .int .i64 1 := hD 4 (by decide)
                    clear hD
                    try dsimp only at hK ⊢
                    simp only [Act.put, List.setIfInBounds_toArray, List.set_cons_succ, List.set_cons_zero] at hK
                    generalize vs 4 = vq4 at hK dq4 ⊢
                    subst vq4
                    go_wp2
                    exact hK _ _ rfl (Mod.refl _ _)
                  refine opsOkA_cons ?_ ?_
                  · intro K vs W hR hD hK
                    have dq5 : vs 5 = .bool false := hD 5 (by decide)
                    clear hD
                    try dsimp only at hK ⊢
                    simp only [Act.put, List.setIfInBounds_toArray, List.set_cons_succ, List.set_cons_zero] at hK
                    generalize vs 5 = vq5 at hK dq5 ⊢
                    subst vq5
                    go_wp2
                    exact hK _ _ rfl (Mod.refl _ _)
                  refine opsOkA_cons ?_ ?_
                  · intro K vs W hR hD hK
                    have dq6 : vs 6 = .bool false := hD 6 (by decide)
                    clear hD
                    try dsimp only at hK ⊢
                    simp only [Act.put, List.setIfInBounds_toArray, List.set_cons_succ, List.set_cons_zero] at hK
                    generalize vs 6 = vq6 at hK dq6 ⊢
                    subst vq6
                    go_wp2
                    exact hK _ _ rfl (Mod.refl _ _)
                  refine opsOkA_cons ?_ ?_
                  · intro K vs W hR hD hK
                    have dq6 : vs 6 = .bool false := hD 6 (by decide)
                    clear hD
                    try dsimp only at hK ⊢
                    simp only [Act.put, List.setIfInBounds_toArray, List.set_cons_succ, List.set_cons_zero] at hK
                    generalize vs 6 = vq6 at hK dq6 ⊢
                    subst vq6
                    go_wp2
                    exact hK _ _ rfl (Mod.refl _ _)
                  refine opsOkA_cons ?_ ?_
                  · intro K vs W hR hD hK
                    have dq6 : vs 6 = .bool false := hD 6 (by decide)
                    have dq7 : vs 7 = .slice ag mm cg := hD 7 (by decide)
                    have dq8 : vs 8 = .int .i64 (k : Int) := hD 8 (by decide)
                    clear hD
                    try dsimp only at hK ⊢
                    simp only [Act.put, List.setIfInBounds_toArray, List.set_cons_succ, List.set_cons_zero] at hK
                    generalize vs 6 = vq6 at hK dq6 ⊢
                    subst vq6
                    generalize vs 7 = vq7 at hK dq7 ⊢
                    subst vq7
                    generalize vs 8 = vq8 at hK dq8 ⊢
                    subst vq8
                    have hix := HIX.out
                    go_wp2_with fail
                    exact hK _ _ rfl (Mod.refl _ _)
                  refine opsOkA_cons ?_ ?_
                  · intro K vs W hR hD hK
                    have dq6 : vs 6 = .bool false := hD 6 (by decide)
                    have dq9 : vs 9 = .pointer (some ⟨fb, fo, none⟩) := hD 9 (by decide)
                    clear hD
                    try dsimp only at hK ⊢
                    simp only [Act.put, List.setIfInBounds_toArray, List.set_cons_succ, List.set_cons_zero] at hK
                    generalize vs 6 = vq6 at hK dq6 ⊢
                    subst vq6
                    generalize vs 9 = vq9 at hK dq9 ⊢
                    subst vq9
                    go_wp2
                    exact hK _ _ rfl (Mod.refl _ _)
                  refine opsOkA_cons ?_ ?_
                  · intro K vs W hR hD hK
                    have dq6 : vs 6 = .bool false := hD 6 (by decide)
                    have dq10 : vs 10 = .pointer (some ⟨fb, fo + 2, none⟩) := hD 10 (by decide)
                    clear hD
                    try dsimp only at hK ⊢
                    simp only [Act.put, List.setIfInBounds_toArray, List.set_cons_succ, List.set_cons_zero] at hK
                    generalize vs 6 = vq6 at hK dq6 ⊢
                    subst vq6
                    generalize vs 10 = vq10 at hK dq10 ⊢
                    subst vq10
                    have hc := (HSd.out.at (hR)).2.1
                    go_wp2
                    exact hK _ _ rfl (Mod.refl _ _)
                  refine opsOkA_cons ?_ ?_
                  · intro K vs W hR hD hK
                    have dq6 : vs 6 = .bool false := hD 6 (by decide)
                    clear hD
                    try dsimp only at hK ⊢
                    simp only [Act.put, List.setIfInBounds_toArray, List.set_cons_succ, List.set_cons_zero] at hK
                    generalize vs 6 = vq6 at hK dq6 ⊢
                    subst vq6
                    go_wp2
                    exact hK _ _ rfl (Mod.refl _ _)
                  refine opsOkA_cons ?_ ?_
                  · intro K vs W hR hD hK
                    have dq6 : vs 6 = .bool false := hD 6 (by decide)
                    have dq11 : vs 11 = .int .i64 (s2 : Int) := hD 11 (by decide)
                    have dq12 : vs 12 = .int .i64 (s2 : Int) := hD 12 (by decide)
                    clear hD
                    try dsimp only at hK ⊢
                    simp only [Act.put, List.setIfInBounds_toArray, List.set_cons_succ, List.set_cons_zero] at hK
                    generalize vs 6 = vq6 at hK dq6 ⊢
                    subst vq6
                    generalize vs 11 = vq11 at hK dq11 ⊢
                    subst vq11
                    generalize vs 12 = vq12 at hK dq12 ⊢
                    subst vq12
                    go_wp2
                    exact hK _ _ rfl (Mod.refl _ _)
                  refine opsOkA_cons ?_ ?_
                  · intro K vs W hR hD hK
                    have dq6 : vs 6 = .bool false := hD 6 (by decide)
                    have dq13 : vs 13 = .bool false := hD 13 (by decide)
                    clear hD
                    try dsimp only at hK ⊢
                    simp only [Act.put, List.setIfInBounds_toArray, List.set_cons_succ, List.set_cons_zero] at hK
                    generalize vs 6 = vq6 at hK dq6 ⊢
                    subst vq6
                    generalize vs 13 = vq13 at hK dq13 ⊢
                    subst vq13
                    go_wp2
                    exact hK _ _ rfl (Mod.refl _ _)
                  refine opsOkA_cons ?_ ?_
                  · intro K vs W hR hD hK
                    have dq14 : vs 14 = .bool false := hD 14 (by decide)
                    clear hD
                    try dsimp only at hK ⊢
                    simp only [Act.put, List.setIfInBounds_toArray, List.set_cons_succ, List.set_cons_zero] at hK
                    generalize vs 14 = vq14 at hK dq14 ⊢
                    subst vq14
                    go_wp2
                    exact hK _ _ rfl (Mod.refl _ _)
                  refine opsOkA_cons ?_ ?_
                  · intro K vs W hR hD hK
                    have dq15 : vs 15 = .bool false := hD 15 (by decide)
                    clear hD
                    try dsimp only at hK ⊢
                    simp only [Act.put, List.setIfInBounds_toArray, List.set_cons_succ, List.set_cons_zero] at hK
                    generalize vs 15 = vq15 at hK dq15 ⊢
                    subst vq15
                    go_wp2
                    exact hK _ _ rfl (Mod.refl _ _)
                  refine opsOkA_cons ?_ ?_
                  · intro K vs W hR hD hK
                    have dq15 : vs 15 = .bool false := hD 15 (by decide)
                    clear hD
                    try dsimp only at hK ⊢
                    simp only [Act.put, List.setIfInBounds_toArray, List.set_cons_succ, List.set_cons_zero] at hK
                    generalize vs 15 = vq15 at hK dq15 ⊢
                    subst vq15
                    go_wp2
                    exact hK _ _ rfl (Mod.refl _ _)
                  refine opsOkA_cons ?_ ?_
                  · intro K vs W hR hD hK
                    have dq15 : vs 15 = .bool false := hD 15 (by decide)
                    have dq16 : vs 16 = .slice ag mm cg := hD 16 (by decide)
                    have dq17 : vs 17 = .int .i64 (k : Int) := hD 17 (by decide)
                    clear hD
                    try dsimp only at hK ⊢
                    simp only [Act.put, List.setIfInBounds_toArray, List.set_cons_succ, List.set_cons_zero] at hK
                    generalize vs 15 = vq15 at hK dq15 ⊢
                    subst vq15
                    generalize vs 16 = vq16 at hK dq16 ⊢
                    subst vq16
                    generalize vs 17 = vq17 at hK dq17 ⊢
                    subst vq17
                    have hix := HIX.out
                    go_wp2_with fail
                    exact hK _ _ rfl (Mod.refl _ _)
                  refine opsOkA_cons ?_ ?_
                  · intro K vs W hR hD hK
                    have dq15 : vs 15 = .bool false := hD 15 (by decide)
                    have dq18 : vs 18 = .pointer (some ⟨fb, fo, none⟩) := hD 18 (by decide)
                    clear hD
                    try dsimp only at hK ⊢
                    simp only [Act.put, List.setIfInBounds_toArray, List.set_cons_succ, List.set_cons_zero] at hK
                    generalize vs 15 = vq15 at hK dq15 ⊢
                    subst vq15
                    generalize vs 18 = vq18 at hK dq18 ⊢
                    subst vq18
                    go_wp2
                    exact hK _ _ rfl (Mod.refl _ _)
                  refine opsOkA_cons ?_ ?_
                  · intro K vs W hR hD hK
                    have dq15 : vs 15 = .bool false := hD 15 (by decide)
                    have dq19 : vs 19 = .pointer (some ⟨fb, fo + 5, none⟩) := hD 19 (by decide)
                    clear hD
                    try dsimp only at hK ⊢
                    simp only [Act.put, List.setIfInBounds_toArray, List.set_cons_succ, List.set_cons_zero] at hK
                    generalize vs 15 = vq15 at hK dq15 ⊢
                    subst vq15
                    generalize vs 19 = vq19 at hK dq19 ⊢
                    subst vq19
                    have hc := (HSd.out.at (hR)).1
                    go_wp2
                    exact hK _ _ rfl (Mod.refl _ _)
                  refine opsOkA_cons ?_ ?_
                  · intro K vs W hR hD hK
                    have dq15 : vs 15 = .bool false := hD 15 (by decide)
                    have dq20 : vs 20 = .slice ua 1 uc := hD 20 (by decide)
                    clear hD
                    try dsimp only at hK ⊢
                    simp only [Act.put, List.setIfInBounds_toArray, List.set_cons_succ, List.set_cons_zero] at hK
                    generalize vs 15 = vq15 at hK dq15 ⊢
                    subst vq15
                    generalize vs 20 = vq20 at hK dq20 ⊢
                    subst vq20
                    have k1 := run_strS W 38 9 5 Try.underlying38 Try.underlying5 Try.underlying9 ((HSd.out.at (hR)).2.2.2.1)
                    rw [HY.out] at k1
                    go_wp2
                    exact hK _ _ rfl (Mod.refl _ _)
                  refine opsOkA_cons ?_ ?_
                  · intro K vs W hR hD hK
                    have dq15 : vs 15 = .bool false := hD 15 (by decide)
                    clear hD
                    try dsimp only at hK ⊢
                    simp only [Act.put, List.setIfInBounds_toArray, List.set_cons_succ, List.set_cons_zero] at hK
                    generalize vs 15 = vq15 at hK dq15 ⊢
                    subst vq15
                    go_wp2
                    exact hK _ _ rfl (Mod.refl _ _)
                  refine opsOkA_cons ?_ ?_
                  · intro K vs W hR hD hK
                    have dq15 : vs 15 = .bool false := hD 15 (by decide)
                    have dq22 : vs 22 = .int .i64 (s2 : Int) := hD 22 (by decide)
                    clear hD
                    try dsimp only at hK ⊢
                    simp only [Act.put, List.setIfInBounds_toArray, List.set_cons_succ, List.set_cons_zero] at hK
                    generalize vs 15 = vq15 at hK dq15 ⊢
                    subst vq15
                    generalize vs 22 = vq22 at hK dq22 ⊢
                    subst vq22
                    go_wp2
                    exact hK _ _ rfl (Mod.refl _ _)
                  refine opsOkA_cons ?_ ?_
                  · intro K vs W hR hD hK
                    have dq15 : vs 15 = .bool false := hD 15 (by decide)
                    have dq23 : vs 23 = .int .u8 (s2 : Int) := hD 23 (by decide)
                    clear hD
                    try dsimp only at hK ⊢
                    simp only [Act.put, List.setIfInBounds_toArray, List.set_cons_succ, List.set_cons_zero] at hK
                    generalize vs 15 = vq15 at hK dq15 ⊢
                    subst vq15
                    generalize vs 23 = vq23 at hK dq23 ⊢
                    subst vq23
                    go_wp2
                    exact hK _ _ ⟨_, rfl, by exact Rd.litN _ 1 _ _ _ 1 rfl rfl (by decide)⟩ (Mod.alloc _ _ _)
                  refine opsOkA_cons ?_ ?_
                  · intro K vs W hR hD hK
                    have dq15 : vs 15 = .bool false := hD 15 (by decide)
                    have dq24 : (LitT 1 [.int .u8 (s2 : Int)]) (vs 24) W := hD 24 (by decide)
                    clear hD
                    try dsimp only at hK ⊢
                    simp only [Act.put, List.setIfInBounds_toArray, List.set_cons_succ, List.set_cons_zero] at hK
                    generalize vs 15 = vq15 at hK dq15 ⊢
                    subst vq15
                    generalize vs 24 = vq24 at hK dq24 ⊢
                    obtain ⟨p24, rfl, hn24⟩ := dq24
                    have k1 := run_strS W 38 9 5 Try.underlying38 Try.underlying5 Try.underlying9 (show Rd W 1 _ 1 ([(s2 : Int)].map (Value.int .u8)) from hn24)
                    rw [HY.out] at k1
                    go_wp2
                    exact hK _ _ rfl (Mod.refl _ _)
                  refine opsOkA_cons ?_ ?_
                  · intro K vs W hR hD hK
                    have dq15 : vs 15 = .bool false := hD 15 (by decide)
                    have dq21 : vs 21 = .string Y := hD 21 (by decide)
                    have dq25 : vs 25 = .string Y := hD 25 (by decide)
                    clear hD
                    try dsimp only at hK ⊢
                    simp only [Act.put, List.setIfInBounds_toArray, List.set_cons_succ, List.set_cons_zero] at hK
                    generalize vs 15 = vq15 at hK dq15 ⊢
                    subst vq15
                    generalize vs 21 = vq21 at hK dq21 ⊢
                    subst vq21
                    generalize vs 25 = vq25 at hK dq25 ⊢
                    subst vq25
                    go_wp2
                    exact hK _ _ rfl (Mod.refl _ _)
                  refine opsOkA_cons ?_ ?_
                  · intro K vs W hR hD hK
                    have dq15 : vs 15 = .bool false := hD 15 (by decide)
                    have dq26 : vs 26 = .bool false := hD 26 (by decide)
                    clear hD
                    try dsimp only at hK ⊢
                    simp only [Act.put, List.setIfInBounds_toArray, List.set_cons_succ, List.set_cons_zero] at hK
                    generalize vs 15 = vq15 at hK dq15 ⊢
                    subst vq15
                    generalize vs 26 = vq26 at hK dq26 ⊢
                    subst vq26
                    go_wp2
                    exact hK _ _ rfl (Mod.refl _ _)
                  exact opsOkA_nil
                · intro vs wq1 hR hF
                  have dq27 : vs 27 = .bool false := hF 27 (by decide)
                  clear hF
                  try dsimp only
                  generalize vs 27 = vq27 at dq27 ⊢
                  subst dq27
                  replace HS := Lib.hid (HSd.out.step hR)
                  clear HSd hR
                  have HMW := Lib.hid (HMK.out.of2 (HS.out.now).2.2.2.2)
                  go_wp2_with fail
                  go_roundw
                  case rel => exact ⟨k + 1, s2 + 1, hkm, by omega, by go_num, by go_num, HMW.out⟩
                  case measure => simp [intOf]; omega
          · skip
            have w1 : decide ((s1 : Int) < (g : Int)) = false := by simp; omega
            have w1n : decide (s1 < g) = false := by simp; omega
            go_wp2_with fail
            refine HP.out.mono ?_
            rintro e w2 ⟨v2, rfl, hv2, hc2, _⟩
            obtain ⟨ag, cg, gl, rfl, hol⟩ := hv2.form mm (by rw [dgD_len, rng_len])
            have HOL := Lib.hid hol
            have HC5 := Lib.hid hc2
            clear hv2 hol hc2 HP HC2
            go_wp2_with fail
            go_loopw [9, 20] (fun sv kv wr => ∃ k s2 : Nat, k ≤ mm ∧ s1 + k = s2 ∧ sv = .int .i64 (s2 : Int) ∧ kv = .int .i64 (k : Int) ∧ Mod (fun _ => False) w2 wr) (fun _ kv _ => mm - (intOf kv).toNat)
            case atStart => exact ⟨0, s1, Nat.zero_le _, rfl, rfl, rfl, Mod.refl _ _⟩
            case round =>
              obtain ⟨k, s2, hk, hks, rfl, rfl, hmk⟩ := hrel
              obtain ⟨wi, hwi⟩ : ∃ x : World, x = wr := ⟨_, rfl⟩
              subst hwi
              have HMK := Lib.hid hmk
              clear hmk
              replace hks : s1 + k ≤ s2 ∧ s2 ≤ s1 + k := ⟨Nat.le_of_eq hks, Nat.le_of_eq hks.symm⟩
              by_cases hkm : k < mm
              case neg =>
                obtain rfl : k = mm := by omega
                have y2 : decide ((k : Int) < (k : Int)) = false := by simp
                have y2n : decide (k < k) = false := by simp
                have HC3 := Lib.hid (HC5.out.later HMK.out)
                have hlo2 : (payC N 900 0 (ackC y (g - a))).os.length = q - s2 := by rw [HPX.out.os, rng_len]; omega
                have hs2e : s1 + k = s2 := by omega
                have hpx2 := HPX.out
                have hp32 := HP3.out
                rw [hs2e] at hpx2 hp32
                have HPX2 := Lib.hid hpx2
                have HP32 := Lib.hid hp32
                have hsx := hpx2.sw
                have hsx2 := hpx2.sq
                have hsx3 := hpx2.la
                clear hpx2 hp32 hs2e
                obtain ⟨d1, hd1⟩ : ∃ y : Nat, g + y ≤ s2 ∧ s2 ≤ g + y := ⟨s2 - g, by omega, by omega⟩
                obtain ⟨r1, hr1⟩ : ∃ y : Nat, s2 + y ≤ q ∧ q ≤ s2 + y := ⟨q - s2, by omega, by omega⟩
                have u1 : IntKind.i64.wrap ((s2 : Int) - (g : Int)) = (d1 : Int) := by rw [IntWalk.i64_in _ (by omega)]; omega
                have u1n : (s2 : Int) - (g : Int) = (d1 : Int) := by omega
                have u2 : IntKind.i64.wrap ((q : Int) - (s2 : Int)) = (r1 : Int) := by rw [IntWalk.i64_in _ (by omega)]; omega
                have u2n : (q : Int) - (s2 : Int) = (r1 : Int) := by omega
                have hd1b : d1 ≤ 200 := by omega
                have hr1b : r1 ≤ 200 := by omega
                have hd1w : IntKind.i64.wrap (d1 : Int) = (d1 : Int) := IntWalk.i64_in _ (by omega)
                have hr1w : IntKind.i64.wrap (r1 : Int) = (r1 : Int) := IntWalk.i64_in _ (by omega)
                have v1 : decide ((N : Int) < (d1 : Int)) = false := by simp; omega
                have v1n : decide (N < d1) = false := by simp; omega
                have HOW := Lib.hid (c1_owed HC3.out)
                rw [hlo2, show ((q - s2 : Nat) : Int) = (r1 : Int) by omega] at HOW
                have v2 : ((r1 : Int) != (r1 : Int)) = false := by simp
                by_cases hz : r1 = 0
                · skip
                  have v3 : decide (0 < (r1 : Int)) = false := by simp; omega
                  have v3n : decide (0 < r1) = false := by simp; omega
                  have HZ := Lib.hid hz
                  clear hz hlo2
                  go_wp2_with (first | (go_at_call 21; refine HOW.out.mono ?_; rintro e w' ⟨rfl, rfl⟩))
                  go_roundw
                  case rel => exact ⟨s2, g, j + 1, _, rfl, rfl, by go_num, by omega, by omega, HPX2.out, HP32.out, HC3.out⟩
                  case measure => simp [intOf]; omega
                · skip
                  have hs2N : s2 - g = N := HP32.out (by omega)
                  have v3 : decide (0 < (r1 : Int)) = true := by simp; omega
                  have v3n : decide (0 < r1) = true := by simp; omega
                  have v4 : ((d1 : Int) != (N : Int)) = false := by simp; omega
                  have HZ := Lib.hid hz
                  clear hz hlo2
                  go_wp2_with (first | (go_at_call 21; refine HOW.out.mono ?_; rintro e w' ⟨rfl, rfl⟩))
                  go_roundw
                  case rel => exact ⟨s2, g, j + 1, _, rfl, rfl, by go_num, by omega, by omega, HPX2.out, HP32.out, HC3.out⟩
                  case measure => simp [intOf]; omega
              case pos =>
                have y2 : decide ((k : Int) < (mm : Int)) = true := by simp; omega
                have y2n : decide (k < mm) = true := by simp; omega
                obtain ⟨fb, fo, fv, hpl, hsn, _, hnc, f0, f1, f2, f3, f4, f5, hbt⟩ := (HOL.out.keep HMK.out (fun _ _ e => e) (fun _ _ e => e.elim)).elem k _ (dgD_at 0 mm s1 k hkm)
                have hix := fun wx => run_indexS (P := Try.prog) wx 36 40 iG 6 Try.underlying36 hiG hsG ag mm cg k hkm hsn
                rw [hpl] at hix
                have hs2e : s1 + k = s2 := by omega
                rw [hs2e] at f2 hbt
                obtain ⟨ua, un, uc, rfl, hun, hbo⟩ := hbt
                obtain rfl : 1 = un := hun
                have hrd := Rd.ofOwn hbo
                have HIX := Lib.hid hix
                have hsw : IntKind.i64.wrap ((s2 : Int) + 1) = ((s2 + 1 : Nat) : Int) := by rw [IntWalk.i64_in _ (by omega)]; omega
                have hkw : IntKind.i64.wrap ((k : Int) + 1) = ((k + 1 : Nat) : Int) := by rw [IntWalk.i64_in _ (by omega)]; omega
                have hw8 : IntKind.u8.wrap (s2 : Int) = (s2 : Int) := IntWalk.u8_in _ (by omega)
                clear hbo hix hpl hsn hnc hs2e f0 f3 f4 hiG hzG hsG hbG
                have HS : Hid (Ev (Mod (fun _ => False) wi) wi) := Lib.hid (Ev.mod wi)
                replace HS := Lib.hid ((Ev.rd hrd).and HS.out)
                replace HS := Lib.hid ((Ev.cell f1).and HS.out)
                replace HS := Lib.hid ((Ev.cell f2).and HS.out)
                replace HS := Lib.hid ((Ev.cell f5).and HS.out)
                clear f1 f2 f5 hrd
                obtain ⟨Y, hY⟩ : ∃ x, strOf [(s2 : Int)] = x := ⟨_, rfl⟩
                have HY := Lib.hid hY
                clear hY
                go_upto_region 36 with fail
                have HSd := Lib.hid HS.out.drew
                refine wp_region_inv3 (act := ?actco1_r36_0) (Mod (fun _ => False)) (fun i => (co1_r36_0_F s2 fb fo uc k mm cg ua ag Y).getD i (fun _ _ => True)) (fun i => co1_r36_0_D.getD i []) (by kernel_rfl) (by kernel_rfl) (by kernel_rfl) (by kernel_rfl) (fun _ => Mod.refl _ _)
                  (fun _ _ _ h k => h.trans k (fun _ _ e => e) (fun _ _ e => e)) ?hactco1_r36_0 (stable_list ?_) ?_ ?_
                case hactco1_r36_0 => intro vs; simp only [putAll, Nat.zero_add, Nat.reduceAdd, Act.put, List.setIfInBounds_toArray, List.set_cons_succ, List.set_cons_zero]; exact rfl
                · unfold co1_r36_0_F
                  exact stable_cons (stable_val _) <| stable_cons (stable_val _) <| stable_cons (stable_val _) <| stable_cons (stable_val _) <| stable_cons (stable_val _) <| stable_cons (stable_val _) <| stable_cons (stable_val _) <| stable_cons (stable_val _) <| stable_cons (stable_val _) <| stable_cons (stable_val _) <| stable_cons (stable_val _) <| stable_cons (stable_val _) <| stable_cons (stable_val _) <| stable_cons (stable_val _) <| stable_cons (stable_val _) <| stable_cons (stable_val _) <| stable_cons (stable_val _) <| stable_cons (stable_val _) <| stable_cons (stable_val _) <| stable_cons (stable_val _) <| stable_cons (stable_val _) <| stable_cons (stable_val _) <| stable_cons (stable_val _) <| stable_cons (stable_val _) <| stable_cons (LitT.st) <| stable_cons (stable_val _) <| stable_cons (stable_val _) <| stable_cons (stable_val _) <| stable_nil
                · refine opsOkA_cons ?_ ?_
                  · intro K vs W hR hD hK
                    clear hD
                    try dsimp only at hK ⊢
                    simp only [Act.put, List.setIfInBounds_toArray, List.set_cons_succ, List.set_cons_zero] at hK
                    go_wp2
                    exact hK _ _ rfl (Mod.refl _ _)
                  refine opsOkA_cons ?_ ?_
                  · intro K vs W hR hD hK
                    clear hD
                    try dsimp only at hK ⊢
                    simp only [Act.put, List.setIfInBounds_toArray, List.set_cons_succ, List.set_cons_zero] at hK
                    go_wp2
                    exact hK _ _ rfl (Mod.refl _ _)
                  refine opsOkA_cons ?_ ?_
                  · intro K vs W hR hD hK
                    have dq0 : vs 0 = .slice ag mm cg := hD 0 (by decide)
                    have dq1 : vs 1 = .int .i64 (k : Int) := hD 1 (by decide)
                    clear hD
                    try dsimp only at hK ⊢
                    simp only [Act.put, List.setIfInBounds_toArray, List.set_cons_succ, List.set_cons_zero] at hK
                    generalize vs 0 = vq0 at hK dq0 ⊢
                    subst vq0
                    generalize vs 1 = vq1 at hK dq1 ⊢
                    subst vq1
                    have hix := HIX.out
                    go_wp2_with fail
                    exact hK _ _ rfl (Mod.refl _ _)
                  refine opsOkA_cons ?_ ?_
                  · intro K vs W hR hD hK
                    have dq2 : vs 2 = .pointer (some ⟨fb, fo, none⟩) := hD 2 (by decide)
                    clear hD
                    try dsimp only at hK ⊢
                    simp only [Act.put, List.setIfInBounds_toArray, List.set_cons_succ, List.set_cons_zero] at hK
                    generalize vs 2 = vq2 at hK dq2 ⊢
                    subst vq2
                    go_wp2
                    exact hK _ _ rfl (Mod.refl _ _)
                  refine opsOkA_cons ?_ ?_
                  · intro K vs W hR hD hK
                    have dq3 : vs 3 = .pointer (some ⟨fb, fo + 1, none⟩) := hD 3 (by decide)
                    clear hD
                    try dsimp only at hK ⊢
                    simp only [Act.put, List.setIfInBounds_toArray, List.set_cons_succ, List.set_cons_zero] at hK
                    generalize vs 3 = vq3 at hK dq3 ⊢
                    subst vq3
                    have hc := (HSd.out.at (hR)).2.2.1
                    go_wp2
                    exact hK _ _ rfl (Mod.refl _ _)
                  refine opsOkA_cons ?_ ?_
                  · intro K vs W hR hD hK
                    have dq4 : vs 4 = .int .i64 1 := hD 4 (by decide)
                    clear hD
                    try dsimp only at hK ⊢
                    simp only [Act.put, List.setIfInBounds_toArray, List.set_cons_succ, List.set_cons_zero] at hK
                    generalize vs 4 = vq4 at hK dq4 ⊢
                    subst vq4
                    go_wp2
                    exact hK _ _ rfl (Mod.refl _ _)
                  refine opsOkA_cons ?_ ?_
                  · intro K vs W hR hD hK
                    have dq5 : vs 5 = .bool false := hD 5 (by decide)
                    clear hD
                    try dsimp only at hK ⊢
                    simp only [Act.put, List.setIfInBounds_toArray, List.set_cons_succ, List.set_cons_zero] at hK
                    generalize vs 5 = vq5 at hK dq5 ⊢
                    subst vq5
                    go_wp2
                    exact hK _ _ rfl (Mod.refl _ _)
                  refine opsOkA_cons ?_ ?_
                  · intro K vs W hR hD hK
                    have dq6 : vs 6 = .bool false := hD 6 (by decide)
                    clear hD
                    try dsimp only at hK ⊢
                    simp only [Act.put, List.setIfInBounds_toArray, List.set_cons_succ, List.set_cons_zero] at hK
                    generalize vs 6 = vq6 at hK dq6 ⊢
                    subst vq6
                    go_wp2
                    exact hK _ _ rfl (Mod.refl _ _)
                  refine opsOkA_cons ?_ ?_
                  · intro K vs W hR hD hK
                    have dq6 : vs 6 = .bool false := hD 6 (by decide)
                    clear hD
                    try dsimp only at hK ⊢
                    simp only [Act.put, List.setIfInBounds_toArray, List.set_cons_succ, List.set_cons_zero] at hK
                    generalize vs 6 = vq6 at hK dq6 ⊢
                    subst vq6
                    go_wp2
                    exact hK _ _ rfl (Mod.refl _ _)
                  refine opsOkA_cons ?_ ?_
                  · intro K vs W hR hD hK
                    have dq6 : vs 6 = .bool false := hD 6 (by decide)
                    have dq7 : vs 7 = .slice ag mm cg := hD 7 (by decide)
                    have dq8 : vs 8 = .int .i64 (k : Int) := hD 8 (by decide)
                    clear hD
                    try dsimp only at hK ⊢
                    simp only [Act.put, List.setIfInBounds_toArray, List.set_cons_succ, List.set_cons_zero] at hK
                    generalize vs 6 = vq6 at hK dq6 ⊢
                    subst vq6
                    generalize vs 7 = vq7 at hK dq7 ⊢
                    subst vq7
                    generalize vs 8 = vq8 at hK dq8 ⊢
                    subst vq8
                    have hix := HIX.out
                    go_wp2_with fail
                    exact hK _ _ rfl (Mod.refl _ _)
                  refine opsOkA_cons ?_ ?_
                  · intro K vs W hR hD hK
                    have dq6 : vs 6 = .bool false := hD 6 (by decide)
                    have dq9 : vs 9 = .pointer (some ⟨fb, fo, none⟩) := hD 9 (by decide)
                    clear hD
                    try dsimp only at hK ⊢
                    simp only [Act.put, List.setIfInBounds_toArray, List.set_cons_succ, List.set_cons_zero] at hK
                    generalize vs 6 = vq6 at hK dq6 ⊢
                    subst vq6
                    generalize vs 9 = vq9 at hK dq9 ⊢
                    subst vq9
                    go_wp2
                    exact hK _ _ rfl (Mod.refl _ _)
                  refine opsOkA_cons ?_ ?_
                  · intro K vs W hR hD hK
                    have dq6 : vs 6 = .bool false := hD 6 (by decide)
                    have dq10 : vs 10 = .pointer (some ⟨fb, fo + 2, none⟩) := hD 10 (by decide)
                    clear hD
                    try dsimp only at hK ⊢
                    simp only [Act.put, List.setIfInBounds_toArray, List.set_cons_succ, List.set_cons_zero] at hK
                    generalize vs 6 = vq6 at hK dq6 ⊢
                    subst vq6
                    generalize vs 10 = vq10 at hK dq10 ⊢
                    subst vq10
                    have hc := (HSd.out.at (hR)).2.1
                    go_wp2
                    exact hK _ _ rfl (Mod.refl _ _)
                  refine opsOkA_cons ?_ ?_
                  · intro K vs W hR hD hK
                    have dq6 : vs 6 = .bool false := hD 6 (by decide)
                    clear hD
                    try dsimp only at hK ⊢
                    simp only [Act.put, List.setIfInBounds_toArray, List.set_cons_succ, List.set_cons_zero] at hK
                    generalize vs 6 = vq6 at hK dq6 ⊢
                    subst vq6
                    go_wp2
                    exact hK _ _ rfl (Mod.refl _ _)
                  refine opsOkA_cons ?_ ?_
                  · intro K vs W hR hD hK
                    have dq6 : vs 6 = .bool false := hD 6 (by decide)
                    have dq11 : vs 11 = .int .i64 (s2 : Int) := hD 11 (by decide)
                    have dq12 : vs 12 = .int .i64 (s2 : Int) := hD 12 (by decide)
                    clear hD
                    try dsimp only at hK ⊢
                    simp only [Act.put, List.setIfInBounds_toArray, List.set_cons_succ, List.set_cons_zero] at hK
                    generalize vs 6 = vq6 at hK dq6 ⊢
                    subst vq6
                    generalize vs 11 = vq11 at hK dq11 ⊢
                    subst vq11
                    generalize vs 12 = vq12 at hK dq12 ⊢
                    subst vq12
                    go_wp2
                    exact hK _ _ rfl (Mod.refl _ _)
                  refine opsOkA_cons ?_ ?_
                  · intro K vs W hR hD hK
                    have dq6 : vs 6 = .bool false := hD 6 (by decide)
                    have dq13 : vs 13 = .bool false := hD 13 (by decide)
                    clear hD
                    try dsimp only at hK ⊢
                    simp only [Act.put, List.setIfInBounds_toArray, List.set_cons_succ, List.set_cons_zero] at hK
                    generalize vs 6 = vq6 at hK dq6 ⊢
                    subst vq6
                    generalize vs 13 = vq13 at hK dq13 ⊢
                    subst vq13
                    go_wp2
                    exact hK _ _ rfl (Mod.refl _ _)
                  refine opsOkA_cons ?_ ?_
                  · intro K vs W hR hD hK
                    have dq14 : vs 14 = .bool false := hD 14 (by decide)
                    clear hD
                    try dsimp only at hK ⊢
                    simp only [Act.put, List.setIfInBounds_toArray, List.set_cons_succ, List.set_cons_zero] at hK
                    generalize vs 14 = vq14 at hK dq14 ⊢
                    subst vq14
                    go_wp2
                    exact hK _ _ rfl (Mod.refl _ _)
                  refine opsOkA_cons ?_ ?_
                  · intro K vs W hR hD hK
                    have dq15 : vs 15 = .bool false := hD 15 (by decide)
                    clear hD
                    try dsimp only at hK ⊢
                    simp only [Act.put, List.setIfInBounds_toArray, List.set_cons_succ, List.set_cons_zero] at hK
                    generalize vs 15 = vq15 at hK dq15 ⊢
                    subst vq15
                    go_wp2
                    exact hK _ _ rfl (Mod.refl _ _)
                  refine opsOkA_cons ?_ ?_
                  · intro K vs W hR hD hK
                    have dq15 : vs 15 = .bool false := hD 15 (by decide)
                    clear hD
                    try dsimp only at hK ⊢
                    simp only [Act.put, List.setIfInBounds_toArray, List.set_cons_succ, List.set_cons_zero] at hK
                    generalize vs 15 = vq15 at hK dq15 ⊢
                    subst vq15
                    go_wp2
                    exact hK _ _ rfl (Mod.refl _ _)
                  refine opsOkA_cons ?_ ?_
                  · intro K vs W hR hD hK
                    have dq15 : vs 15 = .bool false := hD 15 (by decide)
                    have dq16 : vs 16 = .slice ag mm cg := hD 16 (by decide)
                    have dq17 : vs 17 = .int .i64 (k : Int) := hD 17 (by decide)
                    clear hD
                    try dsimp only at hK ⊢
                    simp only [Act.put, List.setIfInBounds_toArray, List.set_cons_succ, List.set_cons_zero] at hK
                    generalize vs 15 = vq15 at hK dq15 ⊢
                    subst vq15
                    generalize vs 16 = vq16 at hK dq16 ⊢
                    subst vq16
                    generalize vs 17 = vq17 at hK dq17 ⊢
                    subst vq17
                    have hix := HIX.out
                    go_wp2_with fail
                    exact hK _ _ rfl (Mod.refl _ _)
                  refine opsOkA_cons ?_ ?_
                  · intro K vs W hR hD hK
                    have dq15 : vs 15 = .bool false := hD 15 (by decide)
                    have dq18 : vs 18 = .pointer (some ⟨fb, fo, none⟩) := hD 18 (by decide)
                    clear hD
                    try dsimp only at hK ⊢
                    simp only [Act.put, List.setIfInBounds_toArray, List.set_cons_succ, List.set_cons_zero] at hK
                    generalize vs 15 = vq15 at hK dq15 ⊢
                    subst vq15
                    generalize vs 18 = vq18 at hK dq18 ⊢
                    subst vq18
                    go_wp2
                    exact hK _ _ rfl (Mod.refl _ _)
                  refine opsOkA_cons ?_ ?_
                  · intro K vs W hR hD hK
                    have dq15 : vs 15 = .bool false := hD 15 (by decide)
                    have dq19 : vs 19 = .pointer (some ⟨fb, fo + 5, none⟩) := hD 19 (by decide)
                    clear hD
                    try dsimp only at hK ⊢
                    simp only [Act.put, List.setIfInBounds_toArray, List.set_cons_succ, List.set_cons_zero] at hK
                    generalize vs 15 = vq15 at hK dq15 ⊢
                    subst vq15
                    generalize vs 19 = vq19 at hK dq19 ⊢
                    subst vq19
                    have hc := (HSd.out.at (hR)).1
                    go_wp2
                    exact hK _ _ rfl (Mod.refl _ _)
                  refine opsOkA_cons ?_ ?_
                  · intro K vs W hR hD hK
                    have dq15 : vs 15 = .bool false := hD 15 (by decide)
                    have dq20 : vs 20 = .slice ua 1 uc := hD 20 (by decide)
                    clear hD
                    try dsimp only at hK ⊢
                    simp only [Act.put, List.setIfInBounds_toArray, List.set_cons_succ, List.set_cons_zero] at hK
                    generalize vs 15 = vq15 at hK dq15 ⊢
                    subst vq15
                    generalize vs 20 = vq20 at hK dq20 ⊢
                    subst vq20
                    have k1 := run_strS W 38 9 5 Try.underlying38 Try.underlying5 Try.underlying9 ((HSd.out.at (hR)).2.2.2.1)
                    rw [HY.out] at k1
                    go_wp2
                    exact hK _ _ rfl (Mod.refl _ _)
                  refine opsOkA_cons ?_ ?_
                  · intro K vs W hR hD hK
                    have dq15 : vs 15 = .bool false := hD 15 (by decide)
                    clear hD
                    try dsimp only at hK ⊢
                    simp only [Act.put, List.setIfInBounds_toArray, List.set_cons_succ, List.set_cons_zero] at hK
                    generalize vs 15 = vq15 at hK dq15 ⊢
                    subst vq15
                    go_wp2
                    exact hK _ _ rfl (Mod.refl _ _)
                  refine opsOkA_cons ?_ ?_
                  · intro K vs W hR hD hK
                    have dq15 : vs 15 = .bool false := hD 15 (by decide)
                    have dq22 : vs 22 = .int .i64 (s2 : Int) := hD 22 (by decide)
                    clear hD
                    try dsimp only at hK ⊢
                    simp only [Act.put, List.setIfInBounds_toArray, List.set_cons_succ, List.set_cons_zero] at hK
                    generalize vs 15 = vq15 at hK dq15 ⊢
                    subst vq15
                    generalize vs 22 = vq22 at hK dq22 ⊢
                    subst vq22
                    go_wp2
                    exact hK _ _ rfl (Mod.refl _ _)
                  refine opsOkA_cons ?_ ?_
                  · intro K vs W hR hD hK
                    have dq15 : vs 15 = .bool false := hD 15 (by decide)
                    have dq23 : vs 23 = .int .u8 (s2 : Int) := hD 23 (by decide)
                    clear hD
                    try dsimp only at hK ⊢
                    simp only [Act.put, List.setIfInBounds_toArray, List.set_cons_succ, List.set_cons_zero] at hK
                    generalize vs 15 = vq15 at hK dq15 ⊢
                    subst vq15
                    generalize vs 23 = vq23 at hK dq23 ⊢
                    subst vq23
                    go_wp2
                    exact hK _ _ ⟨_, rfl, by exact Rd.litN _ 1 _ _ _ 1 rfl rfl (by decide)⟩ (Mod.alloc _ _ _)
                  refine opsOkA_cons ?_ ?_
                  · intro K vs W hR hD hK
                    have dq15 : vs 15 = .bool false := hD 15 (by decide)
                    have dq24 : (LitT 1 [.int .u8 (s2 : Int)]) (vs 24) W := hD 24 (by decide)
                    clear hD
                    try dsimp only at hK ⊢
                    simp only [Act.put, List.setIfInBounds_toArray, List.set_cons_succ, List.set_cons_zero] at hK
                    generalize vs 15 = vq15 at hK dq15 ⊢
                    subst vq15
                    generalize vs 24 = vq24 at hK dq24 ⊢
                    obtain ⟨p24, rfl, hn24⟩ := dq24
                    have k1 := run_strS W 38 9 5 Try.underlying38 Try.underlying5 Try.underlying9 (show Rd W 1 _ 1 ([(s2 : Int)].map (Value.int .u8)) from hn24)
                    rw [HY.out] at k1
                    go_wp2
                    exact hK _ _ rfl (Mod.refl _ _)
                  refine opsOkA_cons ?_ ?_
                  · intro K vs W hR hD hK
                    have dq15 : vs 15 = .bool false := hD 15 (by decide)
                    have dq21 : vs 21 = .string Y := hD 21 (by decide)
                    have dq25 : vs 25 = .string Y := hD 25 (by decide)
                    clear hD
                    try dsimp only at hK ⊢
                    simp only [Act.put, List.setIfInBounds_toArray, List.set_cons_succ, List.set_cons_zero] at hK
                    generalize vs 15 = vq15 at hK dq15 ⊢
                    subst vq15
                    generalize vs 21 = vq21 at hK dq21 ⊢
                    subst vq21
                    generalize vs 25 = vq25 at hK dq25 ⊢
                    subst vq25
                    go_wp2
                    exact hK _ _ rfl (Mod.refl _ _)
                  refine opsOkA_cons ?_ ?_
                  · intro K vs W hR hD hK
                    have dq15 : vs 15 = .bool false := hD 15 (by decide)
                    have dq26 : vs 26 = .bool false := hD 26 (by decide)
                    clear hD
                    try dsimp only at hK ⊢
                    simp only [Act.put, List.setIfInBounds_toArray, List.set_cons_succ, List.set_cons_zero] at hK
                    generalize vs 15 = vq15 at hK dq15 ⊢
                    subst vq15
                    generalize vs 26 = vq26 at hK dq26 ⊢
                    subst vq26
                    go_wp2
                    exact hK _ _ rfl (Mod.refl _ _)
                  exact opsOkA_nil
                · intro vs wq1 hR hF
                  have dq27 : vs 27 = .bool false := hF 27 (by decide)
                  clear hF
                  try dsimp only
                  generalize vs 27 = vq27 at dq27 ⊢
                  subst dq27
                  replace HS := Lib.hid (HSd.out.step hR)
                  clear HSd hR
                  have HMW := Lib.hid (HMK.out.of2 (HS.out.now).2.2.2.2)
                  go_wp2_with fail
                  go_roundw
                  case rel => exact ⟨k + 1, s2 + 1, hkm, by omega, by go_num, by go_num, HMW.out⟩
                  case measure => simp [intOf]; omega
    case pos =>
      have z5 : decide ((i : Int) < (n : Int)) = true := by simp; omega
      have z5n : decide (i < n) = true := by simp; omega
      have hw9 : IntKind.u8.wrap (i : Int) = (i : Int) := IntWalk.u8_in _ (by omega)
      have hal : Mod (fun _ => False) wo (wo.alloc (.cells #[.int .u8 (i : Int)] 5)) := Mod.alloc _ _ _
      have hs0 : IntKind.i64.wrap ((s : Int) - 0) = (s : Int) := by rw [IntWalk.i64_in _ (by omega)]; omega
      have hi1 : IntKind.i64.wrap ((i : Int) + 1) = ((i + 1 : Nat) : Int) := by rw [IntWalk.i64_in _ (by omega)]; omega
      obtain ⟨r, hr⟩ : ∃ y : Nat, s + y ≤ q ∧ q ≤ s + y := ⟨q - s, by omega, by omega⟩
      have t1 : IntKind.i64.wrap ((q : Int) - (s : Int)) = (r : Int) := by rw [IntWalk.i64_in _ (by omega)]; omega
      have t1n : (q : Int) - (s : Int) = (r : Int) := by omega
      have hrb : r ≤ 64 := by omega
      have hrw : IntKind.i64.wrap (r : Int) = (r : Int) := IntWalk.i64_in _ (by omega)
      have hlo : x.os.length = r := by rw [HX.out.os, rng_len]; omega
      by_cases hf : 64 ≤ r
      case pos =>
        have HCA := Lib.hid (HC2.out.later hal)
        have hpf := c1_full HCA.out HX.out.o (by omega) 0 (.slice (some ⟨wo.heap.size, 0, none⟩) 1 1)
        have HPF := Lib.hid hpf
        have hsN : s - 0 = N := hfull (by omega)
        have t2 : decide (64 ≤ (r : Int)) = true := by simp; omega
        have t2n : decide (64 ≤ r) = true := by simp; omega
        have t3 : decide ((N : Int) ≤ (s : Int)) = true := by simp; omega
        have t3n : decide (N ≤ s) = true := by simp; omega
        clear hpf hal
        go_wp2_with fail
        refine HPF.out.mono ?_
        rintro e w' ⟨rfl, hw'⟩
        obtain ⟨wf, hwf⟩ : ∃ x : World, x = w' := ⟨_, rfl⟩
        subst hwf
        rw [hw'] at HCA
        clear hw' HPF
        obtain ⟨d1, hd1⟩ : ∃ y : Nat, 0 + y ≤ s ∧ s ≤ 0 + y := ⟨s - 0, by omega, by omega⟩
        obtain ⟨r1, hr1⟩ : ∃ y : Nat, s + y ≤ q ∧ q ≤ s + y := ⟨q - s, by omega, by omega⟩
        have u1 : IntKind.i64.wrap ((s : Int) - (0 : Int)) = (d1 : Int) := by rw [IntWalk.i64_in _ (by omega)]; omega
        have u1n : (s : Int) - (0 : Int) = (d1 : Int) := by omega
        have u2 : IntKind.i64.wrap ((q : Int) - (s : Int)) = (r1 : Int) := by rw [IntWalk.i64_in _ (by omega)]; omega
        have u2n : (q : Int) - (s : Int) = (r1 : Int) := by omega
        have hd1b : d1 ≤ 200 := by omega
        have hr1b : r1 ≤ 200 := by omega
        have hd1w : IntKind.i64.wrap (d1 : Int) = (d1 : Int) := IntWalk.i64_in _ (by omega)
        have hr1w : IntKind.i64.wrap (r1 : Int) = (r1 : Int) := IntWalk.i64_in _ (by omega)
        have v1 : decide ((N : Int) < (d1 : Int)) = false := by simp; omega
        have v1n : decide (N < d1) = false := by simp; omega
        have v2 : ((r1 : Int) != (r1 : Int)) = false := by simp
        have v3 : decide (0 < (r1 : Int)) = true := by simp; omega
        have v3n : decide (0 < r1) = true := by simp; omega
        have v4 : ((d1 : Int) != (N : Int)) = false := by simp; omega
        have v5 : ((s : Int) != (N : Int)) = false := by simp; omega
        have HOW := Lib.hid (c1_owed HCA.out)
        rw [hlo, show ((r : Nat) : Int) = (r1 : Int) by omega] at HOW
        go_wp2_with (first | (go_at_call 21; refine HOW.out.mono ?_; rintro e w' ⟨rfl, rfl⟩))
        go_roundw
        case rel => exact ⟨s, q, i + 1, x, rfl, rfl, by go_num, by omega, by omega, .inr (by omega), h64, HX.out, hfull, HCA.out⟩
        case measure => simp [intOf]; omega
      case neg =>
        obtain rfl : q = i := by omega
        obtain ⟨mm, hmm⟩ : ∃ y, min (N - (s - 0)) (q + 1 - s) = y := ⟨_, rfl⟩
        have hpay := (HX.out.owe).pay 900 0 mm hmm
        obtain ⟨hp1, hp2, hp3, hp4⟩ := hpay
        have HPX := Lib.hid hp2
        have HP3 := Lib.hid hp3
        have hp := c1_push (HC2.out.later hal) HX.out.o (HX.out.b h64 (by omega)) (by omega) 0 (by omega) [(q : Int)] _ 1 rfl (Rd.lit 5 [.int .u8 (q : Int)] (0, 0) _ 1 rfl rfl (by decide)) (by omega)
        rw [hp1] at hp
        have HP := Lib.hid hp
        have hmm17 : mm ≤ 16 := by omega
        have t2 : decide (64 ≤ (r : Int)) = false := by simp; omega
        have t2n : decide (64 ≤ r) = false := by simp; omega
        have hmb : min (N - s) (q + 1 - s) = mm := by rw [← hmm]; rfl
        clear hp hal hp1 hp2 hp3 hmm
        go_wp2_with fail
        refine HP.out.mono ?_
        rintro e w2 ⟨v2, rfl, hv2, hc2, _⟩
        obtain ⟨ag, cg, gl, rfl, hol⟩ := hv2.form mm (by rw [dgD_len, rng_len])
        have HOL := Lib.hid hol
        have HC5 := Lib.hid hc2
        clear hv2 hol hc2 HP HC2
        go_wp2_with fail
        go_loopw [9, 15] (fun sv kv wr => ∃ k s2 : Nat, k ≤ mm ∧ s + k = s2 ∧ sv = .int .i64 (s2 : Int) ∧ kv = .int .i64 (k : Int) ∧ Mod (fun _ => False) w2 wr) (fun _ kv _ => mm - (intOf kv).toNat)
        case atStart => exact ⟨0, s, Nat.zero_le _, rfl, rfl, rfl, Mod.refl _ _⟩
        case round =>
          obtain ⟨k, s2, hk, hks, rfl, rfl, hmk⟩ := hrel
          obtain ⟨wi, hwi⟩ : ∃ x : World, x = wr := ⟨_, rfl⟩
          subst hwi
          have HMK := Lib.hid hmk
          clear hmk
          replace hks : s + k ≤ s2 ∧ s2 ≤ s + k := ⟨Nat.le_of_eq hks, Nat.le_of_eq hks.symm⟩
          by_cases hkm : k < mm
          case neg =>
            obtain rfl : k = mm := by omega
            have y2 : decide ((k : Int) < (k : Int)) = false := by simp
            have y2n : decide (k < k) = false := by simp
            have HC3 := Lib.hid (HC5.out.later HMK.out)
            have hlo2 : (payC N 900 0 (oweS x [(q : Int)])).os.length = q + 1 - s2 := by rw [HPX.out.os, rng_len]; omega
            obtain ⟨q2, hq2⟩ : ∃ y, y = q + 1 := ⟨_, rfl⟩
            have hq2w : ((q + 1 : Nat) : Int) = (q2 : Int) := by omega
            have hs2e : s + k = s2 := by omega
            have hpx2 := HPX.out
            have hp32 := HP3.out
            rw [hs2e] at hpx2 hp32
            have HPX2 := Lib.hid hpx2
            have HP32 := Lib.hid hp32
            have hsx := hpx2.sw
            have hsx2 := hpx2.sq
            clear hpx2 hp32 hs2e
            obtain ⟨d1, hd1⟩ : ∃ y : Nat, 0 + y ≤ s2 ∧ s2 ≤ 0 + y := ⟨s2, by omega, by omega⟩
            obtain ⟨r1, hr1⟩ : ∃ y : Nat, s2 + y ≤ q + 1 ∧ q + 1 ≤ s2 + y := ⟨q + 1 - s2, by omega, by omega⟩
            have u1 : IntKind.i64.wrap ((s2 : Int) - 0) = (s2 : Int) := by rw [IntWalk.i64_in _ (by omega)]; omega
            have u2 : IntKind.i64.wrap (((q + 1 : Nat) : Int) - (s2 : Int)) = (r1 : Int) := by rw [IntWalk.i64_in _ (by omega)]; omega
            have u3 : IntKind.i64.wrap ((q : Int) + 1 - (s2 : Int)) = (r1 : Int) := by rw [IntWalk.i64_in _ (by omega)]; omega
            have u3n : (q : Int) + 1 - (s2 : Int) = (r1 : Int) := by omega
            have hr1b : r1 ≤ 101 := by omega
            have hr1w : IntKind.i64.wrap (r1 : Int) = (r1 : Int) := IntWalk.i64_in _ (by omega)
            have v1 : decide ((N : Int) < (s2 : Int)) = false := by simp; omega
            have v1n : decide (N < s2) = false := by simp; omega
            have HOW := Lib.hid (c1_owed HC3.out)
            rw [hlo2, show ((q + 1 - s2 : Nat) : Int) = (r1 : Int) by omega] at HOW
            have v2 : ((r1 : Int) != (r1 : Int)) = false := by simp
            have hr64 : r1 ≤ 64 := by omega
            by_cases hz : r1 = 0
            · skip
              have v3 : decide (0 < (r1 : Int)) = false := by simp; omega
              have v3n : decide (0 < r1) = false := by simp; omega
              have HZ := Lib.hid hz
              clear hz hlo2 hq2 hq2w
              go_wp2_with (first | (go_at_call 21; refine HOW.out.mono ?_; rintro e w' ⟨rfl, rfl⟩))
              go_roundw
              case rel => exact ⟨s2, q + 1, q + 1, _, rfl, by go_num, by go_num, by omega, by omega, .inl rfl, by omega, HPX2.out, HP32.out, HC3.out⟩
              case measure => simp [intOf]; omega
            · skip
              have hs2N : s2 - 0 = N := HP32.out (by omega)
              have v3 : decide (0 < (r1 : Int)) = true := by simp; omega
              have v3n : decide (0 < r1) = true := by simp; omega
              have v4 : ((s2 : Int) != (N : Int)) = false := by simp; omega
              have HZ := Lib.hid hz
              clear hz hlo2 hq2 hq2w
              go_wp2_with (first | (go_at_call 21; refine HOW.out.mono ?_; rintro e w' ⟨rfl, rfl⟩))
              go_roundw
              case rel => exact ⟨s2, q + 1, q + 1, _, rfl, by go_num, by go_num, by omega, by omega, .inl rfl, by omega, HPX2.out, HP32.out, HC3.out⟩
              case measure => simp [intOf]; omega
          case pos =>
            have y2 : decide ((k : Int) < (mm : Int)) = true := by simp; omega
            have y2n : decide (k < mm) = true := by simp; omega
            obtain ⟨fb, fo, fv, hpl, hsn, _, hnc, f0, f1, f2, f3, f4, f5, hbt⟩ := (HOL.out.keep HMK.out (fun _ _ e => e) (fun _ _ e => e.elim)).elem k _ (dgD_at 0 mm s k hkm)
            have hix := fun wx => run_indexS (P := Try.prog) wx 36 40 iG 6 Try.underlying36 hiG hsG ag mm cg k hkm hsn
            rw [hpl] at hix
            have hs2e : s + k = s2 := by omega
            rw [hs2e] at f2 hbt
            obtain ⟨ua, un, uc, rfl, hun, hbo⟩ := hbt
            obtain rfl : 1 = un := hun
            have hrd := Rd.ofOwn hbo
            have HIX := Lib.hid hix
            have hsw : IntKind.i64.wrap ((s2 : Int) + 1) = ((s2 + 1 : Nat) : Int) := by rw [IntWalk.i64_in _ (by omega)]; omega
            have hkw : IntKind.i64.wrap ((k : Int) + 1) = ((k + 1 : Nat) : Int) := by rw [IntWalk.i64_in _ (by omega)]; omega
            have hw8 : IntKind.u8.wrap (s2 : Int) = (s2 : Int) := IntWalk.u8_in _ (by omega)
            clear hbo hix hpl hsn hnc hs2e f0 f3 f4 hiG hzG hsG hbG
            have HS : Hid (Ev (Mod (fun _ => False) wi) wi) := Lib.hid (Ev.mod wi)
            replace HS := Lib.hid ((Ev.rd hrd).and HS.out)
            replace HS := Lib.hid ((Ev.cell f1).and HS.out)
            replace HS := Lib.hid ((Ev.cell f2).and HS.out)
            replace HS := Lib.hid ((Ev.cell f5).and HS.out)
            clear f1 f2 f5 hrd
            obtain ⟨Y, hY⟩ : ∃ x, strOf [(s2 : Int)] = x := ⟨_, rfl⟩
            have HY := Lib.hid hY
            clear hY
            go_upto_region 20 with fail
            have HSd := Lib.hid HS.out.drew
            refine wp_region_inv3 (act := ?actco2_r20_0) (Mod (fun _ => False)) (fun i => (co2_r20_0_F s2 fb fo uc k mm cg ua ag Y).getD i (fun _ _ => True)) (fun i => co2_r20_0_D.getD i []) (by kernel_rfl) (by kernel_rfl) (by kernel_rfl) (by kernel_rfl) (fun _ => Mod.refl _ _)
              (fun _ _ _ h k => h.trans k (fun _ _ e => e) (fun _ _ e => e)) ?hactco2_r20_0 (stable_list ?_) ?_ ?_
            case hactco2_r20_0 => intro vs; simp only [putAll, Nat.zero_add, Nat.reduceAdd, Act.put, List.setIfInBounds_toArray, List.set_cons_succ, List.set_cons_zero]; exact rfl
            · unfold co2_r20_0_F
              exact stable_cons (stable_val _) <| stable_cons (stable_val _) <| stable_cons (stable_val _) <| stable_cons (stable_val _) <| stable_cons (stable_val _) <| stable_cons (stable_val _) <| stable_cons (stable_val _) <| stable_cons (stable_val _) <| stable_cons (stable_val _) <| stable_cons (stable_val _) <| stable_cons (stable_val _) <| stable_cons (stable_val _) <| stable_cons (stable_val _) <| stable_cons (stable_val _) <| stable_cons (stable_val _) <| stable_cons (stable_val _) <| stable_cons (stable_val _) <| stable_cons (stable_val _) <| stable_cons (stable_val _) <| stable_cons (stable_val _) <| stable_cons (stable_val _) <| stable_cons (stable_val _) <| stable_cons (stable_val _) <| stable_cons (stable_val _) <| stable_cons (LitT.st) <| stable_cons (stable_val _) <| stable_cons (stable_val _) <| stable_cons (stable_val _) <| stable_nil
            · refine opsOkA_cons ?_ ?_
              · intro K vs W hR hD hK
                clear hD
                try dsimp only at hK ⊢
                simp only [Act.put, List.setIfInBounds_toArray, List.set_cons_succ, List.set_cons_zero] at hK
                go_wp2
                exact hK _ _ rfl (Mod.refl _ _)
              refine opsOkA_cons ?_ ?_
              · intro K vs W hR hD hK
                clear hD
                try dsimp only at hK ⊢
                simp only [Act.put, List.setIfInBounds_toArray, List.set_cons_succ, List.set_cons_zero] at hK
                go_wp2
                exact hK _ _ rfl (Mod.refl _ _)
              refine opsOkA_cons ?_ ?_
              · intro K vs W hR hD hK
                have dq0 : vs 0 = .slice ag mm cg := hD 0 (by decide)
                have dq1 : vs 1 = .int .i64 (k : Int) := hD 1 (by decide)
                clear hD
                try dsimp only at hK ⊢
                simp only [Act.put, List.setIfInBounds_toArray, List.set_cons_succ, List.set_cons_zero] at hK
                generalize vs 0 = vq0 at hK dq0 ⊢
                subst vq0
                generalize vs 1 = vq1 at hK dq1 ⊢
                subst vq1
                have hix := HIX.out
                go_wp2_with fail
                exact hK _ _ rfl (Mod.refl _ _)
              refine opsOkA_cons ?_ ?_
              · intro K vs W hR hD hK
                have dq2 : vs 2 = .pointer (some ⟨fb, fo, none⟩) := hD 2 (by decide)
                clear hD
                try dsimp only at hK ⊢
                simp only [Act.put, List.setIfInBounds_toArray, List.set_cons_succ, List.set_cons_zero] at hK
                generalize vs 2 = vq2 at hK dq2 ⊢
                subst vq2
                go_wp2
                exact hK _ _ rfl (Mod.refl _ _)
              refine opsOkA_cons ?_ ?_
              · intro K vs W hR hD hK
                have dq3 : vs 3 = .pointer (some ⟨fb, fo + 1, none⟩) := hD 3 (by decide)
                clear hD
                try dsimp only at hK ⊢
                simp only [Act.put, List.setIfInBounds_toArray, List.set_cons_succ, List.set_cons_zero] at hK
                generalize vs 3 = vq3 at hK dq3 ⊢
                subst vq3
                have hc := (HSd.out.at (hR)).2.2.1
                go_wp2
                exact hK _ _ rfl (Mod.refl _ _)
              refine opsOkA_cons ?_ ?_
              · intro K vs W hR hD hK
                have dq4 : vs 4 = .int .i64 1 := hD 4 (by decide)
                clear hD
                try dsimp only at hK ⊢
                simp only [Act.put, List.setIfInBounds_toArray, List.set_cons_succ, List.set_cons_zero] at hK
                generalize vs 4 = vq4 at hK dq4 ⊢
                subst vq4
                go_wp2
                exact hK _ _ rfl (Mod.refl _ _)
              refine opsOkA_cons ?_ ?_
              · intro K vs W hR hD hK
                have dq5 : vs 5 = .bool false := hD 5 (by decide)
                clear hD
                try dsimp only at hK ⊢
                simp only [Act.put, List.setIfInBounds_toArray, List.set_cons_succ, List.set_cons_zero] at hK
                generalize vs 5 = vq5 at hK dq5 ⊢
                subst vq5
                go_wp2
                exact hK _ _ rfl (Mod.refl _ _)
              refine opsOkA_cons ?_ ?_
              · intro K vs W hR hD hK
                have dq6 : vs 6 = .bool false := hD 6 (by decide)
                clear hD
                try dsimp only at hK ⊢
                simp only [Act.put, List.setIfInBounds_toArray, List.set_cons_succ, List.set_cons_zero] at hK
                generalize vs 6 = vq6 at hK dq6 ⊢
                subst vq6
                go_wp2
                exact hK _ _ rfl (Mod.refl _ _)
              refine opsOkA_cons ?_ ?_
              · intro K vs W hR hD hK
                have dq6 : vs 6 = .bool false := hD 6 (by decide)
                clear hD
                try dsimp only at hK ⊢
                simp only [Act.put, List.setIfInBounds_toArray, List.set_cons_succ, List.set_cons_zero] at hK
                generalize vs 6 = vq6 at hK dq6 ⊢
                subst vq6
                go_wp2
                exact hK _ _ rfl (Mod.refl _ _)
              refine opsOkA_cons ?_ ?_
              · intro K vs W hR hD hK
                have dq6 : vs 6 = .bool false := hD 6 (by decide)
                have dq7 : vs 7 = .slice ag mm cg := hD 7 (by decide)
                have dq8 : vs 8 = .int .i64 (k : Int) := hD 8 (by decide)
                clear hD
                try dsimp only at hK ⊢
                simp only [Act.put, List.setIfInBounds_toArray, List.set_cons_succ, List.set_cons_zero] at hK
                generalize vs 6 = vq6 at hK dq6 ⊢
                subst vq6
                generalize vs 7 = vq7 at hK dq7 ⊢
                subst vq7
                generalize vs 8 = vq8 at hK dq8 ⊢
                subst vq8
                have hix := HIX.out
                go_wp2_with fail
                exact hK _ _ rfl (Mod.refl _ _)
              refine opsOkA_cons ?_ ?_
              · intro K vs W hR hD hK
                have dq6 : vs 6 = .bool false := hD 6 (by decide)
                have dq9 : vs 9 = .pointer (some ⟨fb, fo, none⟩) := hD 9 (by decide)
                clear hD
                try dsimp only at hK ⊢
                simp only [Act.put, List.setIfInBounds_toArray, List.set_cons_succ, List.set_cons_zero] at hK
                generalize vs 6 = vq6 at hK dq6 ⊢
                subst vq6
                generalize vs 9 = vq9 at hK dq9 ⊢
                subst vq9
                go_wp2
                exact hK _ _ rfl (Mod.refl _ _)
              refine opsOkA_cons ?_ ?_
              · intro K vs W hR hD hK
                have dq6 : vs 6 = .bool false := hD 6 (by decide)
                have dq10 : vs 10 = .pointer (some ⟨fb, fo + 2, none⟩) := hD 10 (by decide)
                clear hD
                try dsimp only at hK ⊢
                simp only [Act.put, List.setIfInBounds_toArray, List.set_cons_succ, List.set_cons_zero] at hK
                generalize vs 6 = vq6 at hK dq6 ⊢
                subst vq6
                generalize vs 10 = vq10 at hK dq10 ⊢
                subst vq10
                have hc := (HSd.out.at (hR)).2.1
                go_wp2
                exact hK _ _ rfl (Mod.refl _ _)
              refine opsOkA_cons ?_ ?_
              · intro K vs W hR hD hK
                have dq6 : vs 6 = .bool false := hD 6 (by decide)
                clear hD
                try dsimp only at hK ⊢
                simp only [Act.put, List.setIfInBounds_toArray, List.set_cons_succ, List.set_cons_zero] at hK
                generalize vs 6 = vq6 at hK dq6 ⊢
                subst vq6
                go_wp2
                exact hK _ _ rfl (Mod.refl _ _)
              refine opsOkA_cons ?_ ?_
              · intro K vs W hR hD hK
                have dq6 : vs 6 = .bool false := hD 6 (by decide)
                have dq11 : vs 11 = .int .i64 (s2 : Int) := hD 11 (by decide)
                have dq12 : vs 12 = .int .i64 (s2 : Int) := hD 12 (by decide)
                clear hD
                try dsimp only at hK ⊢
                simp only [Act.put, List.setIfInBounds_toArray, List.set_cons_succ, List.set_cons_zero] at hK
                generalize vs 6 = vq6 at hK dq6 ⊢
                subst vq6
                generalize vs 11 = vq11 at hK dq11 ⊢
                subst vq11
                generalize vs 12 = vq12 at hK dq12 ⊢
                subst vq12
                go_wp2
                exact hK _ _ rfl (Mod.refl _ _)
              refine opsOkA_cons ?_ ?_
              · intro K vs W hR hD hK
                have dq6 : vs 6 = .bool false := hD 6 (by decide)
                have dq13 : vs 13 = .bool false := hD 13 (by decide)
                clear hD
                try dsimp only at hK ⊢
                simp only [Act.put, List.setIfInBounds_toArray, List.set_cons_succ, List.set_cons_zero] at hK
                generalize vs 6 = vq6 at hK dq6 ⊢
                subst vq6
                generalize vs 13 = vq13 at hK dq13 ⊢
                subst vq13
                go_wp2
                exact hK _ _ rfl (Mod.refl _ _)
              refine opsOkA_cons ?_ ?_
              · intro K vs W hR hD hK
                have dq14 : vs 14 = .bool false := hD 14 (by decide)
                clear hD
                try dsimp only at hK ⊢
                simp only [Act.put, List.setIfInBounds_toArray, List.set_cons_succ, List.set_cons_zero] at hK
                generalize vs 14 = vq14 at hK dq14 ⊢
                subst vq14
                go_wp2
                exact hK _ _ rfl (Mod.refl _ _)
              refine opsOkA_cons ?_ ?_
              · intro K vs W hR hD hK
                have dq15 : vs 15 = .bool false := hD 15 (by decide)
                clear hD
                try dsimp only at hK ⊢
                simp only [Act.put, List.setIfInBounds_toArray, List.set_cons_succ, List.set_cons_zero] at hK
                generalize vs 15 = vq15 at hK dq15 ⊢
                subst vq15
                go_wp2
                exact hK _ _ rfl (Mod.refl _ _)
              refine opsOkA_cons ?_ ?_
              · intro K vs W hR hD hK
                have dq15 : vs 15 = .bool false := hD 15 (by decide)
                clear hD
                try dsimp only at hK ⊢
                simp only [Act.put, List.setIfInBounds_toArray, List.set_cons_succ, List.set_cons_zero] at hK
                generalize vs 15 = vq15 at hK dq15 ⊢
                subst vq15
                go_wp2
                exact hK _ _ rfl (Mod.refl _ _)
              refine opsOkA_cons ?_ ?_
              · intro K vs W hR hD hK
                have dq15 : vs 15 = .bool false := hD 15 (by decide)
                have dq16 : vs 16 = .slice ag mm cg := hD 16 (by decide)
                have dq17 : vs 17 = .int .i64 (k : Int) := hD 17 (by decide)
                clear hD
                try dsimp only at hK ⊢
                simp only [Act.put, List.setIfInBounds_toArray, List.set_cons_succ, List.set_cons_zero] at hK
                generalize vs 15 = vq15 at hK dq15 ⊢
                subst vq15
                generalize vs 16 = vq16 at hK dq16 ⊢
                subst vq16
                generalize vs 17 = vq17 at hK dq17 ⊢
                subst vq17
                have hix := HIX.out
                go_wp2_with fail
                exact hK _ _ rfl (Mod.refl _ _)
              refine opsOkA_cons ?_ ?_
              · intro K vs W hR hD hK
                have dq15 : vs 15 = .bool false := hD 15 (by decide)
                have dq18 : vs 18 = .pointer (some ⟨fb, fo, none⟩) := hD 18 (by decide)
                clear hD
                try dsimp only at hK ⊢
                simp only [Act.put, List.setIfInBounds_toArray, List.set_cons_succ, List.set_cons_zero] at hK
                generalize vs 15 = vq15 at hK dq15 ⊢
                subst vq15
                generalize vs 18 = vq18 at hK dq18 ⊢
                subst vq18
                go_wp2
                exact hK _ _ rfl (Mod.refl _ _)
              refine opsOkA_cons ?_ ?_
              · intro K vs W hR hD hK
                have dq15 : vs 15 = .bool false := hD 15 (by decide)
                have dq19 : vs 19 = .pointer (some ⟨fb, fo + 5, none⟩) := hD 19 (by decide)
                clear hD
                try dsimp only at hK ⊢
                simp only [Act.put, List.setIfInBounds_toArray, List.set_cons_succ, List.set_cons_zero] at hK
                generalize vs 15 = vq15 at hK dq15 ⊢
                subst vq15
                generalize vs 19 = vq19 at hK dq19 ⊢
                subst vq19
                have hc := (HSd.out.at (hR)).1
                go_wp2
                exact hK _ _ rfl (Mod.refl _ _)
              refine opsOkA_cons ?_ ?_
              · intro K vs W hR hD hK
                have dq15 : vs 15 = .bool false := hD 15 (by decide)
                have dq20 : vs 20 = .slice ua 1 uc := hD 20 (by decide)
                clear hD
                try dsimp only at hK ⊢
                simp only [Act.put, List.setIfInBounds_toArray, List.set_cons_succ, List.set_cons_zero] at hK
                generalize vs 15 = vq15 at hK dq15 ⊢
                subst vq15
                generalize vs 20 = vq20 at hK dq20 ⊢
                subst vq20
                have k1 := run_strS W 38 9 5 Try.underlying38 Try.underlying5 Try.underlying9 ((HSd.out.at (hR)).2.2.2.1)
                rw [HY.out] at k1
                go_wp2
                exact hK _ _ rfl (Mod.refl _ _)
              refine opsOkA_cons ?_ ?_
              · intro K vs W hR hD hK
                have dq15 : vs 15 = .bool false := hD 15 (by decide)
                clear hD
                try dsimp only at hK ⊢
                simp only [Act.put, List.setIfInBounds_toArray, List.set_cons_succ, List.set_cons_zero] at hK
                generalize vs 15 = vq15 at hK dq15 ⊢
                subst vq15
                go_wp2
                exact hK _ _ rfl (Mod.refl _ _)
              refine opsOkA_cons ?_ ?_
              · intro K vs W hR hD hK
                have dq15 : vs 15 = .bool false := hD 15 (by decide)
                have dq22 : vs 22 = .int .i64 (s2 : Int) := hD 22 (by decide)
                clear hD
                try dsimp only at hK ⊢
                simp only [Act.put, List.setIfInBounds_toArray, List.set_cons_succ, List.set_cons_zero] at hK
                generalize vs 15 = vq15 at hK dq15 ⊢
                subst vq15
                generalize vs 22 = vq22 at hK dq22 ⊢
                subst vq22
                go_wp2
                exact hK _ _ rfl (Mod.refl _ _)
              refine opsOkA_cons ?_ ?_
              · intro K vs W hR hD hK
                have dq15 : vs 15 = .bool false := hD 15 (by decide)
                have dq23 : vs 23 = .int .u8 (s2 : Int) := hD 23 (by decide)
                clear hD
                try dsimp only at hK ⊢
                simp only [Act.put, List.setIfInBounds_toArray, List.set_cons_succ, List.set_cons_zero] at hK
                generalize vs 15 = vq15 at hK dq15 ⊢
                subst vq15
                generalize vs 23 = vq23 at hK dq23 ⊢
                subst vq23
                go_wp2
                exact hK _ _ ⟨_, rfl, by exact Rd.litN _ 1 _ _ _ 1 rfl rfl (by decide)⟩ (Mod.alloc _ _ _)
              refine opsOkA_cons ?_ ?_
              · intro K vs W hR hD hK
                have dq15 : vs 15 = .bool false := hD 15 (by decide)
                have dq24 : (LitT 1 [.int .u8 (s2 : Int)]) (vs 24) W := hD 24 (by decide)
                clear hD
                try dsimp only at hK ⊢
                simp only [Act.put, List.setIfInBounds_toArray, List.set_cons_succ, List.set_cons_zero] at hK
                generalize vs 15 = vq15 at hK dq15 ⊢
                subst vq15
                generalize vs 24 = vq24 at hK dq24 ⊢
                obtain ⟨p24, rfl, hn24⟩ := dq24
                have k1 := run_strS W 38 9 5 Try.underlying38 Try.underlying5 Try.underlying9 (show Rd W 1 _ 1 ([(s2 : Int)].map (Value.int .u8)) from hn24)
                rw [HY.out] at k1
                go_wp2
                exact hK _ _ rfl (Mod.refl _ _)
              refine opsOkA_cons ?_ ?_
              · intro K vs W hR hD hK
                have dq15 : vs 15 = .bool false := hD 15 (by decide)
                have dq21 : vs 21 = .string Y := hD 21 (by decide)
                have dq25 : vs 25 = .string Y := hD 25 (by decide)
                clear hD
                try dsimp only at hK ⊢
                simp only [Act.put, List.setIfInBounds_toArray, List.set_cons_succ, List.set_cons_zero] at hK
                generalize vs 15 = vq15 at hK dq15 ⊢
                subst vq15
                generalize vs 21 = vq21 at hK dq21 ⊢
                subst vq21
                generalize vs 25 = vq25 at hK dq25 ⊢
                subst vq25
                go_wp2
                exact hK _ _ rfl (Mod.refl _ _)
              refine opsOkA_cons ?_ ?_
              · intro K vs W hR hD hK
                have dq15 : vs 15 = .bool false := hD 15 (by decide)
                have dq26 : vs 26 = .bool false := hD 26 (by decide)
                clear hD
                try dsimp only at hK ⊢
                simp only [Act.put, List.setIfInBounds_toArray, List.set_cons_succ, List.set_cons_zero] at hK
                generalize vs 15 = vq15 at hK dq15 ⊢
                subst vq15
                generalize vs 26 = vq26 at hK dq26 ⊢
                subst vq26
                go_wp2
                exact hK _ _ rfl (Mod.refl _ _)
              exact opsOkA_nil
            · intro vs wq1 hR hF
              have dq27 : vs 27 = .bool false := hF 27 (by decide)
              clear hF
              try dsimp only
              generalize vs 27 = vq27 at dq27 ⊢
              subst dq27
              replace HS := Lib.hid (HSd.out.step hR)
              clear HSd hR
              have HMW := Lib.hid (HMK.out.of2 (HS.out.now).2.2.2.2)
              go_wp2_with fail
              go_roundw
              case rel => exact ⟨k + 1, s2 + 1, hkm, by omega, by go_num, by go_num, HMW.out⟩
              case measure => simp [intOf]; omega
theorem chowes_law (w : World) (nv : Int) (_ : (Lit.int .i64 nv).wf = true) (tv : Int) (_ : (Lit.int .i64 tv).wf = true) (a0 : Option Addr) (m c0 : Nat) (l : List Int) (ok : (encSlice (encInt .i64)).ok w (.slice a0 m c0, l)) :
    Calls Try.prog 5 #[.int .i64 nv, .int .i64 tv, .slice a0 m c0] w fun e w' => e = .returned (.bool true) ∧ Below w.heap.size w w' := by
  obtain ⟨hn, hr, _⟩ := ok_ints ok
  exact (chowes_all w nv tv a0 m c0 l hn hr).mono fun e w' h => ⟨h.1, h.2.below (Nat.le_refl _) (fun _ e => e.elim)⟩
end Go.Proofs.Ytdahoecejnnjkaa
