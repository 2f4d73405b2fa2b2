/- Law WitnessTells. -/
import Derived.Test.YtnklgeekjkchbaaWTrue14
import Derived.Test.YtnklgeekjkchbaaRWit
import Derived.Test.YtnklgeekjkchbaaOpen5
import Derived.Test.YtnklgeekjkchbaaKReg
import Derived.Deep.DeepCutAuto
import Derived.Deep.CutBlock
namespace Go.Proofs.Ytnklgeekjkchbaa
open Go.RowKit Mile
set_option maxRecDepth 100000
/-- How far, of any two numbers. -/
def wantN (d : List Int) (t : Int) : Int := if 0 ≤ t then dAt d t.toNat else -1
theorem want_far {n : Nat} {L : List Ar} {fr : Int} {d : List Int} (hf : Fix (netW n L fr (-1)) d) (t : Int) : decide (0 ≤ t ∧ 0 ≤ dAt d t.toNat) = decide (0 ≤ wantN d t) ∧ (if 0 ≤ t ∧ 0 ≤ dAt d t.toNat then dAt d t.toNat else 0) = (if 0 ≤ wantN d t then wantN d t else 0) := by
  unfold wantN
  by_cases h : 0 ≤ t
  · rw [if_pos h]; simp only [h, true_and]
  · rw [if_neg h]; simp [h]
theorem want_out {n : Nat} {L : List Ar} {fr : Int} {d : List Int} (hf : Fix (netW n L fr (-1)) d) (t : Int) (h : ¬ (0 ≤ fr ∧ fr < (n : Int))) : wantN d t = -1 := by
  have hd := fix_none hf (fun e he hm => h (by have h1 : (e : Int) = fr := he.1; omega))
  unfold wantN
  split
  · rw [hd]; unfold dAt; rw [List.getD, List.getElem?_replicate]; split <;> rfl
  · rfl
theorem want_out2 {n : Nat} {L : List Ar} {fr : Int} {d : List Int} (hf : Fix (netW n L fr (-1)) d) (t : Int) (h : ¬ (0 ≤ t ∧ t < (n : Int))) : wantN d t = -1 := by
  unfold wantN
  split
  · exact dAt_out d _ (by rw [hf.len]; show n ≤ _; omega)
  · rfl
/-- What each operation of the statement leaves. -/
def wt_r15_0_F (tp : Nat) (m : Nat) (g : Nat) (x0 : Int) (x1 : Int) (x2 : Int) (x3 : Int) (x4 : Int) (wn : Int) (fb2 : Bool) : List (Value → World → Prop) :=
  [IsV (.pointer (some ⟨tp, 0, none⟩)),
   IsV (.pointer (some ⟨g, 0, none⟩)),
   IsV (.int .i64 x0),
   IsV (.pointer (some ⟨g, 1, none⟩)),
   IsV (.int .i64 x1),
   IsV (.pointer (some ⟨g, 2, none⟩)),
   IsV (.int .i64 x2),
   IsV (.pointer (some ⟨g, 3, none⟩)),
   IsV (.int .i64 x3),
   IsV (.pointer (some ⟨g, 4, none⟩)),
   IsV (.int .i64 x4),
   IsV (.bool fb2),
   IsV (.pointer (some ⟨m, 0, none⟩)),
   IsV (.pointer (some ⟨g, 0, none⟩)),
   IsV (.int .i64 x0),
   IsV (.pointer (some ⟨g, 1, none⟩)),
   IsV (.int .i64 x1),
   IsV (.pointer (some ⟨g, 2, none⟩)),
   IsV (.int .i64 x2),
   IsV (.pointer (some ⟨g, 3, none⟩)),
   IsV (.int .i64 x3),
   IsV (.pointer (some ⟨g, 4, none⟩)),
   IsV (.int .i64 x4),
   IsV (.bool fb2),
   IsV (.bool false),
   IsV (.bool false),
   IsV (.bool false),
   IsV (.int .i64 wn),
   IsV (.bool false),
   IsV (.bool false),
   IsV (.bool false),
   IsV (.bool false),
   IsV (.int .i64 0),
   IsV (.int .i64 wn),
   IsV (.int .i64 0),
   IsV (.bool false),
   IsV (.bool false)]
def wt_r15_0_D : List (List Nat) := [[], [], [1], [], [3], [], [5], [], [7], [], [9], [0, 2, 4, 6, 8, 10], [], [], [13], [], [15], [], [17], [], [19], [], [21], [12, 14, 16, 18, 20, 22], [11, 23], [24], [25], [25], [25, 27], [25, 26, 28], [25, 29], [30], [31], [31], [31, 33], [31, 32, 34], [31, 35]]

/-- What each operation of the statement leaves. -/
def wt_r15_1_F (tp : Nat) (m : Nat) (g : Nat) (x0 : Int) (x1 : Int) (x2 : Int) (x3 : Int) (x4 : Int) (wn : Int) (fb2 : Bool) : List (Value → World → Prop) :=
  [IsV (.pointer (some ⟨tp, 0, none⟩)),
   IsV (.pointer (some ⟨g, 0, none⟩)),
   IsV (.int .i64 x0),
   IsV (.pointer (some ⟨g, 1, none⟩)),
   IsV (.int .i64 x1),
   IsV (.pointer (some ⟨g, 2, none⟩)),
   IsV (.int .i64 x2),
   IsV (.pointer (some ⟨g, 3, none⟩)),
   IsV (.int .i64 x3),
   IsV (.pointer (some ⟨g, 4, none⟩)),
   IsV (.int .i64 x4),
   IsV (.bool fb2),
   IsV (.pointer (some ⟨m, 0, none⟩)),
   IsV (.pointer (some ⟨g, 0, none⟩)),
   IsV (.int .i64 x0),
   IsV (.pointer (some ⟨g, 1, none⟩)),
   IsV (.int .i64 x1),
   IsV (.pointer (some ⟨g, 2, none⟩)),
   IsV (.int .i64 x2),
   IsV (.pointer (some ⟨g, 3, none⟩)),
   IsV (.int .i64 x3),
   IsV (.pointer (some ⟨g, 4, none⟩)),
   IsV (.int .i64 x4),
   IsV (.bool fb2),
   IsV (.bool false),
   IsV (.bool false),
   IsV (.bool true),
   IsV (.int .i64 wn),
   IsV (.bool true),
   IsV (.bool false),
   IsV (.bool false),
   IsV (.bool false),
   IsV (.int .i64 wn),
   IsV (.int .i64 wn),
   IsV (.int .i64 wn),
   IsV (.bool false),
   IsV (.bool false)]
def wt_r15_1_D : List (List Nat) := [[], [], [1], [], [3], [], [5], [], [7], [], [9], [0, 2, 4, 6, 8, 10], [], [], [13], [], [15], [], [17], [], [19], [], [21], [12, 14, 16, 18, 20, 22], [11, 23], [24], [25], [25], [25, 27], [25, 26, 28], [25, 29], [30], [31], [31], [31, 33], [31, 32, 34], [31, 35]]

set_option maxHeartbeats 32000000 in
theorem wtells_all (w : World) (n : Nat) (h0 : 1 ≤ n) (h40 : n ≤ 40) (a : Option Addr) (ln c : Nat) (T : List T3) (hT : T.length = ln) (hr : Rd w 3 (.slice a ln c) ln (T.flatMap c3T)) (hln : ln ≤ 120) (a2 : Option Addr) (m2 c2 : Nat) (Q : List T5) (hQ : Q.length = m2) (hr2 : Rd w 5 (.slice a2 m2 c2) m2 (Q.flatMap c5T)) (hm2 : m2 ≤ 30) :
    Calls Try.prog 6 #[.int .i64 (n : Int), .slice a ln c, .slice a2 m2 c2] w fun e w' => e = .returned (.bool true) ∧ Mod (fun _ => False) w w' := by
  obtain ⟨iI, hiI, hzI, hsI, hbI⟩ := info_parts Nt.infoI
  obtain ⟨iT, hiT, hzT, hsT, hbT⟩ := info_parts Nt.infoT5
  have y0 : decide ((n : Int) < 1) = false := by simp; omega
  have y1 : decide ((40 : Int) < (n : Int)) = false := by simp; omega
  have y2 : decide ((120 : Int) < (ln : Int)) = false := by simp; omega
  have y2n : decide (120 < ln) = false := by simp; omega
  have y3 : decide ((30 : Int) < (m2 : Int)) = false := by simp; omega
  have y3n : decide (30 < m2) = false := by simp; omega
  have HMD := Lib.hid (made14_any w n (by omega) a ln c T hT hr (by omega))
  have HW := Lib.hid (net14 n T)
  have hle := arcsR_len (n : Int) T
  have hle0 : (putAllN (arcsR (n : Int) T)).length ≤ 120 := by
    have h := (putAll_ok (arcsR (n : Int) T) [] (NetOk.nil n) (arcsR_may T)).2
    unfold putAllN
    simp only [List.length_nil] at h; omega
  obtain ⟨L, hL⟩ : ∃ L, putAllN (arcsR (n : Int) T) = L := ⟨_, rfl⟩
  rw [hL] at HMD HW hle0
  have HLE := Lib.hid hle0
  have HQ := Lib.hid hQ
  have HR2 := Lib.hid hr2
  clear hL hT hr hle hle0 hQ hr2
  go_enter Try.func6, Try.ntmps6
  go_wp2_with fail
  refine HMD.out.mono ?_
  rintro e w1 ⟨tp, F, m, rfl, hnt, hrn, _, _, hm1⟩
  have HN1 := Lib.hid hnt
  have HRN1 := Lib.hid hrn
  have HOK := Lib.hid hnt.ok
  have HM1 := Lib.hid hm1
  clear hnt hrn hm1 HMD y0 y1 y2 y2n y3 y3n
  go_wp2_with fail
  go_loopw [9] (fun iv wr => ∃ k : Nat, k ≤ m2 ∧ iv = .int .i64 (k : Int) ∧ Mod (fun _ => False) w1 wr) (fun iv _ => m2 - (intOf iv).toNat)
  case atStart => exact ⟨0, by omega, rfl, Mod.refl _ _⟩
  case round =>
    obtain ⟨k, hk, rfl, hmr⟩ := hrel
    obtain ⟨wo, hwo⟩ : ∃ x : World, x = wr := ⟨_, rfl⟩
    subst hwo
    have HMR := Lib.hid hmr
    clear hmr
    by_cases hlt : k < m2
    case neg =>
      obtain rfl : k = m2 := by omega
      have z0 : decide ((k : Int) < (k : Int)) = false := by simp
      have z0n : decide (k < k) = false := by simp
      go_wp2_with fail
      refine (awake14_any _).mono ?_
      rintro e w9 ⟨rfl, hm9⟩
      have HM9 := Lib.hid ((HM1.out.of2 HMR.out).of2 hm9)
      clear hm9
      go_wp2_with fail
      go_ret
      exact ⟨rfl, HM9.out⟩
    case pos =>
      have z0 : decide ((k : Int) < (m2 : Int)) = true := by simp; omega
      have z0n : decide (k < m2) = true := by simp; omega
      have hkl : k < Q.length := by rw [HQ.out]; exact hlt
      have hrd := HR2.out.keep (HM1.out.of2 HMR.out) (fun _ _ e => e)
      obtain ⟨eb, eo, hpl, e0, e1, e2, e3, e4⟩ := rd5T hrd k hkl
      have hix := fun wx => run_indexS (P := Try.prog) wx 60 61 iT 5 Try.underlying60 hiT hsT a2 m2 c2 k hlt (hrd.some_ (by omega))
      rw [hpl] at hix
      have hj1 : IntKind.i64.wrap ((k : Int) + 1) = ((k + 1 : Nat) : Int) := by rw [IntWalk.i64_in _ (by omega)]; omega
      obtain ⟨x, hx⟩ : ∃ x, Q[k] = x := ⟨_, rfl⟩
      rw [hx] at e0 e1 e2 e3 e4
      obtain ⟨x0, x1, x2, x3, x4⟩ := x
      simp only at e0 e1 e2 e3 e4
      obtain ⟨d0, hd0⟩ := netW_ex n (by omega) L x0 (-1)
      obtain ⟨d1, hd1⟩ := netW_ex n (by omega) L x0 x2
      have HD0 := Lib.hid hd0
      have HD1 := Lib.hid hd1
      obtain ⟨wn, hwn⟩ : ∃ y, wantN d0 x1 = y := ⟨_, rfl⟩
      have HWN := Lib.hid hwn
      have hwf := want_far hd0 x1
      rw [hwn] at hwf
      obtain ⟨fb, hfb⟩ : ∃ b, decide (0 ≤ wn) = b := ⟨_, rfl⟩
      obtain ⟨fs, hfs⟩ : ∃ y : Int, (if 0 ≤ wn then wn else 0) = y := ⟨_, rfl⟩
      rw [hfb, hfs] at hwf
      have HWF := Lib.hid hwf
      have HFB := Lib.hid (And.intro hfb hfs)
      obtain ⟨fb2, hfb2⟩ : ∃ b, foundB d1 x1 x3 x4 = b := ⟨_, rfl⟩
      have HFB2 := Lib.hid hfb2
      obtain ⟨g, hg⟩ : ∃ y, wo.heap.size = y := ⟨_, rfl⟩
      obtain ⟨wA, hwA⟩ : ∃ y, wo.alloc (.cells #[.int .i64 x0, .int .i64 x1, .int .i64 x2, .int .i64 x3, .int .i64 x4] 61) = y := ⟨_, rfl⟩
      have hgA : Blk wA g 61 [.int .i64 x0, .int .i64 x1, .int .i64 x2, .int .i64 x3, .int .i64 x4] := by rw [← hwA, ← hg]; exact Blk.new wo 61 [.int .i64 x0, .int .i64 x1, .int .i64 x2, .int .i64 x3, .int .i64 x4]
      have hmA : Mod (fun _ => False) wo wA := by rw [← hwA]; exact Mod.alloc _ _ _
      have HMA := Lib.hid (HMR.out.of2 hmA)
      have HGA := Lib.hid hgA
      have i0 : ∀ wx : World, (Instr.indexAt 61 (.pointer (some ⟨g, 0, none⟩)) (.int .i64 0)).run Try.prog wx = .ok (.pointer (some ⟨g, 0, none⟩)) wx := fun wx => run_indexA5 wx 61 3 iI Try.underlying61 hiI hsI g 0 (by omega)
      have i1 : ∀ wx : World, (Instr.indexAt 61 (.pointer (some ⟨g, 0, none⟩)) (.int .i64 1)).run Try.prog wx = .ok (.pointer (some ⟨g, 1, none⟩)) wx := fun wx => run_indexA5 wx 61 3 iI Try.underlying61 hiI hsI g 1 (by omega)
      have i2 : ∀ wx : World, (Instr.indexAt 61 (.pointer (some ⟨g, 0, none⟩)) (.int .i64 2)).run Try.prog wx = .ok (.pointer (some ⟨g, 2, none⟩)) wx := fun wx => run_indexA5 wx 61 3 iI Try.underlying61 hiI hsI g 2 (by omega)
      have i3 : ∀ wx : World, (Instr.indexAt 61 (.pointer (some ⟨g, 0, none⟩)) (.int .i64 3)).run Try.prog wx = .ok (.pointer (some ⟨g, 3, none⟩)) wx := fun wx => run_indexA5 wx 61 3 iI Try.underlying61 hiI hsI g 3 (by omega)
      have i4 : ∀ wx : World, (Instr.indexAt 61 (.pointer (some ⟨g, 0, none⟩)) (.int .i64 4)).run Try.prog wx = .ok (.pointer (some ⟨g, 4, none⟩)) wx := fun wx => run_indexA5 wx 61 3 iI Try.underlying61 hiI hsI g 4 (by omega)
      have HI0 := Lib.hid i0
      have HI1 := Lib.hid i1
      have HI2 := Lib.hid i2
      have HI3 := Lib.hid i3
      have HI4 := Lib.hid i4
      clear hkl hrd hpl hx hd0 hd1 hwn hwf hfb hfs hfb2 hmA i2 i3 i4
      go_upto_region 10 with fail
      (try rw [hwA])
      (try rw [hg])
      have g0 := hgA.cell 0 rfl
      have g1 := hgA.cell 1 rfl
      clear hwA hg hgA e0 e1 e2 e3 e4 hix
      go_wp2_with fail
      refine (rn_all (HRN1.out.later HMA.out) HOK.out HW.out (by omega) (by have := HLE.out; omega) x0 d0 HD0.out).mono ?_
      rintro e w3 ⟨ad, cd, rfl, ho3, hm3⟩
      have HM3 := Lib.hid (HMA.out.of2 hm3)
      have hg3 := HGA.out.keep hm3 (fun e => e)
      have HG3 := Lib.hid hg3
      have HR3 := Lib.hid (Rd.ofOwn ho3)
      replace g0 := hg3.cell 0 rfl
      replace g1 := hg3.cell 1 rfl
      clear hm3 hg3 ho3
      obtain ⟨tb, htb⟩ : ∃ b, decide ((0 ≤ x0 ∧ x0 < (n : Int)) ∧ 0 ≤ x1 ∧ x1 < (n : Int)) = b := ⟨_, rfl⟩
      have HTB := Lib.hid htb
      clear htb
      go_upto_region 12 with fail
      go_cut [73] from 54 to 72 (fun t wx => t = .bool tb ∧ wx = w3)
      case first =>
        by_cases c1 : 0 ≤ x0
        case neg =>
          have u1 : decide (0 ≤ x0) = false := decide_eq_false c1
          have HX : Hid (tb = false) := Lib.hid (by rw [← HTB.out]; exact decide_eq_false (fun h => c1 h.1.1))
          clear c1
          go_wp2_with fail
          go_meet
          exact ⟨by rw [HX.out], rfl⟩
        case pos =>
        have u1 : decide (0 ≤ x0) = true := decide_eq_true c1
        by_cases c2 : x0 < (n : Int)
        case neg =>
          have u2 : decide (x0 < (n : Int)) = false := decide_eq_false c2
          have HX : Hid (tb = false) := Lib.hid (by rw [← HTB.out]; exact decide_eq_false (fun h => c2 h.1.2))
          clear c1 c2
          go_wp2_with fail
          go_meet
          exact ⟨by rw [HX.out], rfl⟩
        case pos =>
        have u2 : decide (x0 < (n : Int)) = true := decide_eq_true c2
        by_cases c3 : 0 ≤ x1
        case neg =>
          have u3 : decide (0 ≤ x1) = false := decide_eq_false c3
          have HX : Hid (tb = false) := Lib.hid (by rw [← HTB.out]; exact decide_eq_false (fun h => c3 h.2.1))
          clear c1 c2 c3
          go_wp2_with fail
          go_meet
          exact ⟨by rw [HX.out], rfl⟩
        case pos =>
        have u3 : decide (0 ≤ x1) = true := decide_eq_true c3
        by_cases c4 : x1 < (n : Int)
        case neg =>
          have u4 : decide (x1 < (n : Int)) = false := decide_eq_false c4
          have HX : Hid (tb = false) := Lib.hid (by rw [← HTB.out]; exact decide_eq_false (fun h => c4 h.2.2))
          clear c1 c2 c3 c4
          go_wp2_with fail
          go_meet
          exact ⟨by rw [HX.out], rfl⟩
        case pos =>
        have u4 : decide (x1 < (n : Int)) = true := decide_eq_true c4
        have HX : Hid (tb = true) := Lib.hid (by rw [← HTB.out]; exact decide_eq_true ⟨⟨c1, c2⟩, c3, c4⟩)
        clear c1 c2 c3 c4
        go_wp2_with fail
        go_meet
        exact ⟨by rw [HX.out], rfl⟩
      case rest =>
      obtain ⟨rfl, rfl⟩ := hcut
      go_upto_if 73 with fail
      go_cut [12] from 74 to 78 (fun t wx => t = .int .i64 wn ∧ wx = wc)
      case first =>
        cases tb with
        | false =>
          have hwn : wn = -1 := by
            rw [← HWN.out]
            have h := of_decide_eq_false HTB.out
            by_cases h2 : 0 ≤ x0 ∧ x0 < (n : Int)
            · exact want_out2 HD0.out x1 (fun h3 => h ⟨h2, h3⟩)
            · exact want_out HD0.out x1 h2
          have HX := Lib.hid hwn
          clear hwn
          go_wp2_with fail
          go_meet
          exact ⟨by rw [HX.out], rfl⟩
        | true =>
          obtain ⟨⟨c1, c2⟩, c3, c4⟩ := of_decide_eq_true HTB.out
          obtain ⟨y, rfl⟩ := Int.eq_ofNat_of_zero_le c3
          have hyn : y < n := by omega
          have hdl : d0.length = n := HD0.out.len
          obtain ⟨fb, fo, hpe, _⟩ := HR3.out.place (j := y) (by omega)
          have hix := fun wx => run_indexS (P := Try.prog) wx 56 3 iI 1 Try.underlying56 hiI hsI ad n cd y hyn (HR3.out.some_ (by omega))
          have hcell : wc.cell? (elemA ad y 1) = some (.int .i64 (d0[y]'(by omega))) := HR3.out.elem (by rw [List.getElem?_map, List.getElem?_eq_getElem (by omega)]; rfl)
          rw [hpe] at hix hcell
          have hwn : d0[y]'(by omega) = wn := by rw [← HWN.out]; unfold wantN; rw [if_pos c3, Int.toNat_natCast, dAt_eq d0 y (by omega)]
          rw [hwn] at hcell
          clear c1 c2 c3 c4 hwn hpe hdl hyn
          go_wp2_with fail
          go_meet
          exact ⟨rfl, rfl⟩
      case rest =>
        obtain ⟨rfl, rfl⟩ := hcut
        go_wp2_with fail
        refine (wfar (HN1.out.later HM3.out) HW.out x0 x1 d0 HD0.out).mono ?_
        rintro e w4 ⟨rfl, hm4⟩
        rw [HWF.out.1, HWF.out.2]
        have HM4 := Lib.hid (HM3.out.of2 hm4)
        have HG4 := Lib.hid (HG3.out.keep hm4 (fun e => e))
        have HNT := Lib.hid (HN1.out.later HM4.out)
        have HRN := Lib.hid (HRN1.out.later HM4.out)
        clear hm4 g0 g1 i0 i1
        go_upto_region 15 with fail
        by_cases hwn0 : 0 ≤ wn
        case neg =>
          obtain ⟨hb1, hb2⟩ := HFB.out
          rw [decide_eq_false hwn0] at hb1
          rw [if_neg hwn0] at hb2
          subst hb1 hb2
          have HZW : Hid (decide (0 ≤ wn) = false ∧ decide (wn < 0) = true ∧ max wn 0 = 0) := Lib.hid ⟨decide_eq_false hwn0, decide_eq_true (by omega), by omega⟩
          clear hwn0
          have HS : Hid (Ev (Mod (fun _ => False) w4) w4) := Lib.hid (Ev.mod w4)
          replace HS := Lib.hid ((Ev.nt HNT.out).and HS.out)
          replace HS := Lib.hid ((Ev.rn HRN.out).and HS.out)
          replace HS := Lib.hid ((Ev.blk HG4.out).and HS.out)
          have hbg := (HS.out.now).1
          have qg_0 := hbg.cell 0 rfl
          have qg_1 := hbg.cell 1 rfl
          have qg_2 := hbg.cell 2 rfl
          have qg_3 := hbg.cell 3 rfl
          have qg_4 := hbg.cell 4 rfl
          have lg := hbg.lt
          clear hbg
          clear qg_0 qg_1 qg_2 qg_3 qg_4 lg
          have HSd := Lib.hid HS.out.drew
          refine wp_region_inv3 (act := ?actwt_r15_0) (Mod (fun _ => False)) (fun i => (wt_r15_0_F tp m g x0 x1 x2 x3 x4 wn fb2).getD i (fun _ _ => True)) (fun i => wt_r15_0_D.getD i []) (by kernel_rfl) (by kernel_rfl) (by kernel_rfl) (by kernel_rfl) (fun _ => Mod.refl _ _)
            (fun _ _ _ h k => h.trans k (fun _ _ e => e) (fun _ _ e => e)) ?hactwt_r15_0 (stable_list ?_) ?_ ?_
          case hactwt_r15_0 => intro vs; simp only [putAll, Nat.zero_add, Nat.reduceAdd, Act.put, List.setIfInBounds_toArray, List.set_cons_succ, List.set_cons_zero]; exact rfl
          · unfold wt_r15_0_F
            exact stable_cons (stable_val _) <| stable_cons (stable_val _) <| stable_cons (stable_val _) <| stable_cons (stable_val _) <| stable_cons (stable_val _) <| stable_cons (stable_val _) <| stable_cons (stable_val _) <| stable_cons (stable_val _) <| stable_cons (stable_val _) <| stable_cons (stable_val _) <| stable_cons (stable_val _) <| stable_cons (stable_val _) <| stable_cons (stable_val _) <| stable_cons (stable_val _) <| stable_cons (stable_val _) <| stable_cons (stable_val _) <| stable_cons (stable_val _) <| stable_cons (stable_val _) <| stable_cons (stable_val _) <| stable_cons (stable_val _) <| stable_cons (stable_val _) <| stable_cons (stable_val _) <| stable_cons (stable_val _) <| stable_cons (stable_val _) <| stable_cons (stable_val _) <| stable_cons (stable_val _) <| stable_cons (stable_val _) <| stable_cons (stable_val _) <| stable_cons (stable_val _) <| stable_cons (stable_val _) <| stable_cons (stable_val _) <| stable_cons (stable_val _) <| stable_cons (stable_val _) <| stable_cons (stable_val _) <| stable_cons (stable_val _) <| stable_cons (stable_val _) <| stable_cons (stable_val _) <| stable_nil
          · refine opsOkA_cons ?_ ?_
            · intro K vs W hR hD hK
              clear hD
              try dsimp only at hK ⊢
              simp only [Act.put, List.setIfInBounds_toArray, List.set_cons_succ, List.set_cons_zero] at hK
              go_wp2
              exact hK _ _ rfl (Mod.refl _ _)
            refine opsOkA_cons ?_ ?_
            · intro K vs W hR hD hK
              clear hD
              try dsimp only at hK ⊢
              simp only [Act.put, List.setIfInBounds_toArray, List.set_cons_succ, List.set_cons_zero] at hK
              have hix := HI0.out
              go_wp2_with fail
              exact hK _ _ rfl (Mod.refl _ _)
            refine opsOkA_cons ?_ ?_
            · intro K vs W hR hD hK
              have dq1 : vs 1 = .pointer (some ⟨g, 0, none⟩) := hD 1 (by decide)
              clear hD
              try dsimp only at hK ⊢
              simp only [Act.put, List.setIfInBounds_toArray, List.set_cons_succ, List.set_cons_zero] at hK
              generalize vs 1 = vq1 at hK dq1 ⊢
              subst vq1
              have q0 := ((HSd.out.at (hR)).1).cell 0 rfl
              go_wp2
              exact hK _ _ rfl (Mod.refl _ _)
            refine opsOkA_cons ?_ ?_
            · intro K vs W hR hD hK
              clear hD
              try dsimp only at hK ⊢
              simp only [Act.put, List.setIfInBounds_toArray, List.set_cons_succ, List.set_cons_zero] at hK
              have hix := HI1.out
              go_wp2_with fail
              exact hK _ _ rfl (Mod.refl _ _)
            refine opsOkA_cons ?_ ?_
            · intro K vs W hR hD hK
              have dq3 : vs 3 = .pointer (some ⟨g, 1, none⟩) := hD 3 (by decide)
              clear hD
              try dsimp only at hK ⊢
              simp only [Act.put, List.setIfInBounds_toArray, List.set_cons_succ, List.set_cons_zero] at hK
              generalize vs 3 = vq3 at hK dq3 ⊢
              subst vq3
              have q0 := ((HSd.out.at (hR)).1).cell 1 rfl
              go_wp2
              exact hK _ _ rfl (Mod.refl _ _)
            refine opsOkA_cons ?_ ?_
            · intro K vs W hR hD hK
              clear hD
              try dsimp only at hK ⊢
              simp only [Act.put, List.setIfInBounds_toArray, List.set_cons_succ, List.set_cons_zero] at hK
              have hix := HI2.out
              go_wp2_with fail
              exact hK _ _ rfl (Mod.refl _ _)
            refine opsOkA_cons ?_ ?_
            · intro K vs W hR hD hK
              have dq5 : vs 5 = .pointer (some ⟨g, 2, none⟩) := hD 5 (by decide)
              clear hD
              try dsimp only at hK ⊢
              simp only [Act.put, List.setIfInBounds_toArray, List.set_cons_succ, List.set_cons_zero] at hK
              generalize vs 5 = vq5 at hK dq5 ⊢
              subst vq5
              have q0 := ((HSd.out.at (hR)).1).cell 2 rfl
              go_wp2
              exact hK _ _ rfl (Mod.refl _ _)
            refine opsOkA_cons ?_ ?_
            · intro K vs W hR hD hK
              clear hD
              try dsimp only at hK ⊢
              simp only [Act.put, List.setIfInBounds_toArray, List.set_cons_succ, List.set_cons_zero] at hK
              have hix := HI3.out
              go_wp2_with fail
              exact hK _ _ rfl (Mod.refl _ _)
            refine opsOkA_cons ?_ ?_
            · intro K vs W hR hD hK
              have dq7 : vs 7 = .pointer (some ⟨g, 3, none⟩) := hD 7 (by decide)
              clear hD
              try dsimp only at hK ⊢
              simp only [Act.put, List.setIfInBounds_toArray, List.set_cons_succ, List.set_cons_zero] at hK
              generalize vs 7 = vq7 at hK dq7 ⊢
              subst vq7
              have q0 := ((HSd.out.at (hR)).1).cell 3 rfl
              go_wp2
              exact hK _ _ rfl (Mod.refl _ _)
            refine opsOkA_cons ?_ ?_
            · intro K vs W hR hD hK
              clear hD
              try dsimp only at hK ⊢
              simp only [Act.put, List.setIfInBounds_toArray, List.set_cons_succ, List.set_cons_zero] at hK
              have hix := HI4.out
              go_wp2_with fail
              exact hK _ _ rfl (Mod.refl _ _)
            refine opsOkA_cons ?_ ?_
            · intro K vs W hR hD hK
              have dq9 : vs 9 = .pointer (some ⟨g, 4, none⟩) := hD 9 (by decide)
              clear hD
              try dsimp only at hK ⊢
              simp only [Act.put, List.setIfInBounds_toArray, List.set_cons_succ, List.set_cons_zero] at hK
              generalize vs 9 = vq9 at hK dq9 ⊢
              subst vq9
              have q0 := ((HSd.out.at (hR)).1).cell 4 rfl
              go_wp2
              exact hK _ _ rfl (Mod.refl _ _)
            refine opsOkA_cons ?_ ?_
            · intro K vs W hR hD hK
              have dq0 : vs 0 = .pointer (some ⟨tp, 0, none⟩) := hD 0 (by decide)
              have dq2 : vs 2 = .int .i64 x0 := hD 2 (by decide)
              have dq4 : vs 4 = .int .i64 x1 := hD 4 (by decide)
              have dq6 : vs 6 = .int .i64 x2 := hD 6 (by decide)
              have dq8 : vs 8 = .int .i64 x3 := hD 8 (by decide)
              have dq10 : vs 10 = .int .i64 x4 := hD 10 (by decide)
              clear hD
              try dsimp only at hK ⊢
              simp only [Act.put, List.setIfInBounds_toArray, List.set_cons_succ, List.set_cons_zero] at hK
              generalize vs 0 = vq0 at hK dq0 ⊢
              subst vq0
              generalize vs 2 = vq2 at hK dq2 ⊢
              subst vq2
              generalize vs 4 = vq4 at hK dq4 ⊢
              subst vq4
              generalize vs 6 = vq6 at hK dq6 ⊢
              subst vq6
              generalize vs 8 = vq8 at hK dq8 ⊢
              subst vq8
              generalize vs 10 = vq10 at hK dq10 ⊢
              subst vq10
              go_wp2_with (go_at_call 34; refine (wfind ((HSd.out.at (hR)).2.2.1) HW.out x0 x1 x2 x3 x4 d1 HD1.out).mono ?_; rintro e' w' ⟨rfl, hm'⟩; rw [HFB2.out])
              exact hK _ _ rfl hm'
            refine opsOkA_cons ?_ ?_
            · intro K vs W hR hD hK
              clear hD
              try dsimp only at hK ⊢
              simp only [Act.put, List.setIfInBounds_toArray, List.set_cons_succ, List.set_cons_zero] at hK
              go_wp2
              exact hK _ _ rfl (Mod.refl _ _)
            refine opsOkA_cons ?_ ?_
            · intro K vs W hR hD hK
              clear hD
              try dsimp only at hK ⊢
              simp only [Act.put, List.setIfInBounds_toArray, List.set_cons_succ, List.set_cons_zero] at hK
              have hix := HI0.out
              go_wp2_with fail
              exact hK _ _ rfl (Mod.refl _ _)
            refine opsOkA_cons ?_ ?_
            · intro K vs W hR hD hK
              have dq13 : vs 13 = .pointer (some ⟨g, 0, none⟩) := hD 13 (by decide)
              clear hD
              try dsimp only at hK ⊢
              simp only [Act.put, List.setIfInBounds_toArray, List.set_cons_succ, List.set_cons_zero] at hK
              generalize vs 13 = vq13 at hK dq13 ⊢
              subst vq13
              have q0 := ((HSd.out.at (hR)).1).cell 0 rfl
              go_wp2
              exact hK _ _ rfl (Mod.refl _ _)
            refine opsOkA_cons ?_ ?_
            · intro K vs W hR hD hK
              clear hD
              try dsimp only at hK ⊢
              simp only [Act.put, List.setIfInBounds_toArray, List.set_cons_succ, List.set_cons_zero] at hK
              have hix := HI1.out
              go_wp2_with fail
              exact hK _ _ rfl (Mod.refl _ _)
            refine opsOkA_cons ?_ ?_
            · intro K vs W hR hD hK
              have dq15 : vs 15 = .pointer (some ⟨g, 1, none⟩) := hD 15 (by decide)
              clear hD
              try dsimp only at hK ⊢
              simp only [Act.put, List.setIfInBounds_toArray, List.set_cons_succ, List.set_cons_zero] at hK
              generalize vs 15 = vq15 at hK dq15 ⊢
              subst vq15
              have q0 := ((HSd.out.at (hR)).1).cell 1 rfl
              go_wp2
              exact hK _ _ rfl (Mod.refl _ _)
            refine opsOkA_cons ?_ ?_
            · intro K vs W hR hD hK
              clear hD
              try dsimp only at hK ⊢
              simp only [Act.put, List.setIfInBounds_toArray, List.set_cons_succ, List.set_cons_zero] at hK
              have hix := HI2.out
              go_wp2_with fail
              exact hK _ _ rfl (Mod.refl _ _)
            refine opsOkA_cons ?_ ?_
            · intro K vs W hR hD hK
              have dq17 : vs 17 = .pointer (some ⟨g, 2, none⟩) := hD 17 (by decide)
              clear hD
              try dsimp only at hK ⊢
              simp only [Act.put, List.setIfInBounds_toArray, List.set_cons_succ, List.set_cons_zero] at hK
              generalize vs 17 = vq17 at hK dq17 ⊢
              subst vq17
              have q0 := ((HSd.out.at (hR)).1).cell 2 rfl
              go_wp2
              exact hK _ _ rfl (Mod.refl _ _)
            refine opsOkA_cons ?_ ?_
            · intro K vs W hR hD hK
              clear hD
              try dsimp only at hK ⊢
              simp only [Act.put, List.setIfInBounds_toArray, List.set_cons_succ, List.set_cons_zero] at hK
              have hix := HI3.out
              go_wp2_with fail
              exact hK _ _ rfl (Mod.refl _ _)
            refine opsOkA_cons ?_ ?_
            · intro K vs W hR hD hK
              have dq19 : vs 19 = .pointer (some ⟨g, 3, none⟩) := hD 19 (by decide)
              clear hD
              try dsimp only at hK ⊢
              simp only [Act.put, List.setIfInBounds_toArray, List.set_cons_succ, List.set_cons_zero] at hK
              generalize vs 19 = vq19 at hK dq19 ⊢
              subst vq19
              have q0 := ((HSd.out.at (hR)).1).cell 3 rfl
              go_wp2
              exact hK _ _ rfl (Mod.refl _ _)
            refine opsOkA_cons ?_ ?_
            · intro K vs W hR hD hK
              clear hD
              try dsimp only at hK ⊢
              simp only [Act.put, List.setIfInBounds_toArray, List.set_cons_succ, List.set_cons_zero] at hK
              have hix := HI4.out
              go_wp2_with fail
              exact hK _ _ rfl (Mod.refl _ _)
            refine opsOkA_cons ?_ ?_
            · intro K vs W hR hD hK
              have dq21 : vs 21 = .pointer (some ⟨g, 4, none⟩) := hD 21 (by decide)
              clear hD
              try dsimp only at hK ⊢
              simp only [Act.put, List.setIfInBounds_toArray, List.set_cons_succ, List.set_cons_zero] at hK
              generalize vs 21 = vq21 at hK dq21 ⊢
              subst vq21
              have q0 := ((HSd.out.at (hR)).1).cell 4 rfl
              go_wp2
              exact hK _ _ rfl (Mod.refl _ _)
            refine opsOkA_cons ?_ ?_
            · intro K vs W hR hD hK
              have dq12 : vs 12 = .pointer (some ⟨m, 0, none⟩) := hD 12 (by decide)
              have dq14 : vs 14 = .int .i64 x0 := hD 14 (by decide)
              have dq16 : vs 16 = .int .i64 x1 := hD 16 (by decide)
              have dq18 : vs 18 = .int .i64 x2 := hD 18 (by decide)
              have dq20 : vs 20 = .int .i64 x3 := hD 20 (by decide)
              have dq22 : vs 22 = .int .i64 x4 := hD 22 (by decide)
              clear hD
              try dsimp only at hK ⊢
              simp only [Act.put, List.setIfInBounds_toArray, List.set_cons_succ, List.set_cons_zero] at hK
              generalize vs 12 = vq12 at hK dq12 ⊢
              subst vq12
              generalize vs 14 = vq14 at hK dq14 ⊢
              subst vq14
              generalize vs 16 = vq16 at hK dq16 ⊢
              subst vq16
              generalize vs 18 = vq18 at hK dq18 ⊢
              subst vq18
              generalize vs 20 = vq20 at hK dq20 ⊢
              subst vq20
              generalize vs 22 = vq22 at hK dq22 ⊢
              subst vq22
              go_wp2_with (go_at_call 35; refine (rn_wit ((HSd.out.at (hR)).2.1) HOK.out HW.out (by omega) (by have := HLE.out; omega) x0 x1 x2 x3 x4 d1 HD1.out).mono ?_; rintro e' w' ⟨rfl, hm'⟩; rw [HFB2.out])
              exact hK _ _ rfl hm'
            refine opsOkA_cons ?_ ?_
            · intro K vs W hR hD hK
              have dq11 : vs 11 = .bool fb2 := hD 11 (by decide)
              have dq23 : vs 23 = .bool fb2 := hD 23 (by decide)
              clear hD
              try dsimp only at hK ⊢
              simp only [Act.put, List.setIfInBounds_toArray, List.set_cons_succ, List.set_cons_zero] at hK
              generalize vs 11 = vq11 at hK dq11 ⊢
              subst vq11
              generalize vs 23 = vq23 at hK dq23 ⊢
              subst vq23
              have hne : (fb2 != fb2) = false := by cases fb2 <;> rfl
              go_wp2
              exact hK _ _ rfl (Mod.refl _ _)
            refine opsOkA_cons ?_ ?_
            · intro K vs W hR hD hK
              have dq24 : vs 24 = .bool false := hD 24 (by decide)
              clear hD
              try dsimp only at hK ⊢
              simp only [Act.put, List.setIfInBounds_toArray, List.set_cons_succ, List.set_cons_zero] at hK
              generalize vs 24 = vq24 at hK dq24 ⊢
              subst vq24
              go_wp2
              exact hK _ _ rfl (Mod.refl _ _)
            refine opsOkA_cons ?_ ?_
            · intro K vs W hR hD hK
              have dq25 : vs 25 = .bool false := hD 25 (by decide)
              clear hD
              try dsimp only at hK ⊢
              simp only [Act.put, List.setIfInBounds_toArray, List.set_cons_succ, List.set_cons_zero] at hK
              generalize vs 25 = vq25 at hK dq25 ⊢
              subst vq25
              go_wp2
              exact hK _ _ rfl (Mod.refl _ _)
            refine opsOkA_cons ?_ ?_
            · intro K vs W hR hD hK
              have dq25 : vs 25 = .bool false := hD 25 (by decide)
              clear hD
              try dsimp only at hK ⊢
              simp only [Act.put, List.setIfInBounds_toArray, List.set_cons_succ, List.set_cons_zero] at hK
              generalize vs 25 = vq25 at hK dq25 ⊢
              subst vq25
              go_wp2
              exact hK _ _ rfl (Mod.refl _ _)
            refine opsOkA_cons ?_ ?_
            · intro K vs W hR hD hK
              have dq25 : vs 25 = .bool false := hD 25 (by decide)
              have dq27 : vs 27 = .int .i64 wn := hD 27 (by decide)
              clear hD
              try dsimp only at hK ⊢
              simp only [Act.put, List.setIfInBounds_toArray, List.set_cons_succ, List.set_cons_zero] at hK
              generalize vs 25 = vq25 at hK dq25 ⊢
              subst vq25
              generalize vs 27 = vq27 at hK dq27 ⊢
              subst vq27
              have hz := HZW.out.1
              go_wp2
              exact hK _ _ rfl (Mod.refl _ _)
            refine opsOkA_cons ?_ ?_
            · intro K vs W hR hD hK
              have dq25 : vs 25 = .bool false := hD 25 (by decide)
              have dq26 : vs 26 = .bool false := hD 26 (by decide)
              have dq28 : vs 28 = .bool false := hD 28 (by decide)
              clear hD
              try dsimp only at hK ⊢
              simp only [Act.put, List.setIfInBounds_toArray, List.set_cons_succ, List.set_cons_zero] at hK
              generalize vs 25 = vq25 at hK dq25 ⊢
              subst vq25
              generalize vs 26 = vq26 at hK dq26 ⊢
              subst vq26
              generalize vs 28 = vq28 at hK dq28 ⊢
              subst vq28
              go_wp2
              exact hK _ _ rfl (Mod.refl _ _)
            refine opsOkA_cons ?_ ?_
            · intro K vs W hR hD hK
              have dq25 : vs 25 = .bool false := hD 25 (by decide)
              have dq29 : vs 29 = .bool false := hD 29 (by decide)
              clear hD
              try dsimp only at hK ⊢
              simp only [Act.put, List.setIfInBounds_toArray, List.set_cons_succ, List.set_cons_zero] at hK
              generalize vs 25 = vq25 at hK dq25 ⊢
              subst vq25
              generalize vs 29 = vq29 at hK dq29 ⊢
              subst vq29
              go_wp2
              exact hK _ _ rfl (Mod.refl _ _)
            refine opsOkA_cons ?_ ?_
            · intro K vs W hR hD hK
              have dq30 : vs 30 = .bool false := hD 30 (by decide)
              clear hD
              try dsimp only at hK ⊢
              simp only [Act.put, List.setIfInBounds_toArray, List.set_cons_succ, List.set_cons_zero] at hK
              generalize vs 30 = vq30 at hK dq30 ⊢
              subst vq30
              go_wp2
              exact hK _ _ rfl (Mod.refl _ _)
            refine opsOkA_cons ?_ ?_
            · intro K vs W hR hD hK
              have dq31 : vs 31 = .bool false := hD 31 (by decide)
              clear hD
              try dsimp only at hK ⊢
              simp only [Act.put, List.setIfInBounds_toArray, List.set_cons_succ, List.set_cons_zero] at hK
              generalize vs 31 = vq31 at hK dq31 ⊢
              subst vq31
              go_wp2
              exact hK _ _ rfl (Mod.refl _ _)
            refine opsOkA_cons ?_ ?_
            · intro K vs W hR hD hK
              have dq31 : vs 31 = .bool false := hD 31 (by decide)
              clear hD
              try dsimp only at hK ⊢
              simp only [Act.put, List.setIfInBounds_toArray, List.set_cons_succ, List.set_cons_zero] at hK
              generalize vs 31 = vq31 at hK dq31 ⊢
              subst vq31
              go_wp2
              exact hK _ _ rfl (Mod.refl _ _)
            refine opsOkA_cons ?_ ?_
            · intro K vs W hR hD hK
              have dq31 : vs 31 = .bool false := hD 31 (by decide)
              have dq33 : vs 33 = .int .i64 wn := hD 33 (by decide)
              clear hD
              try dsimp only at hK ⊢
              simp only [Act.put, List.setIfInBounds_toArray, List.set_cons_succ, List.set_cons_zero] at hK
              generalize vs 31 = vq31 at hK dq31 ⊢
              subst vq31
              generalize vs 33 = vq33 at hK dq33 ⊢
              subst vq33
              go_wp2_with fail
              all_goals first | (exfalso; have hq := of_decide_eq_true HZW.out.2.1; omega) | exact hK _ _ rfl (Mod.refl _ _)
            refine opsOkA_cons ?_ ?_
            · intro K vs W hR hD hK
              have dq31 : vs 31 = .bool false := hD 31 (by decide)
              have dq32 : vs 32 = .int .i64 0 := hD 32 (by decide)
              have dq34 : vs 34 = .int .i64 0 := hD 34 (by decide)
              clear hD
              try dsimp only at hK ⊢
              simp only [Act.put, List.setIfInBounds_toArray, List.set_cons_succ, List.set_cons_zero] at hK
              generalize vs 31 = vq31 at hK dq31 ⊢
              subst vq31
              generalize vs 32 = vq32 at hK dq32 ⊢
              subst vq32
              generalize vs 34 = vq34 at hK dq34 ⊢
              subst vq34
              have hne : (0 != 0) = false := by simp
              go_wp2
              exact hK _ _ rfl (Mod.refl _ _)
            refine opsOkA_cons ?_ ?_
            · intro K vs W hR hD hK
              have dq31 : vs 31 = .bool false := hD 31 (by decide)
              have dq35 : vs 35 = .bool false := hD 35 (by decide)
              clear hD
              try dsimp only at hK ⊢
              simp only [Act.put, List.setIfInBounds_toArray, List.set_cons_succ, List.set_cons_zero] at hK
              generalize vs 31 = vq31 at hK dq31 ⊢
              subst vq31
              generalize vs 35 = vq35 at hK dq35 ⊢
              subst vq35
              go_wp2
              exact hK _ _ rfl (Mod.refl _ _)
            exact opsOkA_nil
          · intro vs wq1 hR hF
            have dq36 : vs 36 = .bool false := hF 36 (by decide)
            clear hF
            try dsimp only
            generalize vs 36 = vq36 at dq36 ⊢
            subst dq36
            replace HS := Lib.hid (HSd.out.step hR)
            clear HSd hR
            have hbg := (HS.out.now).1
            have qg_0 := hbg.cell 0 rfl
            have qg_1 := hbg.cell 1 rfl
            have qg_2 := hbg.cell 2 rfl
            have qg_3 := hbg.cell 3 rfl
            have qg_4 := hbg.cell 4 rfl
            have lg := hbg.lt
            clear hbg
            go_wp2_with fail
            go_roundw
            case rel => exact ⟨k + 1, hlt, by go_num, HM4.out.of2 (HS.out.now).2.2.2⟩
            case measure => simp [intOf]; omega
        case pos =>
          obtain ⟨hb1, hb2⟩ := HFB.out
          rw [decide_eq_true hwn0] at hb1
          rw [if_pos hwn0] at hb2
          subst hb1 hb2
          have HZW : Hid (decide (0 ≤ wn) = true ∧ decide (wn < 0) = false ∧ max wn 0 = wn) := Lib.hid ⟨decide_eq_true hwn0, decide_eq_false (by omega), by omega⟩
          clear hwn0
          have HS : Hid (Ev (Mod (fun _ => False) w4) w4) := Lib.hid (Ev.mod w4)
          replace HS := Lib.hid ((Ev.nt HNT.out).and HS.out)
          replace HS := Lib.hid ((Ev.rn HRN.out).and HS.out)
          replace HS := Lib.hid ((Ev.blk HG4.out).and HS.out)
          have hbg := (HS.out.now).1
          have qg_0 := hbg.cell 0 rfl
          have qg_1 := hbg.cell 1 rfl
          have qg_2 := hbg.cell 2 rfl
          have qg_3 := hbg.cell 3 rfl
          have qg_4 := hbg.cell 4 rfl
          have lg := hbg.lt
          clear hbg
          clear qg_0 qg_1 qg_2 qg_3 qg_4 lg
          have HSd := Lib.hid HS.out.drew
          refine wp_region_inv3 (act := ?actwt_r15_1) (Mod (fun _ => False)) (fun i => (wt_r15_1_F tp m g x0 x1 x2 x3 x4 wn fb2).getD i (fun _ _ => True)) (fun i => wt_r15_1_D.getD i []) (by kernel_rfl) (by kernel_rfl) (by kernel_rfl) (by kernel_rfl) (fun _ => Mod.refl _ _)
            (fun _ _ _ h k => h.trans k (fun _ _ e => e) (fun _ _ e => e)) ?hactwt_r15_1 (stable_list ?_) ?_ ?_
          case hactwt_r15_1 => intro vs; simp only [putAll, Nat.zero_add, Nat.reduceAdd, Act.put, List.setIfInBounds_toArray, List.set_cons_succ, List.set_cons_zero]; exact rfl
          · unfold wt_r15_1_F
            exact stable_cons (stable_val _) <| stable_cons (stable_val _) <| stable_cons (stable_val _) <| stable_cons (stable_val _) <| stable_cons (stable_val _) <| stable_cons (stable_val _) <| stable_cons (stable_val _) <| stable_cons (stable_val _) <| stable_cons (stable_val _) <| stable_cons (stable_val _) <| stable_cons (stable_val _) <| stable_cons (stable_val _) <| stable_cons (stable_val _) <| stable_cons (stable_val _) <| stable_cons (stable_val _) <| stable_cons (stable_val _) <| stable_cons (stable_val _) <| stable_cons (stable_val _) <| stable_cons (stable_val _) <| stable_cons (stable_val _) <| stable_cons (stable_val _) <| stable_cons (stable_val _) <| stable_cons (stable_val _) <| stable_cons (stable_val _) <| stable_cons (stable_val _) <| stable_cons (stable_val _) <| stable_cons (stable_val _) <| stable_cons (stable_val _) <| stable_cons (stable_val _) <| stable_cons (stable_val _) <| stable_cons (stable_val _) <| stable_cons (stable_val _) <| stable_cons (stable_val _) <| stable_cons (stable_val _) <| stable_cons (stable_val _) <| stable_cons (stable_val _) <| stable_cons (stable_val _) <| stable_nil
          · refine opsOkA_cons ?_ ?_
            · intro K vs W hR hD hK
              clear hD
              try dsimp only at hK ⊢
              simp only [Act.put, List.setIfInBounds_toArray, List.set_cons_succ, List.set_cons_zero] at hK
              go_wp2
              exact hK _ _ rfl (Mod.refl _ _)
            refine opsOkA_cons ?_ ?_
            · intro K vs W hR hD hK
              clear hD
              try dsimp only at hK ⊢
              simp only [Act.put, List.setIfInBounds_toArray, List.set_cons_succ, List.set_cons_zero] at hK
              have hix := HI0.out
              go_wp2_with fail
              exact hK _ _ rfl (Mod.refl _ _)
            refine opsOkA_cons ?_ ?_
            · intro K vs W hR hD hK
              have dq1 : vs 1 = .pointer (some ⟨g, 0, none⟩) := hD 1 (by decide)
              clear hD
              try dsimp only at hK ⊢
              simp only [Act.put, List.setIfInBounds_toArray, List.set_cons_succ, List.set_cons_zero] at hK
              generalize vs 1 = vq1 at hK dq1 ⊢
              subst vq1
              have q0 := ((HSd.out.at (hR)).1).cell 0 rfl
              go_wp2
              exact hK _ _ rfl (Mod.refl _ _)
            refine opsOkA_cons ?_ ?_
            · intro K vs W hR hD hK
              clear hD
              try dsimp only at hK ⊢
              simp only [Act.put, List.setIfInBounds_toArray, List.set_cons_succ, List.set_cons_zero] at hK
              have hix := HI1.out
              go_wp2_with fail
              exact hK _ _ rfl (Mod.refl _ _)
            refine opsOkA_cons ?_ ?_
            · intro K vs W hR hD hK
              have dq3 : vs 3 = .pointer (some ⟨g, 1, none⟩) := hD 3 (by decide)
              clear hD
              try dsimp only at hK ⊢
              simp only [Act.put, List.setIfInBounds_toArray, List.set_cons_succ, List.set_cons_zero] at hK
              generalize vs 3 = vq3 at hK dq3 ⊢
              subst vq3
              have q0 := ((HSd.out.at (hR)).1).cell 1 rfl
              go_wp2
              exact hK _ _ rfl (Mod.refl _ _)
            refine opsOkA_cons ?_ ?_
            · intro K vs W hR hD hK
              clear hD
              try dsimp only at hK ⊢
              simp only [Act.put, List.setIfInBounds_toArray, List.set_cons_succ, List.set_cons_zero] at hK
              have hix := HI2.out
              go_wp2_with fail
              exact hK _ _ rfl (Mod.refl _ _)
            refine opsOkA_cons ?_ ?_
            · intro K vs W hR hD hK
              have dq5 : vs 5 = .pointer (some ⟨g, 2, none⟩) := hD 5 (by decide)
              clear hD
              try dsimp only at hK ⊢
              simp only [Act.put, List.setIfInBounds_toArray, List.set_cons_succ, List.set_cons_zero] at hK
              generalize vs 5 = vq5 at hK dq5 ⊢
              subst vq5
              have q0 := ((HSd.out.at (hR)).1).cell 2 rfl
              go_wp2
              exact hK _ _ rfl (Mod.refl _ _)
            refine opsOkA_cons ?_ ?_
            · intro K vs W hR hD hK
              clear hD
              try dsimp only at hK ⊢
              simp only [Act.put, List.setIfInBounds_toArray, List.set_cons_succ, List.set_cons_zero] at hK
              have hix := HI3.out
              go_wp2_with fail
              exact hK _ _ rfl (Mod.refl _ _)
            refine opsOkA_cons ?_ ?_
            · intro K vs W hR hD hK
              have dq7 : vs 7 = .pointer (some ⟨g, 3, none⟩) := hD 7 (by decide)
              clear hD
              try dsimp only at hK ⊢
              simp only [Act.put, List.setIfInBounds_toArray, List.set_cons_succ, List.set_cons_zero] at hK
              generalize vs 7 = vq7 at hK dq7 ⊢
              subst vq7
              have q0 := ((HSd.out.at (hR)).1).cell 3 rfl
              go_wp2
              exact hK _ _ rfl (Mod.refl _ _)
            refine opsOkA_cons ?_ ?_
            · intro K vs W hR hD hK
              clear hD
              try dsimp only at hK ⊢
              simp only [Act.put, List.setIfInBounds_toArray, List.set_cons_succ, List.set_cons_zero] at hK
              have hix := HI4.out
              go_wp2_with fail
              exact hK _ _ rfl (Mod.refl _ _)
            refine opsOkA_cons ?_ ?_
            · intro K vs W hR hD hK
              have dq9 : vs 9 = .pointer (some ⟨g, 4, none⟩) := hD 9 (by decide)
              clear hD
              try dsimp only at hK ⊢
              simp only [Act.put, List.setIfInBounds_toArray, List.set_cons_succ, List.set_cons_zero] at hK
              generalize vs 9 = vq9 at hK dq9 ⊢
              subst vq9
              have q0 := ((HSd.out.at (hR)).1).cell 4 rfl
              go_wp2
              exact hK _ _ rfl (Mod.refl _ _)
            refine opsOkA_cons ?_ ?_
            · intro K vs W hR hD hK
              have dq0 : vs 0 = .pointer (some ⟨tp, 0, none⟩) := hD 0 (by decide)
              have dq2 : vs 2 = .int .i64 x0 := hD 2 (by decide)
              have dq4 : vs 4 = .int .i64 x1 := hD 4 (by decide)
              have dq6 : vs 6 = .int .i64 x2 := hD 6 (by decide)
              have dq8 : vs 8 = .int .i64 x3 := hD 8 (by decide)
              have dq10 : vs 10 = .int .i64 x4 := hD 10 (by decide)
              clear hD
              try dsimp only at hK ⊢
              simp only [Act.put, List.setIfInBounds_toArray, List.set_cons_succ, List.set_cons_zero] at hK
              generalize vs 0 = vq0 at hK dq0 ⊢
              subst vq0
              generalize vs 2 = vq2 at hK dq2 ⊢
              subst vq2
              generalize vs 4 = vq4 at hK dq4 ⊢
              subst vq4
              generalize vs 6 = vq6 at hK dq6 ⊢
              subst vq6
              generalize vs 8 = vq8 at hK dq8 ⊢
              subst vq8
              generalize vs 10 = vq10 at hK dq10 ⊢
              subst vq10
              go_wp2_with (go_at_call 34; refine (wfind ((HSd.out.at (hR)).2.2.1) HW.out x0 x1 x2 x3 x4 d1 HD1.out).mono ?_; rintro e' w' ⟨rfl, hm'⟩; rw [HFB2.out])
              exact hK _ _ rfl hm'
            refine opsOkA_cons ?_ ?_
            · intro K vs W hR hD hK
              clear hD
              try dsimp only at hK ⊢
              simp only [Act.put, List.setIfInBounds_toArray, List.set_cons_succ, List.set_cons_zero] at hK
              go_wp2
              exact hK _ _ rfl (Mod.refl _ _)
            refine opsOkA_cons ?_ ?_
            · intro K vs W hR hD hK
              clear hD
              try dsimp only at hK ⊢
              simp only [Act.put, List.setIfInBounds_toArray, List.set_cons_succ, List.set_cons_zero] at hK
              have hix := HI0.out
              go_wp2_with fail
              exact hK _ _ rfl (Mod.refl _ _)
            refine opsOkA_cons ?_ ?_
            · intro K vs W hR hD hK
              have dq13 : vs 13 = .pointer (some ⟨g, 0, none⟩) := hD 13 (by decide)
              clear hD
              try dsimp only at hK ⊢
              simp only [Act.put, List.setIfInBounds_toArray, List.set_cons_succ, List.set_cons_zero] at hK
              generalize vs 13 = vq13 at hK dq13 ⊢
              subst vq13
              have q0 := ((HSd.out.at (hR)).1).cell 0 rfl
              go_wp2
              exact hK _ _ rfl (Mod.refl _ _)
            refine opsOkA_cons ?_ ?_
            · intro K vs W hR hD hK
              clear hD
              try dsimp only at hK ⊢
              simp only [Act.put, List.setIfInBounds_toArray, List.set_cons_succ, List.set_cons_zero] at hK
              have hix := HI1.out
              go_wp2_with fail
              exact hK _ _ rfl (Mod.refl _ _)
            refine opsOkA_cons ?_ ?_
            · intro K vs W hR hD hK
              have dq15 : vs 15 = .pointer (some ⟨g, 1, none⟩) := hD 15 (by decide)
              clear hD
              try dsimp only at hK ⊢
              simp only [Act.put, List.setIfInBounds_toArray, List.set_cons_succ, List.set_cons_zero] at hK
              generalize vs 15 = vq15 at hK dq15 ⊢
              subst vq15
              have q0 := ((HSd.out.at (hR)).1).cell 1 rfl
              go_wp2
              exact hK _ _ rfl (Mod.refl _ _)
            refine opsOkA_cons ?_ ?_
            · intro K vs W hR hD hK
              clear hD
              try dsimp only at hK ⊢
              simp only [Act.put, List.setIfInBounds_toArray, List.set_cons_succ, List.set_cons_zero] at hK
              have hix := HI2.out
              go_wp2_with fail
              exact hK _ _ rfl (Mod.refl _ _)
            refine opsOkA_cons ?_ ?_
            · intro K vs W hR hD hK
              have dq17 : vs 17 = .pointer (some ⟨g, 2, none⟩) := hD 17 (by decide)
              clear hD
              try dsimp only at hK ⊢
              simp only [Act.put, List.setIfInBounds_toArray, List.set_cons_succ, List.set_cons_zero] at hK
              generalize vs 17 = vq17 at hK dq17 ⊢
              subst vq17
              have q0 := ((HSd.out.at (hR)).1).cell 2 rfl
              go_wp2
              exact hK _ _ rfl (Mod.refl _ _)
            refine opsOkA_cons ?_ ?_
            · intro K vs W hR hD hK
              clear hD
              try dsimp only at hK ⊢
              simp only [Act.put, List.setIfInBounds_toArray, List.set_cons_succ, List.set_cons_zero] at hK
              have hix := HI3.out
              go_wp2_with fail
              exact hK _ _ rfl (Mod.refl _ _)
            refine opsOkA_cons ?_ ?_
            · intro K vs W hR hD hK
              have dq19 : vs 19 = .pointer (some ⟨g, 3, none⟩) := hD 19 (by decide)
              clear hD
              try dsimp only at hK ⊢
              simp only [Act.put, List.setIfInBounds_toArray, List.set_cons_succ, List.set_cons_zero] at hK
              generalize vs 19 = vq19 at hK dq19 ⊢
              subst vq19
              have q0 := ((HSd.out.at (hR)).1).cell 3 rfl
              go_wp2
              exact hK _ _ rfl (Mod.refl _ _)
            refine opsOkA_cons ?_ ?_
            · intro K vs W hR hD hK
              clear hD
              try dsimp only at hK ⊢
              simp only [Act.put, List.setIfInBounds_toArray, List.set_cons_succ, List.set_cons_zero] at hK
              have hix := HI4.out
              go_wp2_with fail
              exact hK _ _ rfl (Mod.refl _ _)
            refine opsOkA_cons ?_ ?_
            · intro K vs W hR hD hK
              have dq21 : vs 21 = .pointer (some ⟨g, 4, none⟩) := hD 21 (by decide)
              clear hD
              try dsimp only at hK ⊢
              simp only [Act.put, List.setIfInBounds_toArray, List.set_cons_succ, List.set_cons_zero] at hK
              generalize vs 21 = vq21 at hK dq21 ⊢
              subst vq21
              have q0 := ((HSd.out.at (hR)).1).cell 4 rfl
              go_wp2
              exact hK _ _ rfl (Mod.refl _ _)
            refine opsOkA_cons ?_ ?_
            · intro K vs W hR hD hK
              have dq12 : vs 12 = .pointer (some ⟨m, 0, none⟩) := hD 12 (by decide)
              have dq14 : vs 14 = .int .i64 x0 := hD 14 (by decide)
              have dq16 : vs 16 = .int .i64 x1 := hD 16 (by decide)
              have dq18 : vs 18 = .int .i64 x2 := hD 18 (by decide)
              have dq20 : vs 20 = .int .i64 x3 := hD 20 (by decide)
              have dq22 : vs 22 = .int .i64 x4 := hD 22 (by decide)
              clear hD
              try dsimp only at hK ⊢
              simp only [Act.put, List.setIfInBounds_toArray, List.set_cons_succ, List.set_cons_zero] at hK
              generalize vs 12 = vq12 at hK dq12 ⊢
              subst vq12
              generalize vs 14 = vq14 at hK dq14 ⊢
              subst vq14
              generalize vs 16 = vq16 at hK dq16 ⊢
              subst vq16
              generalize vs 18 = vq18 at hK dq18 ⊢
              subst vq18
              generalize vs 20 = vq20 at hK dq20 ⊢
              subst vq20
              generalize vs 22 = vq22 at hK dq22 ⊢
              subst vq22
              go_wp2_with (go_at_call 35; refine (rn_wit ((HSd.out.at (hR)).2.1) HOK.out HW.out (by omega) (by have := HLE.out; omega) x0 x1 x2 x3 x4 d1 HD1.out).mono ?_; rintro e' w' ⟨rfl, hm'⟩; rw [HFB2.out])
              exact hK _ _ rfl hm'
            refine opsOkA_cons ?_ ?_
            · intro K vs W hR hD hK
              have dq11 : vs 11 = .bool fb2 := hD 11 (by decide)
              have dq23 : vs 23 = .bool fb2 := hD 23 (by decide)
              clear hD
              try dsimp only at hK ⊢
              simp only [Act.put, List.setIfInBounds_toArray, List.set_cons_succ, List.set_cons_zero] at hK
              generalize vs 11 = vq11 at hK dq11 ⊢
              subst vq11
              generalize vs 23 = vq23 at hK dq23 ⊢
              subst vq23
              have hne : (fb2 != fb2) = false := by cases fb2 <;> rfl
              go_wp2
              exact hK _ _ rfl (Mod.refl _ _)
            refine opsOkA_cons ?_ ?_
            · intro K vs W hR hD hK
              have dq24 : vs 24 = .bool false := hD 24 (by decide)
              clear hD
              try dsimp only at hK ⊢
              simp only [Act.put, List.setIfInBounds_toArray, List.set_cons_succ, List.set_cons_zero] at hK
              generalize vs 24 = vq24 at hK dq24 ⊢
              subst vq24
              go_wp2
              exact hK _ _ rfl (Mod.refl _ _)
            refine opsOkA_cons ?_ ?_
            · intro K vs W hR hD hK
              have dq25 : vs 25 = .bool false := hD 25 (by decide)
              clear hD
              try dsimp only at hK ⊢
              simp only [Act.put, List.setIfInBounds_toArray, List.set_cons_succ, List.set_cons_zero] at hK
              generalize vs 25 = vq25 at hK dq25 ⊢
              subst vq25
              go_wp2
              exact hK _ _ rfl (Mod.refl _ _)
            refine opsOkA_cons ?_ ?_
            · intro K vs W hR hD hK
              have dq25 : vs 25 = .bool false := hD 25 (by decide)
              clear hD
              try dsimp only at hK ⊢
              simp only [Act.put, List.setIfInBounds_toArray, List.set_cons_succ, List.set_cons_zero] at hK
              generalize vs 25 = vq25 at hK dq25 ⊢
              subst vq25
              go_wp2
              exact hK _ _ rfl (Mod.refl _ _)
            refine opsOkA_cons ?_ ?_
            · intro K vs W hR hD hK
              have dq25 : vs 25 = .bool false := hD 25 (by decide)
              have dq27 : vs 27 = .int .i64 wn := hD 27 (by decide)
              clear hD
              try dsimp only at hK ⊢
              simp only [Act.put, List.setIfInBounds_toArray, List.set_cons_succ, List.set_cons_zero] at hK
              generalize vs 25 = vq25 at hK dq25 ⊢
              subst vq25
              generalize vs 27 = vq27 at hK dq27 ⊢
              subst vq27
              have hz := HZW.out.1
              go_wp2
              exact hK _ _ rfl (Mod.refl _ _)
            refine opsOkA_cons ?_ ?_
            · intro K vs W hR hD hK
              have dq25 : vs 25 = .bool false := hD 25 (by decide)
              have dq26 : vs 26 = .bool true := hD 26 (by decide)
              have dq28 : vs 28 = .bool true := hD 28 (by decide)
              clear hD
              try dsimp only at hK ⊢
              simp only [Act.put, List.setIfInBounds_toArray, List.set_cons_succ, List.set_cons_zero] at hK
              generalize vs 25 = vq25 at hK dq25 ⊢
              subst vq25
              generalize vs 26 = vq26 at hK dq26 ⊢
              subst vq26
              generalize vs 28 = vq28 at hK dq28 ⊢
              subst vq28
              go_wp2
              exact hK _ _ rfl (Mod.refl _ _)
            refine opsOkA_cons ?_ ?_
            · intro K vs W hR hD hK
              have dq25 : vs 25 = .bool false := hD 25 (by decide)
              have dq29 : vs 29 = .bool false := hD 29 (by decide)
              clear hD
              try dsimp only at hK ⊢
              simp only [Act.put, List.setIfInBounds_toArray, List.set_cons_succ, List.set_cons_zero] at hK
              generalize vs 25 = vq25 at hK dq25 ⊢
              subst vq25
              generalize vs 29 = vq29 at hK dq29 ⊢
              subst vq29
              go_wp2
              exact hK _ _ rfl (Mod.refl _ _)
            refine opsOkA_cons ?_ ?_
            · intro K vs W hR hD hK
              have dq30 : vs 30 = .bool false := hD 30 (by decide)
              clear hD
              try dsimp only at hK ⊢
              simp only [Act.put, List.setIfInBounds_toArray, List.set_cons_succ, List.set_cons_zero] at hK
              generalize vs 30 = vq30 at hK dq30 ⊢
              subst vq30
              go_wp2
              exact hK _ _ rfl (Mod.refl _ _)
            refine opsOkA_cons ?_ ?_
            · intro K vs W hR hD hK
              have dq31 : vs 31 = .bool false := hD 31 (by decide)
              clear hD
              try dsimp only at hK ⊢
              simp only [Act.put, List.setIfInBounds_toArray, List.set_cons_succ, List.set_cons_zero] at hK
              generalize vs 31 = vq31 at hK dq31 ⊢
              subst vq31
              go_wp2
              exact hK _ _ rfl (Mod.refl _ _)
            refine opsOkA_cons ?_ ?_
            · intro K vs W hR hD hK
              have dq31 : vs 31 = .bool false := hD 31 (by decide)
              clear hD
              try dsimp only at hK ⊢
              simp only [Act.put, List.setIfInBounds_toArray, List.set_cons_succ, List.set_cons_zero] at hK
              generalize vs 31 = vq31 at hK dq31 ⊢
              subst vq31
              go_wp2
              exact hK _ _ rfl (Mod.refl _ _)
            refine opsOkA_cons ?_ ?_
            · intro K vs W hR hD hK
              have dq31 : vs 31 = .bool false := hD 31 (by decide)
              have dq33 : vs 33 = .int .i64 wn := hD 33 (by decide)
              clear hD
              try dsimp only at hK ⊢
              simp only [Act.put, List.setIfInBounds_toArray, List.set_cons_succ, List.set_cons_zero] at hK
              generalize vs 31 = vq31 at hK dq31 ⊢
              subst vq31
              generalize vs 33 = vq33 at hK dq33 ⊢
              subst vq33
              go_wp2_with fail
              all_goals first | (exfalso; have hq := of_decide_eq_true HZW.out.1; omega) | exact hK _ _ rfl (Mod.refl _ _)
            refine opsOkA_cons ?_ ?_
            · intro K vs W hR hD hK
              have dq31 : vs 31 = .bool false := hD 31 (by decide)
              have dq32 : vs 32 = .int .i64 wn := hD 32 (by decide)
              have dq34 : vs 34 = .int .i64 wn := hD 34 (by decide)
              clear hD
              try dsimp only at hK ⊢
              simp only [Act.put, List.setIfInBounds_toArray, List.set_cons_succ, List.set_cons_zero] at hK
              generalize vs 31 = vq31 at hK dq31 ⊢
              subst vq31
              generalize vs 32 = vq32 at hK dq32 ⊢
              subst vq32
              generalize vs 34 = vq34 at hK dq34 ⊢
              subst vq34
              have hne : (wn != wn) = false := by simp
              go_wp2
              exact hK _ _ rfl (Mod.refl _ _)
            refine opsOkA_cons ?_ ?_
            · intro K vs W hR hD hK
              have dq31 : vs 31 = .bool false := hD 31 (by decide)
              have dq35 : vs 35 = .bool false := hD 35 (by decide)
              clear hD
              try dsimp only at hK ⊢
              simp only [Act.put, List.setIfInBounds_toArray, List.set_cons_succ, List.set_cons_zero] at hK
              generalize vs 31 = vq31 at hK dq31 ⊢
              subst vq31
              generalize vs 35 = vq35 at hK dq35 ⊢
              subst vq35
              go_wp2
              exact hK _ _ rfl (Mod.refl _ _)
            exact opsOkA_nil
          · intro vs wq2 hR hF
            have dq36 : vs 36 = .bool false := hF 36 (by decide)
            clear hF
            try dsimp only
            generalize vs 36 = vq36 at dq36 ⊢
            subst dq36
            replace HS := Lib.hid (HSd.out.step hR)
            clear HSd hR
            have hbg := (HS.out.now).1
            have qg_0 := hbg.cell 0 rfl
            have qg_1 := hbg.cell 1 rfl
            have qg_2 := hbg.cell 2 rfl
            have qg_3 := hbg.cell 3 rfl
            have qg_4 := hbg.cell 4 rfl
            have lg := hbg.lt
            clear hbg
            go_wp2_with fail
            go_roundw
            case rel => exact ⟨k + 1, hlt, by go_num, HM4.out.of2 (HS.out.now).2.2.2⟩
            case measure => simp [intOf]; omega
set_option maxHeartbeats 8000000 in
theorem wtells_law (w : World) (nv : Int) (_ : (Lit.int .i64 nv).wf = true) (a : Option Addr) (ln c : Nat) (T : List T3) (ok : (encSlice enc3).ok w (.slice a ln c, T)) (a2 : Option Addr) (m2 c2 : Nat) (Q : List T5) (ok2 : (encSlice enc5).ok w (.slice a2 m2 c2, Q)) :
    Calls Try.prog 6 #[.int .i64 nv, .slice a ln c, .slice a2 m2 c2] w fun e w' => e = .returned (.bool true) ∧ Below w.heap.size w w' := by
  obtain ⟨hT, hr⟩ := ok_t3 ok
  obtain ⟨hQ, hr2⟩ := ok_t5 ok2
  suffices h : Calls Try.prog 6 #[.int .i64 nv, .slice a ln c, .slice a2 m2 c2] w fun e w' => e = .returned (.bool true) ∧ Mod (fun _ => False) w w' from
    h.mono fun e w' h => ⟨h.1, h.2.below (Nat.le_refl _) (fun _ e => e.elim)⟩
  by_cases hno : ¬ (1 ≤ nv ∧ nv ≤ 40 ∧ ln ≤ 120 ∧ m2 ≤ 30)
  case pos =>
    clear hr hT ok hr2 hQ ok2
    have hend : ∀ (b0 b1 b2 b3 : Bool), decide (nv < 1) = b0 → decide (40 < nv) = b1 → decide (120 < (ln : Int)) = b2 → decide (30 < (m2 : Int)) = b3 → (b0 || b1 || b2 || b3) = true →
        Calls Try.prog 6 #[.int .i64 nv, .slice a ln c, .slice a2 m2 c2] w fun e w' => e = .returned (.bool true) ∧ Mod (fun _ => False) w w' := by
      intro b0 b1 b2 b3 hc0 hc1 hc2 hc3 hbb
      clear hno
      cases b0
      · skip
        cases b1
        · skip
          cases b2
          · skip
            cases b3
            · cases hbb
            · clear hbb 
              go_enter Try.func6, Try.ntmps6
              go_wp2_with fail
              refine (awake14_any _).mono ?_
              rintro e w9 ⟨rfl, hm9⟩
              go_wp2_with fail
              go_ret
              exact ⟨rfl, hm9⟩
          · clear hbb hc3
            go_enter Try.func6, Try.ntmps6
            go_wp2_with fail
            refine (awake14_any _).mono ?_
            rintro e w9 ⟨rfl, hm9⟩
            go_wp2_with fail
            go_ret
            exact ⟨rfl, hm9⟩
        · clear hbb hc2 hc3
          go_enter Try.func6, Try.ntmps6
          go_wp2_with fail
          refine (awake14_any _).mono ?_
          rintro e w9 ⟨rfl, hm9⟩
          go_wp2_with fail
          go_ret
          exact ⟨rfl, hm9⟩
      · clear hbb hc1 hc2 hc3
        go_enter Try.func6, Try.ntmps6
        go_wp2_with fail
        refine (awake14_any _).mono ?_
        rintro e w9 ⟨rfl, hm9⟩
        go_wp2_with fail
        go_ret
        exact ⟨rfl, hm9⟩
    refine hend _ _ _ _ rfl rfl rfl rfl ?_
    simp only [Bool.or_eq_true, decide_eq_true_eq]
    omega
  case neg =>
    have hyes := Decidable.not_not.1 hno
    obtain ⟨n, rfl⟩ := Int.eq_ofNat_of_zero_le (show 0 ≤ nv by omega)
    exact wtells_all w n (by omega) (by omega) a ln c T hT hr (by omega) a2 m2 c2 Q hQ hr2 (by omega)
end Go.Proofs.Ytnklgeekjkchbaa
