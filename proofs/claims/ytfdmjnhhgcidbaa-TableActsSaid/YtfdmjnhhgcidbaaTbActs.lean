/- TableActs by contract. -/
import Derived.Test.YtfdmjnhhgcidbaaTblB
import Derived.Test.YtfdmjnhhgcidbaaRegion2
import Derived.Deep.DeepCutAuto
import Derived.Deep.CutBlock
namespace Go.Proofs.Ytfdmjnhhgcidbaa
open Go.RowKit Mile
set_option maxRecDepth 100000
/-- What each operation of the statement leaves. -/
def ta_r32_0_F (p : Nat) (q : Nat) (n : Nat) (c : Nat) (a : Option Addr) (es2 : Nat → TbE) : List (Value → World → Prop) :=
  [IsV (.pointer none),
   IsV (.bool true),
   IsV (.pointer none),
   IsV (.bool true),
   IsV (.bool false),
   IsV (.bool false),
   IsV (.pointer none),
   IsV (.bool false),
   IsV (.bool false),
   IsV (undef),
   IsV (undef),
   IsV (undef),
   IsV (undef),
   IsV (undef),
   IsV (undef),
   IsV (undef),
   IsV (undef),
   IsV (undef),
   IsV (undef),
   IsV (undef),
   IsV (undef),
   IsV (undef),
   IsV (undef),
   IsV (undef),
   IsV (undef),
   IsV (.bool false),
   IsV (.bool false),
   IsV (.bool false),
   IsV (.pointer (some ⟨p, 0, none⟩)),
   IsV (.int .i64 (n : Int)),
   IsV (.pointer (some ⟨q, 0, none⟩)),
   IsV (.pointer (some ⟨q, 0, none⟩)),
   IsV (.pointer (some ⟨q, 11, none⟩)),
   IsV (.slice a n c),
   IsV (.int .i64 (n : Int)),
   IsV (.bool false),
   IsV (.bool false),
   IsV (.bool false),
   IsV (.pointer (some ⟨p, 0, none⟩)),
   (AllP es2 n),
   (NumP (liveI es2) n),
   IsV (.pointer (some ⟨q, 0, none⟩)),
   (NumP (liveI es2) n),
   IsV (.bool true),
   IsV (.bool false),
   IsV (.bool false)]
def ta_r32_0_D : List (List Nat) := [[], [0], [], [2], [1, 3], [4], [5], [5, 6], [5, 7], [8], [8], [8], [8], [8], [8], [8], [8], [16], [16], [16], [16], [16], [16], [16], [8], [5, 8, 24], [5, 25], [26], [27], [27, 28], [27], [27, 30], [27, 31], [27, 32], [27, 33], [27, 29, 34], [27, 35], [36], [37], [37, 38], [37, 39], [37], [37, 41], [37, 40, 42], [37, 43], [37, 44]]

/-- What each operation of the statement leaves. -/
def ta_r32_1_F (p : Nat) (q : Nat) (g : Nat) (n : Nat) (c : Nat) (b : Nat) (eb : Nat) (a : Option Addr) (es2 : Nat → TbE) (pr : Int) (cn : Int) : List (Value → World → Prop) :=
  [IsV (.pointer (some ⟨b, 0, none⟩)),
   IsV (.bool false),
   IsV (.pointer (some ⟨eb, 0, none⟩)),
   IsV (.bool false),
   IsV (.bool false),
   IsV (.bool false),
   IsV (.pointer (some ⟨b, 0, none⟩)),
   IsV (.bool true),
   IsV (.bool true),
   IsV (.pointer (some ⟨b, 0, none⟩)),
   IsV (.pointer (some ⟨b, 0, none⟩)),
   IsV (.pointer (some ⟨b, 1, none⟩)),
   IsV (.int .i64 cn),
   IsV (.pointer (some ⟨g, 2, none⟩)),
   IsV (.int .i64 cn),
   IsV (.bool false),
   IsV (.bool false),
   IsV (.pointer (some ⟨b, 0, none⟩)),
   IsV (.pointer (some ⟨b, 0, none⟩)),
   IsV (.pointer (some ⟨b, 0, none⟩)),
   IsV (.int .i64 pr),
   IsV (.pointer (some ⟨g, 1, none⟩)),
   IsV (.int .i64 pr),
   IsV (.bool false),
   IsV (.bool false),
   IsV (.bool false),
   IsV (.bool false),
   IsV (.bool false),
   IsV (.pointer (some ⟨p, 0, none⟩)),
   IsV (.int .i64 (n : Int)),
   IsV (.pointer (some ⟨q, 0, none⟩)),
   IsV (.pointer (some ⟨q, 0, none⟩)),
   IsV (.pointer (some ⟨q, 11, none⟩)),
   IsV (.slice a n c),
   IsV (.int .i64 (n : Int)),
   IsV (.bool false),
   IsV (.bool false),
   IsV (.bool false),
   IsV (.pointer (some ⟨p, 0, none⟩)),
   (AllP es2 n),
   (NumP (liveI es2) n),
   IsV (.pointer (some ⟨q, 0, none⟩)),
   (NumP (liveI es2) n),
   IsV (.bool true),
   IsV (.bool false),
   IsV (.bool false)]
def ta_r32_1_D : List (List Nat) := [[], [0], [], [2], [1, 3], [4], [5], [5, 6], [5, 7], [8], [8, 9], [8, 10], [8, 11], [8], [8, 13], [8, 12, 14], [8, 15], [16], [16, 17], [16, 18], [16, 19], [16], [16, 21], [16, 20, 22], [8, 16, 23], [5, 8, 24], [5, 25], [26], [27], [27, 28], [27], [27, 30], [27, 31], [27, 32], [27, 33], [27, 29, 34], [27, 35], [36], [37], [37, 38], [37, 39], [37], [37, 41], [37, 40, 42], [37, 43], [37, 44]]

set_option maxHeartbeats 64000000 in
theorem tlacts_all (w : World) (mv : Int) (a0 : Option Addr) (m c0 : Nat) (l : List ActT) (hm : l.length = m) (hr : Rd w 3 (.slice a0 m c0) m (l.flatMap cActT)) :
    Calls Try.prog 7 #[.int .i64 mv, .slice a0 m c0] w fun e w' => e = .returned (.bool true) ∧ Mod (fun _ => False) w w' := by
  by_cases hno : ¬ (m ≤ 80)
  case pos =>
    clear hr hm
    have hend : ∀ (b0 : Bool), decide (80 < (m : Int)) = b0 → (b0) = true →
        Calls Try.prog 7 #[.int .i64 mv, .slice a0 m c0] w fun e w' => e = .returned (.bool true) ∧ Mod (fun _ => False) w w' := by
      intro b0 hc0 hbb
      clear hno
      cases b0
      · cases hbb
      · clear hbb 
        go_enter Try.func7, Try.ntmps7
        go_wp2_with fail
        refine (awake29_any _).mono ?_
        rintro e w9 ⟨rfl, hm9⟩
        go_wp2_with fail
        go_ret
        exact ⟨rfl, hm9⟩
    refine hend _ rfl ?_
    simp only [decide_eq_true_eq]
    omega
  case neg =>
  have hm80 : m ≤ 80 := Decidable.not_not.1 hno
  clear hno
  obtain ⟨iE, hiE, hzE, hsE, hbE⟩ := info_parts Tb.infoE
  have hinfo : (Try.prog.info? 87).map (fun i => (i.zero, i.size, i.bytes)) = some (some (.agg #[.int .i64 0, .int .i64 0, .int .i64 0]), 3, 24) := by kernel_rfl
  obtain ⟨iA, hiA, hzA, hsA, hbA⟩ := info_parts hinfo
  clear hinfo
  have z0 : decide (80 < (m : Int)) = false := by simp; omega
  have z0n : decide (80 < m) = false := by simp; omega
  have HLN := Lib.hid hm
  have HRD := Lib.hid hr
  clear hm hr
  by_cases hmv : 1 ≤ mv ∧ mv ≤ 16
  case neg =>
    have HNO := Lib.hid hmv
    clear hmv
    by_cases h1 : mv < 1
    · have z1 : decide (mv < 1) = true := decide_eq_true h1
      clear h1
      go_enter Try.func7, Try.ntmps7
      go_wp2_with fail
      refine (tbnew_no w mv HNO.out).mono ?_
      rintro e w' ⟨rfl, rfl⟩
      go_wp2_with fail
      refine (awake29_any _).mono ?_
      rintro e w9 ⟨rfl, hm9⟩
      go_wp2_with fail
      go_ret
      exact ⟨rfl, hm9⟩
    · have z1 : decide (mv < 1) = false := decide_eq_false h1
      have z2 : decide (16 < mv) = true := decide_eq_true (by have := HNO.out; omega)
      clear h1
      go_enter Try.func7, Try.ntmps7
      go_wp2_with fail
      refine (tbnew_no w mv HNO.out).mono ?_
      rintro e w' ⟨rfl, rfl⟩
      go_wp2_with fail
      refine (awake29_any _).mono ?_
      rintro e w9 ⟨rfl, hm9⟩
      go_wp2_with fail
      go_ret
      exact ⟨rfl, hm9⟩
  case pos =>
  obtain ⟨M, rfl⟩ := Int.eq_ofNat_of_zero_le (show 0 ≤ mv by omega)
  have hM1 : 1 ≤ M := by omega
  have hM2 : M ≤ 16 := by omega
  clear hmv
  have z1 : decide ((M : Int) < 1) = false := by simp; omega
  have z2 : decide (16 < (M : Int)) = false := by simp; omega
  have z2n : decide (16 < M) = false := by simp; omega
  go_enter Try.func7, Try.ntmps7
  go_wp2_with fail
  refine (tbnew_any w M hM1 hM2).mono ?_
  rintro e w1 ⟨p, rfl, ht, hp, hm1⟩
  have HT1 : Hid (TS w w1 p M (fun _ => none) (fun _ => 0)) := Lib.hid ⟨ht, hp, hm1⟩
  clear ht hp hm1
  obtain ⟨nb, hnb⟩ : ∃ y, w1.heap.size = y := ⟨_, rfl⟩
  obtain ⟨wA, hwA⟩ : ∃ y, w1.alloc (.cells #[.int .i64 0, .int .i64 0] 80) = y := ⟨_, rfl⟩
  have hnA : Blk wA nb 80 [.int .i64 0, .int .i64 0] := by rw [← hwA, ← hnb]; exact Blk.new w1 80 [.int .i64 0, .int .i64 0]
  have HT2 : Hid (TS w wA p M (fun _ => none) (fun _ => 0)) := Lib.hid (HT1.out.later (by rw [← hwA]; exact Mod.alloc _ _ _))
  have HSN := Lib.hid (svnew_any wA nb M hM1 hM2 (hnA.cell 0 rfl) (hnA.cell 1 rfl))
  clear hnA HT1
  go_wp2_with fail
  (try rw [hwA])
  (try rw [hnb])
  clear hwA hnb
  refine HSN.out.mono ?_
  rintro e w2 ⟨q, rfl, hs, hq, hm2⟩
  have HB2 : Hid (BS w w2 p q M (fun _ => none) (fun _ => 0) (fun _ => 0) []) := Lib.hid ⟨HT2.out.later hm2, ⟨_, _, _, hs⟩, by have := HT2.out.md.size; omega⟩
  clear hs hq hm2 HSN HT2
  go_wp2_with fail
  go_loopw [8] (fun i wr => ∃ (j : Nat) (es : Nat → TbE) (gr : Nat → Int) (L : List SE), j ≤ m ∧ i = .int .i64 j ∧ BS w wr p q M es gr gr L ∧ SvR es gr L) (fun i _ => m - (intOf i).toNat)
  case atStart => exact ⟨0, _, _, _, by omega, rfl, HB2.out, SvR.nil⟩
  case round =>
    obtain ⟨k, es, gr, L, hk, rfl, hb, hr⟩ := hrel
    obtain ⟨wp, hwp⟩ : ∃ y : World, y = wr := ⟨_, rfl⟩
    subst hwp
    have HB := Lib.hid hb
    have HR := Lib.hid hr
    clear hb hr HB2
    by_cases hlt : k < m
    case neg =>
      have y2 : decide ((k : Int) < (m : Int)) = false := by simp; omega
      have y3 : decide (k < m) = false := by simpa using hlt
      go_wp2_with fail
      refine (awake29_any _).mono ?_
      rintro e w9 ⟨rfl, hm9⟩
      go_wp2_with fail
      go_ret
      exact ⟨rfl, HB.out.ts.md.of2 hm9⟩
    case pos =>
      have y2 : decide ((k : Int) < (m : Int)) = true := by simp; omega
      have y3 : decide (k < m) = true := by simpa using hlt
      have hkl : k < l.length := by rw [HLN.out]; exact hlt
      have hrd := HRD.out.keep HB.out.ts.md (fun _ _ e => e)
      obtain ⟨eb, eo, hpl, e0, e1, e2⟩ := rdActT hrd HLN.out k hkl
      have hix := fun wx => run_indexS (P := Try.prog) wx 73 87 iA 3 Try.underlying73 hiA hsA a0 m c0 k hlt (hrd.some_ (by omega))
      rw [hpl] at hix
      obtain ⟨kd, hkd⟩ : ∃ y, l[k].1 = y := ⟨_, rfl⟩
      obtain ⟨pr, hpr⟩ : ∃ y, l[k].2.1 = y := ⟨_, rfl⟩
      obtain ⟨cn, hcn⟩ : ∃ y, l[k].2.2.1 = y := ⟨_, rfl⟩
      rw [hkd] at e0
      rw [hpr] at e1
      rw [hcn] at e2
      clear hkd hpr hcn hpl hrd
      obtain ⟨g, hg⟩ : ∃ y, wp.heap.size = y := ⟨_, rfl⟩
      obtain ⟨wA, hwA⟩ : ∃ y, wp.alloc (.cells #[.int .i64 kd, .int .i64 pr, .int .i64 cn] 87) = y := ⟨_, rfl⟩
      have hgA : Blk wA g 87 [.int .i64 kd, .int .i64 pr, .int .i64 cn] := by rw [← hwA, ← hg]; exact Blk.new wp 87 [.int .i64 kd, .int .i64 pr, .int .i64 cn]
      have HBA : Hid (BS w wA p q M es gr gr L) := Lib.hid (HB.out.later (by rw [← hwA]; exact Mod.alloc _ _ _))
      have HGA := Lib.hid hgA
      go_upto_region 15 with fail
      (try rw [hwA])
      (try rw [hg])
      have g1 := hgA.cell 1 rfl
      have g2 := hgA.cell 2 rfl
      clear hwA hg hgA e0 e1 e2 hix HB
      obtain ⟨r, hr⟩ : ∃ y, mayC M es gr pr cn = y := ⟨_, rfl⟩
      have HM := Lib.hid hr
      clear hr
      go_wp2_with fail
      refine (bs_may1 g HBA.out HR.out pr cn r HM.out).mono ?_
      rintro e w3 ⟨rfl, hb, hg⟩
      have HB3 := Lib.hid hb
      have hg3 := hg _ HGA.out
      have g1 := hg3.cell 1 rfl
      have g2 := hg3.cell 2 rfl
      have HG3 := Lib.hid hg3
      clear hb hg hg3 HBA HGA
      go_wp2_with fail
      refine (bs_may2 g HB3.out pr cn r HM.out).mono ?_
      rintro e w4 ⟨rfl, hb, hg⟩
      have HB4 := Lib.hid hb
      have hg4 := hg _ HG3.out
      have g0 := hg4.cell 0 rfl
      have g1 := hg4.cell 1 rfl
      have g2 := hg4.cell 2 rfl
      have HG4 := Lib.hid hg4
      clear hb hg hg4 HB3 HG3
      go_upto_block 2 with fail
      go_cut [11, 12] (fun _ _ wx => ∃ (es2 : Nat → TbE) (gr2 : Nat → Int) (L2 : List SE), BS w wx p q M es2 gr2 gr2 L2 ∧ SvR es2 gr2 L2 ∧ Blk wx g 87 [.int .i64 kd, .int .i64 pr, .int .i64 cn])
      case first =>
        by_cases hk1 : kd = 1
        case pos =>
          have x1 : (kd == 1) = true := by simpa using hk1
          clear hk1
          go_wp2_with fail
          refine (bs_entry g HB4.out pr cn).mono ?_
          rintro e w5 ⟨b, ch, rfl, hb5, hbp, hb, hg⟩
          have HE := Lib.hid hb5
          have HB5 := Lib.hid hb
          have hg5 := hg _ HG4.out
          have g1 := hg5.cell 1 rfl
          have g2 := hg5.cell 2 rfl
          have HG5 := Lib.hid hg5
          clear hb5 hb hg hg5 HB4 HG4 g0
          by_cases hr0 : r = 0
          case pos =>
            have x2 : (r == 0) = true := by simpa using hr0
            obtain ⟨i, hi, hpi, hc1, hc2⟩ := mayC_zero (HM.out.trans hr0)
            have HPI := Lib.hid hpi
            have HC := Lib.hid (⟨hc1, hc2⟩ : 1 ≤ cn ∧ cn ≤ 2147483648)
            have HR0 := Lib.hid hr0
            clear hpi hc1 hc2 hr0
            go_wp2_with fail
            refine (bs_add g HB5.out b i hi pr cn HPI.out ch HE.out hbp r HM.out HR0.out).mono ?_
            rintro e w6 ⟨rfl, hb, hg⟩
            have HB6 := Lib.hid hb
            have hg6 := hg _ HG5.out
            have g1 := hg6.cell 1 rfl
            have g2 := hg6.cell 2 rfl
            have HG6 := Lib.hid hg6
            clear hb hg hg6 HB5 HG5 HE hbp
            go_wp2_with fail
            refine (bs_put g HB6.out HR.out i hi pr cn HPI.out HC.out (b, ch)).mono ?_
            rintro e w7 ⟨rfl, L2, hb, hr, hg⟩
            have HB7 := Lib.hid hb
            have HR7 := Lib.hid hr
            have HG7 := Lib.hid (hg _ HG6.out)
            clear hb hr hg HB6 HG6 g1 g2
            go_wp2_with fail
            go_meet
            exact ⟨_, _, L2, HB7.out, HR7.out, HG7.out⟩
          case neg =>
            have x2 : (r == 0) = false := by simpa using hr0
            have HR0 := Lib.hid hr0
            clear hr0
            go_wp2_with fail
            refine (bs_addno g HB5.out b pr cn ch HE.out r HM.out HR0.out).mono ?_
            rintro e w6 ⟨rfl, hb, hg⟩
            have HB6 := Lib.hid hb
            have HG6 := Lib.hid (hg _ HG5.out)
            clear hb hg HB5 HG5 HE hbp g1 g2
            go_wp2_with fail
            go_meet
            exact ⟨es, gr, L, HB6.out, HR.out, HG6.out⟩
        case neg =>
          have x1 : (kd == 1) = false := by simpa using hk1
          clear hk1
          by_cases hk2 : kd = 2
          case neg =>
            have x2 : (kd == 2) = false := by simpa using hk2
            clear hk2 g1 g2
            go_wp2_with fail
            go_meet
            exact ⟨es, gr, L, HB4.out, HR.out, HG4.out⟩
          case pos =>
            have x2 : (kd == 2) = true := by simpa using hk2
            clear hk2
            by_cases hw : ∃ i : Nat, i < 16 ∧ pr = (i : Int) ∧ (es i).isSome = true
            case pos =>
              have HW := Lib.hid hw
              clear hw
              go_wp2_with fail
              refine (bs_is HB4.out HR.out pr true ⟨fun _ => HW.out, fun _ => rfl⟩).mono ?_
              rintro e w' ⟨rfl, rfl⟩
              obtain ⟨t5, ht5⟩ : ∃ y, w4.heap.size = y := ⟨_, rfl⟩
              obtain ⟨wB, hwB⟩ : ∃ y, w4.alloc (.cells #[.int .i64 pr] 3) = y := ⟨_, rfl⟩
              have hrB : Rd wB 1 (.slice (some ⟨t5, 0, none⟩) 1 1) 1 [.int .i64 pr] := by rw [← hwB]; exact Rd.litN _ _ _ _ _ 1 ht5.symm rfl (by decide)
              have hmB : Mod (fun _ => False) w4 wB := by rw [← hwB]; exact Mod.alloc _ _ _
              have HB5 := Lib.hid (HB4.out.later hmB)
              have hg5 := HG4.out.keep hmB (fun e => e)
              have g1 := hg5.cell 1 rfl
              have HG5 := Lib.hid hg5
              have HRB := Lib.hid hrB
              clear hg5 hrB hmB g0
              go_wp2_with fail
              (try rw [hwB])
              (try rw [ht5])
              clear hwB ht5
              obtain ⟨i, hi, hpi, hs⟩ := HW.out
              obtain ⟨⟨b, ch⟩, hes⟩ := Option.isSome_iff_exists.1 hs
              refine (bs_drop1 g HB5.out pr i hi hpi b ch hes _ _ HRB.out).mono ?_
              rintro e w6 ⟨xa, xc, xb, xo, rfl, hpx, hxn, d0, d1, hb, hg⟩
              have hixd := fun wx => run_indexS (P := Try.prog) wx 94 90 iE 1 Try.underlying94 hiE hsE xa 1 xc 0 (by omega) hxn
              rw [hpx] at hixd
              replace hixd : ∀ wx, (Instr.indexAt 94 (.slice xa 1 xc) (.int .i64 0)).run Try.prog wx = .ok (.pointer (some ⟨xb, xo, none⟩)) wx := hixd
              clear hpi hs hes hpx hxn
              have HB6 := Lib.hid hb
              have hg6 := hg _ HG5.out
              have g1 := hg6.cell 1 rfl
              have HG6 := Lib.hid hg6
              clear hb hg hg6 HB5 HG5 HRB
              go_upto_region 27 with fail
              go_quiet (fail)
              obtain ⟨wQ, hwQ⟩ : ∃ y, World.drewN w6 nq = y := ⟨_, rfl⟩
              have hmQ : Mod (fun _ => False) w6 wQ := by rw [← hwQ]; exact Mod.drewN _ _ _
              have HB7 := Lib.hid (HB6.out.later hmQ)
              have hg7 := HG6.out.keep hmQ (fun e => e)
              have g1 := hg7.cell 1 rfl
              have HG7 := Lib.hid hg7
              (try rw [hwQ])
              clear hwQ hmQ hg7 HB6 HG6
              go_wp2_with fail
              refine (bs_out g HB7.out HR.out pr).mono ?_
              rintro e w8 ⟨rfl, hb, hg⟩
              have HB8 := Lib.hid hb
              have HG8 := Lib.hid (hg _ HG7.out)
              clear hb hg HB7 HG7 g1 g2
              go_wp2_with fail
              go_meet
              exact ⟨_, _, _, HB8.out, HR.out.drop pr, HG8.out⟩
            case neg =>
              have HW := Lib.hid hw
              clear hw
              (try have g1 := HG4.out.cell 1 rfl)
              go_wp2_with fail
              refine (bs_is HB4.out HR.out pr false ⟨fun h => (by cases h), fun h => absurd h HW.out⟩).mono ?_
              rintro e w' ⟨rfl, rfl⟩
              obtain ⟨t5, ht5⟩ : ∃ y, w4.heap.size = y := ⟨_, rfl⟩
              obtain ⟨wB, hwB⟩ : ∃ y, w4.alloc (.cells #[.int .i64 pr] 3) = y := ⟨_, rfl⟩
              have hrB : Rd wB 1 (.slice (some ⟨t5, 0, none⟩) 1 1) 1 [.int .i64 pr] := by rw [← hwB]; exact Rd.litN _ _ _ _ _ 1 ht5.symm rfl (by decide)
              have hmB : Mod (fun _ => False) w4 wB := by rw [← hwB]; exact Mod.alloc _ _ _
              have HB5 := Lib.hid (HB4.out.later hmB)
              have hg5 := HG4.out.keep hmB (fun e => e)
              have g1 := hg5.cell 1 rfl
              have HG5 := Lib.hid hg5
              have HRB := Lib.hid hrB
              clear hg5 hrB hmB g0
              go_wp2_with fail
              (try rw [hwB])
              (try rw [ht5])
              clear hwB ht5
              refine (bs_drop0 g HB5.out pr (fun i hi hpi => by cases h : es i with | none => rfl | some y => exact absurd ⟨i, hi, hpi, by rw [h]; rfl⟩ HW.out) _ _ HRB.out).mono ?_
              rintro e w6 ⟨xa, xc, rfl, hb, hg⟩
              have HB6 := Lib.hid hb
              have hg6 := hg _ HG5.out
              have g1 := hg6.cell 1 rfl
              have HG6 := Lib.hid hg6
              clear hb hg hg6 HB5 HG5 HRB
              go_upto_region 27 with fail
              go_quiet (fail)
              obtain ⟨wQ, hwQ⟩ : ∃ y, World.drewN w6 nq = y := ⟨_, rfl⟩
              have hmQ : Mod (fun _ => False) w6 wQ := by rw [← hwQ]; exact Mod.drewN _ _ _
              have HB7 := Lib.hid (HB6.out.later hmQ)
              have hg7 := HG6.out.keep hmQ (fun e => e)
              have g1 := hg7.cell 1 rfl
              have HG7 := Lib.hid hg7
              (try rw [hwQ])
              clear hwQ hmQ hg7 HB6 HG6
              go_wp2_with fail
              refine (bs_out g HB7.out HR.out pr).mono ?_
              rintro e w8 ⟨rfl, hb, hg⟩
              have HB8 := Lib.hid hb
              have HG8 := Lib.hid (hg _ HG7.out)
              clear hb hg HB7 HG7 g1 g2
              go_wp2_with fail
              go_meet
              exact ⟨_, _, _, HB8.out, HR.out.drop pr, HG8.out⟩
      case rest =>
        obtain ⟨es2, gr2, L2, hb, hr, hgb⟩ := hcut
        have HB9 := Lib.hid hb
        have HR9 := Lib.hid hr
        have HG9 := Lib.hid hgb
        have g1 := hgb.cell 1 rfl
        have g2 := hgb.cell 2 rfl
        clear hb hr hgb HB4 HG4 HM HR g0
        obtain ⟨a, n, c, hs⟩ := HB9.out.sv
        have hn : (liveN es2 16).length = n := by rw [← HR9.out.len]; exact hs.len
        have HN := Lib.hid hn
        have hn16 : n ≤ 16 := by rw [← hn]; exact liveN_len es2 16
        have HSV := Lib.hid hs
        clear hs hn
        rcases bs_get HB9.out HR9.out pr cn with hget | hget
        · skip
          obtain ⟨hg1, hg2⟩ := hget
          have HG1 := Lib.hid hg1
          have HG2 := Lib.hid hg2
          clear hg1 hg2
          go_wp2_with fail
          refine HG1.out.mono ?_
          rintro e w' ⟨rfl, rfl⟩
          go_wp2_with fail
          refine HG2.out.mono ?_
          rintro e w' ⟨rfl, rfl⟩
          go_upto_region 32 with fail
          clear HG1 HG2 g1 g2
          have HS : Hid (Ev (Mod (fun _ => False) wc) wc) := Lib.hid (Ev.mod wc)
          replace HS := Lib.hid ((Ev.ts HB9.out.ts).and HS.out)
          replace HS := Lib.hid ((Ev.sv HSV.out).and HS.out)
          replace HS := Lib.hid ((Ev.blk HG9.out).and HS.out)
          have hbg := (HS.out.now).1
          have qg_0 := hbg.cell 0 rfl
          have qg_1 := hbg.cell 1 rfl
          have qg_2 := hbg.cell 2 rfl
          have lg := hbg.lt
          clear hbg
          clear qg_0 qg_1 qg_2 lg
          have HSd := Lib.hid HS.out.drew
          refine wp_region_inv3 (act := ?actta_r32_0) (Mod (fun _ => False)) (fun i => (ta_r32_0_F p q n c a es2).getD i (fun _ _ => True)) (fun i => ta_r32_0_D.getD i []) (by kernel_rfl) (by kernel_rfl) (by kernel_rfl) (by kernel_rfl) (fun _ => Mod.refl _ _)
            (fun _ _ _ h k => h.trans k (fun _ _ e => e) (fun _ _ e => e)) ?hactta_r32_0 (stable_list ?_) ?_ ?_
          case hactta_r32_0 => intro vs; simp only [putAll, Nat.zero_add, Nat.reduceAdd, Act.put, List.setIfInBounds_toArray, List.set_cons_succ, List.set_cons_zero]; exact rfl
          · unfold ta_r32_0_F
            exact stable_cons (stable_val _) <| stable_cons (stable_val _) <| stable_cons (stable_val _) <| stable_cons (stable_val _) <| stable_cons (stable_val _) <| stable_cons (stable_val _) <| stable_cons (stable_val _) <| stable_cons (stable_val _) <| stable_cons (stable_val _) <| stable_cons (stable_val _) <| stable_cons (stable_val _) <| stable_cons (stable_val _) <| stable_cons (stable_val _) <| stable_cons (stable_val _) <| stable_cons (stable_val _) <| stable_cons (stable_val _) <| stable_cons (stable_val _) <| stable_cons (stable_val _) <| stable_cons (stable_val _) <| stable_cons (stable_val _) <| stable_cons (stable_val _) <| stable_cons (stable_val _) <| stable_cons (stable_val _) <| stable_cons (stable_val _) <| stable_cons (stable_val _) <| stable_cons (stable_val _) <| stable_cons (stable_val _) <| stable_cons (stable_val _) <| stable_cons (stable_val _) <| stable_cons (stable_val _) <| stable_cons (stable_val _) <| stable_cons (stable_val _) <| stable_cons (stable_val _) <| stable_cons (stable_val _) <| stable_cons (stable_val _) <| stable_cons (stable_val _) <| stable_cons (stable_val _) <| stable_cons (stable_val _) <| stable_cons (stable_val _) <| stable_cons (AllP.st _ _) <| stable_cons (NumP.st _ _) <| stable_cons (stable_val _) <| stable_cons (NumP.st _ _) <| stable_cons (stable_val _) <| stable_cons (stable_val _) <| stable_cons (stable_val _) <| stable_nil
          · refine opsOkA_cons ?_ ?_
            · intro K vs W hR hD hK
              clear hD
              try dsimp only at hK ⊢
              simp only [Act.put, List.setIfInBounds_toArray, List.set_cons_succ, List.set_cons_zero] at hK
              go_wp2
              exact hK _ _ rfl (Mod.refl _ _)
            refine opsOkA_cons ?_ ?_
            · intro K vs W hR hD hK
              have dq0 : vs 0 = .pointer none := hD 0 (by decide)
              clear hD
              try dsimp only at hK ⊢
              simp only [Act.put, List.setIfInBounds_toArray, List.set_cons_succ, List.set_cons_zero] at hK
              generalize vs 0 = vq0 at hK dq0 ⊢
              subst vq0
              go_wp2
              exact hK _ _ rfl (Mod.refl _ _)
            refine opsOkA_cons ?_ ?_
            · intro K vs W hR hD hK
              clear hD
              try dsimp only at hK ⊢
              simp only [Act.put, List.setIfInBounds_toArray, List.set_cons_succ, List.set_cons_zero] at hK
              go_wp2
              exact hK _ _ rfl (Mod.refl _ _)
            refine opsOkA_cons ?_ ?_
            · intro K vs W hR hD hK
              have dq2 : vs 2 = .pointer none := hD 2 (by decide)
              clear hD
              try dsimp only at hK ⊢
              simp only [Act.put, List.setIfInBounds_toArray, List.set_cons_succ, List.set_cons_zero] at hK
              generalize vs 2 = vq2 at hK dq2 ⊢
              subst vq2
              go_wp2
              exact hK _ _ rfl (Mod.refl _ _)
            refine opsOkA_cons ?_ ?_
            · intro K vs W hR hD hK
              have dq1 : vs 1 = .bool true := hD 1 (by decide)
              have dq3 : vs 3 = .bool true := hD 3 (by decide)
              clear hD
              try dsimp only at hK ⊢
              simp only [Act.put, List.setIfInBounds_toArray, List.set_cons_succ, List.set_cons_zero] at hK
              generalize vs 1 = vq1 at hK dq1 ⊢
              subst vq1
              generalize vs 3 = vq3 at hK dq3 ⊢
              subst vq3
              go_wp2
              exact hK _ _ rfl (Mod.refl _ _)
            refine opsOkA_cons ?_ ?_
            · intro K vs W hR hD hK
              have dq4 : vs 4 = .bool false := hD 4 (by decide)
              clear hD
              try dsimp only at hK ⊢
              simp only [Act.put, List.setIfInBounds_toArray, List.set_cons_succ, List.set_cons_zero] at hK
              generalize vs 4 = vq4 at hK dq4 ⊢
              subst vq4
              go_wp2
              exact hK _ _ rfl (Mod.refl _ _)
            refine opsOkA_cons ?_ ?_
            · intro K vs W hR hD hK
              have dq5 : vs 5 = .bool false := hD 5 (by decide)
              clear hD
              try dsimp only at hK ⊢
              simp only [Act.put, List.setIfInBounds_toArray, List.set_cons_succ, List.set_cons_zero] at hK
              generalize vs 5 = vq5 at hK dq5 ⊢
              subst vq5
              go_wp2
              exact hK _ _ rfl (Mod.refl _ _)
            refine opsOkA_cons ?_ ?_
            · intro K vs W hR hD hK
              have dq5 : vs 5 = .bool false := hD 5 (by decide)
              have dq6 : vs 6 = .pointer none := hD 6 (by decide)
              clear hD
              try dsimp only at hK ⊢
              simp only [Act.put, List.setIfInBounds_toArray, List.set_cons_succ, List.set_cons_zero] at hK
              generalize vs 5 = vq5 at hK dq5 ⊢
              subst vq5
              generalize vs 6 = vq6 at hK dq6 ⊢
              subst vq6
              go_wp2
              exact hK _ _ rfl (Mod.refl _ _)
            refine opsOkA_cons ?_ ?_
            · intro K vs W hR hD hK
              have dq5 : vs 5 = .bool false := hD 5 (by decide)
              have dq7 : vs 7 = .bool false := hD 7 (by decide)
              clear hD
              try dsimp only at hK ⊢
              simp only [Act.put, List.setIfInBounds_toArray, List.set_cons_succ, List.set_cons_zero] at hK
              generalize vs 5 = vq5 at hK dq5 ⊢
              subst vq5
              generalize vs 7 = vq7 at hK dq7 ⊢
              subst vq7
              go_wp2
              exact hK _ _ rfl (Mod.refl _ _)
            refine opsOkA_cons ?_ ?_
            · intro K vs W hR hD hK
              have dq8 : vs 8 = .bool false := hD 8 (by decide)
              clear hD
              try dsimp only at hK ⊢
              simp only [Act.put, List.setIfInBounds_toArray, List.set_cons_succ, List.set_cons_zero] at hK
              generalize vs 8 = vq8 at hK dq8 ⊢
              subst vq8
              go_wp2
              exact hK _ _ rfl (Mod.refl _ _)
            refine opsOkA_cons ?_ ?_
            · intro K vs W hR hD hK
              have dq8 : vs 8 = .bool false := hD 8 (by decide)
              clear hD
              try dsimp only at hK ⊢
              simp only [Act.put, List.setIfInBounds_toArray, List.set_cons_succ, List.set_cons_zero] at hK
              generalize vs 8 = vq8 at hK dq8 ⊢
              subst vq8
              go_wp2
              exact hK _ _ rfl (Mod.refl _ _)
            refine opsOkA_cons ?_ ?_
            · intro K vs W hR hD hK
              have dq8 : vs 8 = .bool false := hD 8 (by decide)
              clear hD
              try dsimp only at hK ⊢
              simp only [Act.put, List.setIfInBounds_toArray, List.set_cons_succ, List.set_cons_zero] at hK
              generalize vs 8 = vq8 at hK dq8 ⊢
              subst vq8
              go_wp2
              exact hK _ _ rfl (Mod.refl _ _)
            refine opsOkA_cons ?_ ?_
            · intro K vs W hR hD hK
              have dq8 : vs 8 = .bool false := hD 8 (by decide)
              clear hD
              try dsimp only at hK ⊢
              simp only [Act.put, List.setIfInBounds_toArray, List.set_cons_succ, List.set_cons_zero] at hK
              generalize vs 8 = vq8 at hK dq8 ⊢
              subst vq8
              go_wp2
              exact hK _ _ rfl (Mod.refl _ _)
            refine opsOkA_cons ?_ ?_
            · intro K vs W hR hD hK
              have dq8 : vs 8 = .bool false := hD 8 (by decide)
              clear hD
              try dsimp only at hK ⊢
              simp only [Act.put, List.setIfInBounds_toArray, List.set_cons_succ, List.set_cons_zero] at hK
              generalize vs 8 = vq8 at hK dq8 ⊢
              subst vq8
              go_wp2
              exact hK _ _ rfl (Mod.refl _ _)
            refine opsOkA_cons ?_ ?_
            · intro K vs W hR hD hK
              have dq8 : vs 8 = .bool false := hD 8 (by decide)
              clear hD
              try dsimp only at hK ⊢
              simp only [Act.put, List.setIfInBounds_toArray, List.set_cons_succ, List.set_cons_zero] at hK
              generalize vs 8 = vq8 at hK dq8 ⊢
              subst vq8
              go_wp2
              exact hK _ _ rfl (Mod.refl _ _)
            refine opsOkA_cons ?_ ?_
            · intro K vs W hR hD hK
              have dq8 : vs 8 = .bool false := hD 8 (by decide)
              clear hD
              try dsimp only at hK ⊢
              simp only [Act.put, List.setIfInBounds_toArray, List.set_cons_succ, List.set_cons_zero] at hK
              generalize vs 8 = vq8 at hK dq8 ⊢
              subst vq8
              go_wp2
              exact hK _ _ rfl (Mod.refl _ _)
            refine opsOkA_cons ?_ ?_
            · intro K vs W hR hD hK
              have dq8 : vs 8 = .bool false := hD 8 (by decide)
              clear hD
              try dsimp only at hK ⊢
              simp only [Act.put, List.setIfInBounds_toArray, List.set_cons_succ, List.set_cons_zero] at hK
              generalize vs 8 = vq8 at hK dq8 ⊢
              subst vq8
              go_wp2
              exact hK _ _ rfl (Mod.refl _ _)
            refine opsOkA_cons ?_ ?_
            · intro K vs W hR hD hK
              have dq16 : vs 16 = undef := hD 16 (by decide)
              clear hD
              try dsimp only at hK ⊢
              simp only [Act.put, List.setIfInBounds_toArray, List.set_cons_succ, List.set_cons_zero] at hK
              generalize vs 16 = vq16 at hK dq16 ⊢
              subst vq16
              go_wp2
              exact hK _ _ rfl (Mod.refl _ _)
            refine opsOkA_cons ?_ ?_
            · intro K vs W hR hD hK
              have dq16 : vs 16 = undef := hD 16 (by decide)
              clear hD
              try dsimp only at hK ⊢
              simp only [Act.put, List.setIfInBounds_toArray, List.set_cons_succ, List.set_cons_zero] at hK
              generalize vs 16 = vq16 at hK dq16 ⊢
              subst vq16
              go_wp2
              exact hK _ _ rfl (Mod.refl _ _)
            refine opsOkA_cons ?_ ?_
            · intro K vs W hR hD hK
              have dq16 : vs 16 = undef := hD 16 (by decide)
              clear hD
              try dsimp only at hK ⊢
              simp only [Act.put, List.setIfInBounds_toArray, List.set_cons_succ, List.set_cons_zero] at hK
              generalize vs 16 = vq16 at hK dq16 ⊢
              subst vq16
              go_wp2
              exact hK _ _ rfl (Mod.refl _ _)
            refine opsOkA_cons ?_ ?_
            · intro K vs W hR hD hK
              have dq16 : vs 16 = undef := hD 16 (by decide)
              clear hD
              try dsimp only at hK ⊢
              simp only [Act.put, List.setIfInBounds_toArray, List.set_cons_succ, List.set_cons_zero] at hK
              generalize vs 16 = vq16 at hK dq16 ⊢
              subst vq16
              go_wp2
              exact hK _ _ rfl (Mod.refl _ _)
            refine opsOkA_cons ?_ ?_
            · intro K vs W hR hD hK
              have dq16 : vs 16 = undef := hD 16 (by decide)
              clear hD
              try dsimp only at hK ⊢
              simp only [Act.put, List.setIfInBounds_toArray, List.set_cons_succ, List.set_cons_zero] at hK
              generalize vs 16 = vq16 at hK dq16 ⊢
              subst vq16
              go_wp2
              exact hK _ _ rfl (Mod.refl _ _)
            refine opsOkA_cons ?_ ?_
            · intro K vs W hR hD hK
              have dq16 : vs 16 = undef := hD 16 (by decide)
              clear hD
              try dsimp only at hK ⊢
              simp only [Act.put, List.setIfInBounds_toArray, List.set_cons_succ, List.set_cons_zero] at hK
              generalize vs 16 = vq16 at hK dq16 ⊢
              subst vq16
              go_wp2
              exact hK _ _ rfl (Mod.refl _ _)
            refine opsOkA_cons ?_ ?_
            · intro K vs W hR hD hK
              have dq16 : vs 16 = undef := hD 16 (by decide)
              clear hD
              try dsimp only at hK ⊢
              simp only [Act.put, List.setIfInBounds_toArray, List.set_cons_succ, List.set_cons_zero] at hK
              generalize vs 16 = vq16 at hK dq16 ⊢
              subst vq16
              go_wp2
              exact hK _ _ rfl (Mod.refl _ _)
            refine opsOkA_cons ?_ ?_
            · intro K vs W hR hD hK
              have dq8 : vs 8 = .bool false := hD 8 (by decide)
              clear hD
              try dsimp only at hK ⊢
              simp only [Act.put, List.setIfInBounds_toArray, List.set_cons_succ, List.set_cons_zero] at hK
              generalize vs 8 = vq8 at hK dq8 ⊢
              subst vq8
              go_wp2
              exact hK _ _ rfl (Mod.refl _ _)
            refine opsOkA_cons ?_ ?_
            · intro K vs W hR hD hK
              have dq5 : vs 5 = .bool false := hD 5 (by decide)
              have dq8 : vs 8 = .bool false := hD 8 (by decide)
              have dq24 : vs 24 = undef := hD 24 (by decide)
              clear hD
              try dsimp only at hK ⊢
              simp only [Act.put, List.setIfInBounds_toArray, List.set_cons_succ, List.set_cons_zero] at hK
              generalize vs 5 = vq5 at hK dq5 ⊢
              subst vq5
              generalize vs 8 = vq8 at hK dq8 ⊢
              subst vq8
              generalize vs 24 = vq24 at hK dq24 ⊢
              subst vq24
              go_wp2
              exact hK _ _ rfl (Mod.refl _ _)
            refine opsOkA_cons ?_ ?_
            · intro K vs W hR hD hK
              have dq5 : vs 5 = .bool false := hD 5 (by decide)
              have dq25 : vs 25 = .bool false := hD 25 (by decide)
              clear hD
              try dsimp only at hK ⊢
              simp only [Act.put, List.setIfInBounds_toArray, List.set_cons_succ, List.set_cons_zero] at hK
              generalize vs 5 = vq5 at hK dq5 ⊢
              subst vq5
              generalize vs 25 = vq25 at hK dq25 ⊢
              subst vq25
              go_wp2
              exact hK _ _ rfl (Mod.refl _ _)
            refine opsOkA_cons ?_ ?_
            · intro K vs W hR hD hK
              have dq26 : vs 26 = .bool false := hD 26 (by decide)
              clear hD
              try dsimp only at hK ⊢
              simp only [Act.put, List.setIfInBounds_toArray, List.set_cons_succ, List.set_cons_zero] at hK
              generalize vs 26 = vq26 at hK dq26 ⊢
              subst vq26
              go_wp2
              exact hK _ _ rfl (Mod.refl _ _)
            refine opsOkA_cons ?_ ?_
            · intro K vs W hR hD hK
              have dq27 : vs 27 = .bool false := hD 27 (by decide)
              clear hD
              try dsimp only at hK ⊢
              simp only [Act.put, List.setIfInBounds_toArray, List.set_cons_succ, List.set_cons_zero] at hK
              generalize vs 27 = vq27 at hK dq27 ⊢
              subst vq27
              go_wp2
              exact hK _ _ rfl (Mod.refl _ _)
            refine opsOkA_cons ?_ ?_
            · intro K vs W hR hD hK
              have dq27 : vs 27 = .bool false := hD 27 (by decide)
              have dq28 : vs 28 = .pointer (some ⟨p, 0, none⟩) := hD 28 (by decide)
              clear hD
              try dsimp only at hK ⊢
              simp only [Act.put, List.setIfInBounds_toArray, List.set_cons_succ, List.set_cons_zero] at hK
              generalize vs 27 = vq27 at hK dq27 ⊢
              subst vq27
              generalize vs 28 = vq28 at hK dq28 ⊢
              subst vq28
              go_wp2_with (go_at_call 42; refine (bs_len ((HSd.out.at (hR)).2.2.1) n HN.out).mono ?_; rintro e' w' ⟨rfl, hm'⟩)
              exact hK _ _ rfl hm'
            refine opsOkA_cons ?_ ?_
            · intro K vs W hR hD hK
              have dq27 : vs 27 = .bool false := hD 27 (by decide)
              clear hD
              try dsimp only at hK ⊢
              simp only [Act.put, List.setIfInBounds_toArray, List.set_cons_succ, List.set_cons_zero] at hK
              generalize vs 27 = vq27 at hK dq27 ⊢
              subst vq27
              go_wp2
              exact hK _ _ rfl (Mod.refl _ _)
            refine opsOkA_cons ?_ ?_
            · intro K vs W hR hD hK
              have dq27 : vs 27 = .bool false := hD 27 (by decide)
              have dq30 : vs 30 = .pointer (some ⟨q, 0, none⟩) := hD 30 (by decide)
              clear hD
              try dsimp only at hK ⊢
              simp only [Act.put, List.setIfInBounds_toArray, List.set_cons_succ, List.set_cons_zero] at hK
              generalize vs 27 = vq27 at hK dq27 ⊢
              subst vq27
              generalize vs 30 = vq30 at hK dq30 ⊢
              subst vq30
              go_wp2
              exact hK _ _ rfl (Mod.refl _ _)
            refine opsOkA_cons ?_ ?_
            · intro K vs W hR hD hK
              have dq27 : vs 27 = .bool false := hD 27 (by decide)
              have dq31 : vs 31 = .pointer (some ⟨q, 0, none⟩) := hD 31 (by decide)
              clear hD
              try dsimp only at hK ⊢
              simp only [Act.put, List.setIfInBounds_toArray, List.set_cons_succ, List.set_cons_zero] at hK
              generalize vs 27 = vq27 at hK dq27 ⊢
              subst vq27
              generalize vs 31 = vq31 at hK dq31 ⊢
              subst vq31
              go_wp2
              exact hK _ _ rfl (Mod.refl _ _)
            refine opsOkA_cons ?_ ?_
            · intro K vs W hR hD hK
              have dq27 : vs 27 = .bool false := hD 27 (by decide)
              have dq32 : vs 32 = .pointer (some ⟨q, 11, none⟩) := hD 32 (by decide)
              clear hD
              try dsimp only at hK ⊢
              simp only [Act.put, List.setIfInBounds_toArray, List.set_cons_succ, List.set_cons_zero] at hK
              generalize vs 27 = vq27 at hK dq27 ⊢
              subst vq27
              generalize vs 32 = vq32 at hK dq32 ⊢
              subst vq32
              have hcr := SV.cellR ((HSd.out.at (hR)).2.1)
              go_wp2
              exact hK _ _ rfl (Mod.refl _ _)
            refine opsOkA_cons ?_ ?_
            · intro K vs W hR hD hK
              have dq27 : vs 27 = .bool false := hD 27 (by decide)
              have dq33 : vs 33 = .slice a n c := hD 33 (by decide)
              clear hD
              try dsimp only at hK ⊢
              simp only [Act.put, List.setIfInBounds_toArray, List.set_cons_succ, List.set_cons_zero] at hK
              generalize vs 27 = vq27 at hK dq27 ⊢
              subst vq27
              generalize vs 33 = vq33 at hK dq33 ⊢
              subst vq33
              go_wp2_with fail
              exact hK _ _ rfl (Mod.refl _ _)
            refine opsOkA_cons ?_ ?_
            · intro K vs W hR hD hK
              have dq27 : vs 27 = .bool false := hD 27 (by decide)
              have dq29 : vs 29 = .int .i64 (n : Int) := hD 29 (by decide)
              have dq34 : vs 34 = .int .i64 (n : Int) := hD 34 (by decide)
              clear hD
              try dsimp only at hK ⊢
              simp only [Act.put, List.setIfInBounds_toArray, List.set_cons_succ, List.set_cons_zero] at hK
              generalize vs 27 = vq27 at hK dq27 ⊢
              subst vq27
              generalize vs 29 = vq29 at hK dq29 ⊢
              subst vq29
              generalize vs 34 = vq34 at hK dq34 ⊢
              subst vq34
              go_wp2
              exact hK _ _ rfl (Mod.refl _ _)
            refine opsOkA_cons ?_ ?_
            · intro K vs W hR hD hK
              have dq27 : vs 27 = .bool false := hD 27 (by decide)
              have dq35 : vs 35 = .bool false := hD 35 (by decide)
              clear hD
              try dsimp only at hK ⊢
              simp only [Act.put, List.setIfInBounds_toArray, List.set_cons_succ, List.set_cons_zero] at hK
              generalize vs 27 = vq27 at hK dq27 ⊢
              subst vq27
              generalize vs 35 = vq35 at hK dq35 ⊢
              subst vq35
              go_wp2
              exact hK _ _ rfl (Mod.refl _ _)
            refine opsOkA_cons ?_ ?_
            · intro K vs W hR hD hK
              have dq36 : vs 36 = .bool false := hD 36 (by decide)
              clear hD
              try dsimp only at hK ⊢
              simp only [Act.put, List.setIfInBounds_toArray, List.set_cons_succ, List.set_cons_zero] at hK
              generalize vs 36 = vq36 at hK dq36 ⊢
              subst vq36
              go_wp2
              exact hK _ _ rfl (Mod.refl _ _)
            refine opsOkA_cons ?_ ?_
            · intro K vs W hR hD hK
              have dq37 : vs 37 = .bool false := hD 37 (by decide)
              clear hD
              try dsimp only at hK ⊢
              simp only [Act.put, List.setIfInBounds_toArray, List.set_cons_succ, List.set_cons_zero] at hK
              generalize vs 37 = vq37 at hK dq37 ⊢
              subst vq37
              go_wp2
              exact hK _ _ rfl (Mod.refl _ _)
            refine opsOkA_cons ?_ ?_
            · intro K vs W hR hD hK
              have dq37 : vs 37 = .bool false := hD 37 (by decide)
              have dq38 : vs 38 = .pointer (some ⟨p, 0, none⟩) := hD 38 (by decide)
              clear hD
              try dsimp only at hK ⊢
              simp only [Act.put, List.setIfInBounds_toArray, List.set_cons_succ, List.set_cons_zero] at hK
              generalize vs 37 = vq37 at hK dq37 ⊢
              subst vq37
              generalize vs 38 = vq38 at hK dq38 ⊢
              subst vq38
              go_wp2_with (go_at_call 45; refine (bs_all ((HSd.out.at (hR)).2.2.1) n HN.out).mono ?_; rintro e' w' ⟨v', rfl, hx', hm'⟩)
              exact hK _ _ hx' hm'
            refine opsOkA_cons ?_ ?_
            · intro K vs W hR hD hK
              have dq37 : vs 37 = .bool false := hD 37 (by decide)
              have dq39 : (AllP es2 n) (vs 39) W := hD 39 (by decide)
              clear hD
              try dsimp only at hK ⊢
              simp only [Act.put, List.setIfInBounds_toArray, List.set_cons_succ, List.set_cons_zero] at hK
              generalize vs 37 = vq37 at hK dq37 ⊢
              subst vq37
              generalize vs 39 = vq39 at hK dq39 ⊢
              obtain ⟨xa39, xc39, rfl, hr39⟩ := dq39
              go_wp2_with (go_at_call 44; refine (bs_peers ((HSd.out.at (hR)).2.2.1) xa39 n xc39 HN.out hr39).mono ?_; rintro e' w' ⟨v', rfl, hx', hm'⟩)
              exact hK _ _ hx' hm'
            refine opsOkA_cons ?_ ?_
            · intro K vs W hR hD hK
              have dq37 : vs 37 = .bool false := hD 37 (by decide)
              clear hD
              try dsimp only at hK ⊢
              simp only [Act.put, List.setIfInBounds_toArray, List.set_cons_succ, List.set_cons_zero] at hK
              generalize vs 37 = vq37 at hK dq37 ⊢
              subst vq37
              go_wp2
              exact hK _ _ rfl (Mod.refl _ _)
            refine opsOkA_cons ?_ ?_
            · intro K vs W hR hD hK
              have dq37 : vs 37 = .bool false := hD 37 (by decide)
              have dq41 : vs 41 = .pointer (some ⟨q, 0, none⟩) := hD 41 (by decide)
              clear hD
              try dsimp only at hK ⊢
              simp only [Act.put, List.setIfInBounds_toArray, List.set_cons_succ, List.set_cons_zero] at hK
              generalize vs 37 = vq37 at hK dq37 ⊢
              subst vq37
              generalize vs 41 = vq41 at hK dq41 ⊢
              subst vq41
              go_wp2_with (go_at_call 46; refine (bs_live ((HSd.out.at (hR)).2.1) HR9.out).mono ?_; rintro e' w' ⟨v', rfl, hx', hm'⟩)
              exact hK _ _ hx' hm'
            refine opsOkA_cons ?_ ?_
            · intro K vs W hR hD hK
              have dq37 : vs 37 = .bool false := hD 37 (by decide)
              have dq40 : (NumP (liveI es2) n) (vs 40) W := hD 40 (by decide)
              have dq42 : (NumP (liveI es2) n) (vs 42) W := hD 42 (by decide)
              clear hD
              try dsimp only at hK ⊢
              simp only [Act.put, List.setIfInBounds_toArray, List.set_cons_succ, List.set_cons_zero] at hK
              generalize vs 37 = vq37 at hK dq37 ⊢
              subst vq37
              generalize vs 40 = vq40 at hK dq40 ⊢
              generalize vs 42 = vq42 at hK dq42 ⊢
              obtain ⟨xa40, xc40, rfl, hr40⟩ := dq40
              obtain ⟨xa42, xc42, rfl, hr42⟩ := dq42
              go_wp2_with (go_at_call 43; refine (ints_same W xa40 n xc40 (liveI es2) (by rw [liveI_len, HN.out]) hr40 xa42 n xc42 (liveI es2) (by rw [liveI_len, HN.out]) hr42 (by omega) true (decide_eq_true rfl)).mono ?_; rintro e' w' ⟨rfl, hm'⟩)
              exact hK _ _ rfl hm'
            refine opsOkA_cons ?_ ?_
            · intro K vs W hR hD hK
              have dq37 : vs 37 = .bool false := hD 37 (by decide)
              have dq43 : vs 43 = .bool true := hD 43 (by decide)
              clear hD
              try dsimp only at hK ⊢
              simp only [Act.put, List.setIfInBounds_toArray, List.set_cons_succ, List.set_cons_zero] at hK
              generalize vs 37 = vq37 at hK dq37 ⊢
              subst vq37
              generalize vs 43 = vq43 at hK dq43 ⊢
              subst vq43
              go_wp2
              exact hK _ _ rfl (Mod.refl _ _)
            refine opsOkA_cons ?_ ?_
            · intro K vs W hR hD hK
              have dq37 : vs 37 = .bool false := hD 37 (by decide)
              have dq44 : vs 44 = .bool false := hD 44 (by decide)
              clear hD
              try dsimp only at hK ⊢
              simp only [Act.put, List.setIfInBounds_toArray, List.set_cons_succ, List.set_cons_zero] at hK
              generalize vs 37 = vq37 at hK dq37 ⊢
              subst vq37
              generalize vs 44 = vq44 at hK dq44 ⊢
              subst vq44
              go_wp2
              exact hK _ _ rfl (Mod.refl _ _)
            exact opsOkA_nil
          · intro vs wq1 hR hF
            have dq45 : vs 45 = .bool false := hF 45 (by decide)
            clear hF
            try dsimp only
            generalize vs 45 = vq45 at dq45 ⊢
            subst dq45
            replace HS := Lib.hid (HSd.out.step hR)
            clear HSd hR
            have hbg := (HS.out.now).1
            have qg_0 := hbg.cell 0 rfl
            have qg_1 := hbg.cell 1 rfl
            have qg_2 := hbg.cell 2 rfl
            have lg := hbg.lt
            clear hbg
            go_wp2_with fail
            go_roundw
            case rel => exact ⟨k + 1, es2, gr2, L2, hlt, by go_num, HB9.out.later (HS.out.now).2.2.2, HR9.out⟩
            case measure => simp [intOf]; omega
        · skip
          obtain ⟨b, eb, hg1, hg2, b0, b1⟩ := hget
          have HB0c := Lib.hid b0
          have HB1c := Lib.hid b1
          clear b0 b1
          have HG1 := Lib.hid hg1
          have HG2 := Lib.hid hg2
          clear hg1 hg2
          go_wp2_with fail
          refine HG1.out.mono ?_
          rintro e w' ⟨rfl, rfl⟩
          go_wp2_with fail
          refine HG2.out.mono ?_
          rintro e w' ⟨rfl, rfl⟩
          go_upto_region 32 with fail
          clear HG1 HG2 g1 g2
          have HS : Hid (Ev (Mod (fun _ => False) wc) wc) := Lib.hid (Ev.mod wc)
          replace HS := Lib.hid ((Ev.ts HB9.out.ts).and HS.out)
          replace HS := Lib.hid ((Ev.sv HSV.out).and HS.out)
          replace HS := Lib.hid ((Ev.blk HG9.out).and HS.out)
          replace HS := Lib.hid ((Ev.cell HB0c.out).and HS.out)
          replace HS := Lib.hid ((Ev.cell HB1c.out).and HS.out)
          have hbg := (HS.out.now).2.2.1
          have qg_0 := hbg.cell 0 rfl
          have qg_1 := hbg.cell 1 rfl
          have qg_2 := hbg.cell 2 rfl
          have lg := hbg.lt
          clear hbg
          clear qg_0 qg_1 qg_2 lg
          have HSd := Lib.hid HS.out.drew
          refine wp_region_inv3 (act := ?actta_r32_1) (Mod (fun _ => False)) (fun i => (ta_r32_1_F p q g n c b eb a es2 pr cn).getD i (fun _ _ => True)) (fun i => ta_r32_1_D.getD i []) (by kernel_rfl) (by kernel_rfl) (by kernel_rfl) (by kernel_rfl) (fun _ => Mod.refl _ _)
            (fun _ _ _ h k => h.trans k (fun _ _ e => e) (fun _ _ e => e)) ?hactta_r32_1 (stable_list ?_) ?_ ?_
          case hactta_r32_1 => intro vs; simp only [putAll, Nat.zero_add, Nat.reduceAdd, Act.put, List.setIfInBounds_toArray, List.set_cons_succ, List.set_cons_zero]; exact rfl
          · unfold ta_r32_1_F
            exact stable_cons (stable_val _) <| stable_cons (stable_val _) <| stable_cons (stable_val _) <| stable_cons (stable_val _) <| stable_cons (stable_val _) <| stable_cons (stable_val _) <| stable_cons (stable_val _) <| stable_cons (stable_val _) <| stable_cons (stable_val _) <| stable_cons (stable_val _) <| stable_cons (stable_val _) <| stable_cons (stable_val _) <| stable_cons (stable_val _) <| stable_cons (stable_val _) <| stable_cons (stable_val _) <| stable_cons (stable_val _) <| stable_cons (stable_val _) <| stable_cons (stable_val _) <| stable_cons (stable_val _) <| stable_cons (stable_val _) <| stable_cons (stable_val _) <| stable_cons (stable_val _) <| stable_cons (stable_val _) <| stable_cons (stable_val _) <| stable_cons (stable_val _) <| stable_cons (stable_val _) <| stable_cons (stable_val _) <| stable_cons (stable_val _) <| stable_cons (stable_val _) <| stable_cons (stable_val _) <| stable_cons (stable_val _) <| stable_cons (stable_val _) <| stable_cons (stable_val _) <| stable_cons (stable_val _) <| stable_cons (stable_val _) <| stable_cons (stable_val _) <| stable_cons (stable_val _) <| stable_cons (stable_val _) <| stable_cons (stable_val _) <| stable_cons (AllP.st _ _) <| stable_cons (NumP.st _ _) <| stable_cons (stable_val _) <| stable_cons (NumP.st _ _) <| stable_cons (stable_val _) <| stable_cons (stable_val _) <| stable_cons (stable_val _) <| stable_nil
          · refine opsOkA_cons ?_ ?_
            · intro K vs W hR hD hK
              clear hD
              try dsimp only at hK ⊢
              simp only [Act.put, List.setIfInBounds_toArray, List.set_cons_succ, List.set_cons_zero] at hK
              go_wp2
              exact hK _ _ rfl (Mod.refl _ _)
            refine opsOkA_cons ?_ ?_
            · intro K vs W hR hD hK
              have dq0 : vs 0 = .pointer (some ⟨b, 0, none⟩) := hD 0 (by decide)
              clear hD
              try dsimp only at hK ⊢
              simp only [Act.put, List.setIfInBounds_toArray, List.set_cons_succ, List.set_cons_zero] at hK
              generalize vs 0 = vq0 at hK dq0 ⊢
              subst vq0
              go_wp2
              exact hK _ _ rfl (Mod.refl _ _)
            refine opsOkA_cons ?_ ?_
            · intro K vs W hR hD hK
              clear hD
              try dsimp only at hK ⊢
              simp only [Act.put, List.setIfInBounds_toArray, List.set_cons_succ, List.set_cons_zero] at hK
              go_wp2
              exact hK _ _ rfl (Mod.refl _ _)
            refine opsOkA_cons ?_ ?_
            · intro K vs W hR hD hK
              have dq2 : vs 2 = .pointer (some ⟨eb, 0, none⟩) := hD 2 (by decide)
              clear hD
              try dsimp only at hK ⊢
              simp only [Act.put, List.setIfInBounds_toArray, List.set_cons_succ, List.set_cons_zero] at hK
              generalize vs 2 = vq2 at hK dq2 ⊢
              subst vq2
              go_wp2
              exact hK _ _ rfl (Mod.refl _ _)
            refine opsOkA_cons ?_ ?_
            · intro K vs W hR hD hK
              have dq1 : vs 1 = .bool false := hD 1 (by decide)
              have dq3 : vs 3 = .bool false := hD 3 (by decide)
              clear hD
              try dsimp only at hK ⊢
              simp only [Act.put, List.setIfInBounds_toArray, List.set_cons_succ, List.set_cons_zero] at hK
              generalize vs 1 = vq1 at hK dq1 ⊢
              subst vq1
              generalize vs 3 = vq3 at hK dq3 ⊢
              subst vq3
              go_wp2
              exact hK _ _ rfl (Mod.refl _ _)
            refine opsOkA_cons ?_ ?_
            · intro K vs W hR hD hK
              have dq4 : vs 4 = .bool false := hD 4 (by decide)
              clear hD
              try dsimp only at hK ⊢
              simp only [Act.put, List.setIfInBounds_toArray, List.set_cons_succ, List.set_cons_zero] at hK
              generalize vs 4 = vq4 at hK dq4 ⊢
              subst vq4
              go_wp2
              exact hK _ _ rfl (Mod.refl _ _)
            refine opsOkA_cons ?_ ?_
            · intro K vs W hR hD hK
              have dq5 : vs 5 = .bool false := hD 5 (by decide)
              clear hD
              try dsimp only at hK ⊢
              simp only [Act.put, List.setIfInBounds_toArray, List.set_cons_succ, List.set_cons_zero] at hK
              generalize vs 5 = vq5 at hK dq5 ⊢
              subst vq5
              go_wp2
              exact hK _ _ rfl (Mod.refl _ _)
            refine opsOkA_cons ?_ ?_
            · intro K vs W hR hD hK
              have dq5 : vs 5 = .bool false := hD 5 (by decide)
              have dq6 : vs 6 = .pointer (some ⟨b, 0, none⟩) := hD 6 (by decide)
              clear hD
              try dsimp only at hK ⊢
              simp only [Act.put, List.setIfInBounds_toArray, List.set_cons_succ, List.set_cons_zero] at hK
              generalize vs 5 = vq5 at hK dq5 ⊢
              subst vq5
              generalize vs 6 = vq6 at hK dq6 ⊢
              subst vq6
              go_wp2
              exact hK _ _ rfl (Mod.refl _ _)
            refine opsOkA_cons ?_ ?_
            · intro K vs W hR hD hK
              have dq5 : vs 5 = .bool false := hD 5 (by decide)
              have dq7 : vs 7 = .bool true := hD 7 (by decide)
              clear hD
              try dsimp only at hK ⊢
              simp only [Act.put, List.setIfInBounds_toArray, List.set_cons_succ, List.set_cons_zero] at hK
              generalize vs 5 = vq5 at hK dq5 ⊢
              subst vq5
              generalize vs 7 = vq7 at hK dq7 ⊢
              subst vq7
              go_wp2
              exact hK _ _ rfl (Mod.refl _ _)
            refine opsOkA_cons ?_ ?_
            · intro K vs W hR hD hK
              have dq8 : vs 8 = .bool true := hD 8 (by decide)
              clear hD
              try dsimp only at hK ⊢
              simp only [Act.put, List.setIfInBounds_toArray, List.set_cons_succ, List.set_cons_zero] at hK
              generalize vs 8 = vq8 at hK dq8 ⊢
              subst vq8
              go_wp2
              exact hK _ _ rfl (Mod.refl _ _)
            refine opsOkA_cons ?_ ?_
            · intro K vs W hR hD hK
              have dq8 : vs 8 = .bool true := hD 8 (by decide)
              have dq9 : vs 9 = .pointer (some ⟨b, 0, none⟩) := hD 9 (by decide)
              clear hD
              try dsimp only at hK ⊢
              simp only [Act.put, List.setIfInBounds_toArray, List.set_cons_succ, List.set_cons_zero] at hK
              generalize vs 8 = vq8 at hK dq8 ⊢
              subst vq8
              generalize vs 9 = vq9 at hK dq9 ⊢
              subst vq9
              go_wp2
              exact hK _ _ rfl (Mod.refl _ _)
            refine opsOkA_cons ?_ ?_
            · intro K vs W hR hD hK
              have dq8 : vs 8 = .bool true := hD 8 (by decide)
              have dq10 : vs 10 = .pointer (some ⟨b, 0, none⟩) := hD 10 (by decide)
              clear hD
              try dsimp only at hK ⊢
              simp only [Act.put, List.setIfInBounds_toArray, List.set_cons_succ, List.set_cons_zero] at hK
              generalize vs 8 = vq8 at hK dq8 ⊢
              subst vq8
              generalize vs 10 = vq10 at hK dq10 ⊢
              subst vq10
              go_wp2
              exact hK _ _ rfl (Mod.refl _ _)
            refine opsOkA_cons ?_ ?_
            · intro K vs W hR hD hK
              have dq8 : vs 8 = .bool true := hD 8 (by decide)
              have dq11 : vs 11 = .pointer (some ⟨b, 1, none⟩) := hD 11 (by decide)
              clear hD
              try dsimp only at hK ⊢
              simp only [Act.put, List.setIfInBounds_toArray, List.set_cons_succ, List.set_cons_zero] at hK
              generalize vs 8 = vq8 at hK dq8 ⊢
              subst vq8
              generalize vs 11 = vq11 at hK dq11 ⊢
              subst vq11
              have hc := (HSd.out.at (hR)).1
              go_wp2
              exact hK _ _ rfl (Mod.refl _ _)
            refine opsOkA_cons ?_ ?_
            · intro K vs W hR hD hK
              have dq8 : vs 8 = .bool true := hD 8 (by decide)
              clear hD
              try dsimp only at hK ⊢
              simp only [Act.put, List.setIfInBounds_toArray, List.set_cons_succ, List.set_cons_zero] at hK
              generalize vs 8 = vq8 at hK dq8 ⊢
              subst vq8
              go_wp2
              exact hK _ _ rfl (Mod.refl _ _)
            refine opsOkA_cons ?_ ?_
            · intro K vs W hR hD hK
              have dq8 : vs 8 = .bool true := hD 8 (by decide)
              have dq13 : vs 13 = .pointer (some ⟨g, 2, none⟩) := hD 13 (by decide)
              clear hD
              try dsimp only at hK ⊢
              simp only [Act.put, List.setIfInBounds_toArray, List.set_cons_succ, List.set_cons_zero] at hK
              generalize vs 8 = vq8 at hK dq8 ⊢
              subst vq8
              generalize vs 13 = vq13 at hK dq13 ⊢
              subst vq13
              have q0 := ((HSd.out.at (hR)).2.2.1).cell 2 rfl
              go_wp2
              exact hK _ _ rfl (Mod.refl _ _)
            refine opsOkA_cons ?_ ?_
            · intro K vs W hR hD hK
              have dq8 : vs 8 = .bool true := hD 8 (by decide)
              have dq12 : vs 12 = .int .i64 cn := hD 12 (by decide)
              have dq14 : vs 14 = .int .i64 cn := hD 14 (by decide)
              clear hD
              try dsimp only at hK ⊢
              simp only [Act.put, List.setIfInBounds_toArray, List.set_cons_succ, List.set_cons_zero] at hK
              generalize vs 8 = vq8 at hK dq8 ⊢
              subst vq8
              generalize vs 12 = vq12 at hK dq12 ⊢
              subst vq12
              generalize vs 14 = vq14 at hK dq14 ⊢
              subst vq14
              go_wp2
              exact hK _ _ rfl (Mod.refl _ _)
            refine opsOkA_cons ?_ ?_
            · intro K vs W hR hD hK
              have dq8 : vs 8 = .bool true := hD 8 (by decide)
              have dq15 : vs 15 = .bool false := hD 15 (by decide)
              clear hD
              try dsimp only at hK ⊢
              simp only [Act.put, List.setIfInBounds_toArray, List.set_cons_succ, List.set_cons_zero] at hK
              generalize vs 8 = vq8 at hK dq8 ⊢
              subst vq8
              generalize vs 15 = vq15 at hK dq15 ⊢
              subst vq15
              go_wp2
              exact hK _ _ rfl (Mod.refl _ _)
            refine opsOkA_cons ?_ ?_
            · intro K vs W hR hD hK
              have dq16 : vs 16 = .bool false := hD 16 (by decide)
              clear hD
              try dsimp only at hK ⊢
              simp only [Act.put, List.setIfInBounds_toArray, List.set_cons_succ, List.set_cons_zero] at hK
              generalize vs 16 = vq16 at hK dq16 ⊢
              subst vq16
              go_wp2
              exact hK _ _ rfl (Mod.refl _ _)
            refine opsOkA_cons ?_ ?_
            · intro K vs W hR hD hK
              have dq16 : vs 16 = .bool false := hD 16 (by decide)
              have dq17 : vs 17 = .pointer (some ⟨b, 0, none⟩) := hD 17 (by decide)
              clear hD
              try dsimp only at hK ⊢
              simp only [Act.put, List.setIfInBounds_toArray, List.set_cons_succ, List.set_cons_zero] at hK
              generalize vs 16 = vq16 at hK dq16 ⊢
              subst vq16
              generalize vs 17 = vq17 at hK dq17 ⊢
              subst vq17
              go_wp2
              exact hK _ _ rfl (Mod.refl _ _)
            refine opsOkA_cons ?_ ?_
            · intro K vs W hR hD hK
              have dq16 : vs 16 = .bool false := hD 16 (by decide)
              have dq18 : vs 18 = .pointer (some ⟨b, 0, none⟩) := hD 18 (by decide)
              clear hD
              try dsimp only at hK ⊢
              simp only [Act.put, List.setIfInBounds_toArray, List.set_cons_succ, List.set_cons_zero] at hK
              generalize vs 16 = vq16 at hK dq16 ⊢
              subst vq16
              generalize vs 18 = vq18 at hK dq18 ⊢
              subst vq18
              go_wp2
              exact hK _ _ rfl (Mod.refl _ _)
            refine opsOkA_cons ?_ ?_
            · intro K vs W hR hD hK
              have dq16 : vs 16 = .bool false := hD 16 (by decide)
              have dq19 : vs 19 = .pointer (some ⟨b, 0, none⟩) := hD 19 (by decide)
              clear hD
              try dsimp only at hK ⊢
              simp only [Act.put, List.setIfInBounds_toArray, List.set_cons_succ, List.set_cons_zero] at hK
              generalize vs 16 = vq16 at hK dq16 ⊢
              subst vq16
              generalize vs 19 = vq19 at hK dq19 ⊢
              subst vq19
              have hc := (HSd.out.at (hR)).2.1
              go_wp2
              exact hK _ _ rfl (Mod.refl _ _)
            refine opsOkA_cons ?_ ?_
            · intro K vs W hR hD hK
              have dq16 : vs 16 = .bool false := hD 16 (by decide)
              clear hD
              try dsimp only at hK ⊢
              simp only [Act.put, List.setIfInBounds_toArray, List.set_cons_succ, List.set_cons_zero] at hK
              generalize vs 16 = vq16 at hK dq16 ⊢
              subst vq16
              go_wp2
              exact hK _ _ rfl (Mod.refl _ _)
            refine opsOkA_cons ?_ ?_
            · intro K vs W hR hD hK
              have dq16 : vs 16 = .bool false := hD 16 (by decide)
              have dq21 : vs 21 = .pointer (some ⟨g, 1, none⟩) := hD 21 (by decide)
              clear hD
              try dsimp only at hK ⊢
              simp only [Act.put, List.setIfInBounds_toArray, List.set_cons_succ, List.set_cons_zero] at hK
              generalize vs 16 = vq16 at hK dq16 ⊢
              subst vq16
              generalize vs 21 = vq21 at hK dq21 ⊢
              subst vq21
              have q0 := ((HSd.out.at (hR)).2.2.1).cell 1 rfl
              go_wp2
              exact hK _ _ rfl (Mod.refl _ _)
            refine opsOkA_cons ?_ ?_
            · intro K vs W hR hD hK
              have dq16 : vs 16 = .bool false := hD 16 (by decide)
              have dq20 : vs 20 = .int .i64 pr := hD 20 (by decide)
              have dq22 : vs 22 = .int .i64 pr := hD 22 (by decide)
              clear hD
              try dsimp only at hK ⊢
              simp only [Act.put, List.setIfInBounds_toArray, List.set_cons_succ, List.set_cons_zero] at hK
              generalize vs 16 = vq16 at hK dq16 ⊢
              subst vq16
              generalize vs 20 = vq20 at hK dq20 ⊢
              subst vq20
              generalize vs 22 = vq22 at hK dq22 ⊢
              subst vq22
              go_wp2
              exact hK _ _ rfl (Mod.refl _ _)
            refine opsOkA_cons ?_ ?_
            · intro K vs W hR hD hK
              have dq8 : vs 8 = .bool true := hD 8 (by decide)
              have dq16 : vs 16 = .bool false := hD 16 (by decide)
              have dq23 : vs 23 = .bool false := hD 23 (by decide)
              clear hD
              try dsimp only at hK ⊢
              simp only [Act.put, List.setIfInBounds_toArray, List.set_cons_succ, List.set_cons_zero] at hK
              generalize vs 8 = vq8 at hK dq8 ⊢
              subst vq8
              generalize vs 16 = vq16 at hK dq16 ⊢
              subst vq16
              generalize vs 23 = vq23 at hK dq23 ⊢
              subst vq23
              go_wp2
              exact hK _ _ rfl (Mod.refl _ _)
            refine opsOkA_cons ?_ ?_
            · intro K vs W hR hD hK
              have dq5 : vs 5 = .bool false := hD 5 (by decide)
              have dq8 : vs 8 = .bool true := hD 8 (by decide)
              have dq24 : vs 24 = .bool false := hD 24 (by decide)
              clear hD
              try dsimp only at hK ⊢
              simp only [Act.put, List.setIfInBounds_toArray, List.set_cons_succ, List.set_cons_zero] at hK
              generalize vs 5 = vq5 at hK dq5 ⊢
              subst vq5
              generalize vs 8 = vq8 at hK dq8 ⊢
              subst vq8
              generalize vs 24 = vq24 at hK dq24 ⊢
              subst vq24
              go_wp2
              exact hK _ _ rfl (Mod.refl _ _)
            refine opsOkA_cons ?_ ?_
            · intro K vs W hR hD hK
              have dq5 : vs 5 = .bool false := hD 5 (by decide)
              have dq25 : vs 25 = .bool false := hD 25 (by decide)
              clear hD
              try dsimp only at hK ⊢
              simp only [Act.put, List.setIfInBounds_toArray, List.set_cons_succ, List.set_cons_zero] at hK
              generalize vs 5 = vq5 at hK dq5 ⊢
              subst vq5
              generalize vs 25 = vq25 at hK dq25 ⊢
              subst vq25
              go_wp2
              exact hK _ _ rfl (Mod.refl _ _)
            refine opsOkA_cons ?_ ?_
            · intro K vs W hR hD hK
              have dq26 : vs 26 = .bool false := hD 26 (by decide)
              clear hD
              try dsimp only at hK ⊢
              simp only [Act.put, List.setIfInBounds_toArray, List.set_cons_succ, List.set_cons_zero] at hK
              generalize vs 26 = vq26 at hK dq26 ⊢
              subst vq26
              go_wp2
              exact hK _ _ rfl (Mod.refl _ _)
            refine opsOkA_cons ?_ ?_
            · intro K vs W hR hD hK
              have dq27 : vs 27 = .bool false := hD 27 (by decide)
              clear hD
              try dsimp only at hK ⊢
              simp only [Act.put, List.setIfInBounds_toArray, List.set_cons_succ, List.set_cons_zero] at hK
              generalize vs 27 = vq27 at hK dq27 ⊢
              subst vq27
              go_wp2
              exact hK _ _ rfl (Mod.refl _ _)
            refine opsOkA_cons ?_ ?_
            · intro K vs W hR hD hK
              have dq27 : vs 27 = .bool false := hD 27 (by decide)
              have dq28 : vs 28 = .pointer (some ⟨p, 0, none⟩) := hD 28 (by decide)
              clear hD
              try dsimp only at hK ⊢
              simp only [Act.put, List.setIfInBounds_toArray, List.set_cons_succ, List.set_cons_zero] at hK
              generalize vs 27 = vq27 at hK dq27 ⊢
              subst vq27
              generalize vs 28 = vq28 at hK dq28 ⊢
              subst vq28
              go_wp2_with (go_at_call 42; refine (bs_len ((HSd.out.at (hR)).2.2.2.2.1) n HN.out).mono ?_; rintro e' w' ⟨rfl, hm'⟩)
              exact hK _ _ rfl hm'
            refine opsOkA_cons ?_ ?_
            · intro K vs W hR hD hK
              have dq27 : vs 27 = .bool false := hD 27 (by decide)
              clear hD
              try dsimp only at hK ⊢
              simp only [Act.put, List.setIfInBounds_toArray, List.set_cons_succ, List.set_cons_zero] at hK
              generalize vs 27 = vq27 at hK dq27 ⊢
              subst vq27
              go_wp2
              exact hK _ _ rfl (Mod.refl _ _)
            refine opsOkA_cons ?_ ?_
            · intro K vs W hR hD hK
              have dq27 : vs 27 = .bool false := hD 27 (by decide)
              have dq30 : vs 30 = .pointer (some ⟨q, 0, none⟩) := hD 30 (by decide)
              clear hD
              try dsimp only at hK ⊢
              simp only [Act.put, List.setIfInBounds_toArray, List.set_cons_succ, List.set_cons_zero] at hK
              generalize vs 27 = vq27 at hK dq27 ⊢
              subst vq27
              generalize vs 30 = vq30 at hK dq30 ⊢
              subst vq30
              go_wp2
              exact hK _ _ rfl (Mod.refl _ _)
            refine opsOkA_cons ?_ ?_
            · intro K vs W hR hD hK
              have dq27 : vs 27 = .bool false := hD 27 (by decide)
              have dq31 : vs 31 = .pointer (some ⟨q, 0, none⟩) := hD 31 (by decide)
              clear hD
              try dsimp only at hK ⊢
              simp only [Act.put, List.setIfInBounds_toArray, List.set_cons_succ, List.set_cons_zero] at hK
              generalize vs 27 = vq27 at hK dq27 ⊢
              subst vq27
              generalize vs 31 = vq31 at hK dq31 ⊢
              subst vq31
              go_wp2
              exact hK _ _ rfl (Mod.refl _ _)
            refine opsOkA_cons ?_ ?_
            · intro K vs W hR hD hK
              have dq27 : vs 27 = .bool false := hD 27 (by decide)
              have dq32 : vs 32 = .pointer (some ⟨q, 11, none⟩) := hD 32 (by decide)
              clear hD
              try dsimp only at hK ⊢
              simp only [Act.put, List.setIfInBounds_toArray, List.set_cons_succ, List.set_cons_zero] at hK
              generalize vs 27 = vq27 at hK dq27 ⊢
              subst vq27
              generalize vs 32 = vq32 at hK dq32 ⊢
              subst vq32
              have hcr := SV.cellR ((HSd.out.at (hR)).2.2.2.1)
              go_wp2
              exact hK _ _ rfl (Mod.refl _ _)
            refine opsOkA_cons ?_ ?_
            · intro K vs W hR hD hK
              have dq27 : vs 27 = .bool false := hD 27 (by decide)
              have dq33 : vs 33 = .slice a n c := hD 33 (by decide)
              clear hD
              try dsimp only at hK ⊢
              simp only [Act.put, List.setIfInBounds_toArray, List.set_cons_succ, List.set_cons_zero] at hK
              generalize vs 27 = vq27 at hK dq27 ⊢
              subst vq27
              generalize vs 33 = vq33 at hK dq33 ⊢
              subst vq33
              go_wp2_with fail
              exact hK _ _ rfl (Mod.refl _ _)
            refine opsOkA_cons ?_ ?_
            · intro K vs W hR hD hK
              have dq27 : vs 27 = .bool false := hD 27 (by decide)
              have dq29 : vs 29 = .int .i64 (n : Int) := hD 29 (by decide)
              have dq34 : vs 34 = .int .i64 (n : Int) := hD 34 (by decide)
              clear hD
              try dsimp only at hK ⊢
              simp only [Act.put, List.setIfInBounds_toArray, List.set_cons_succ, List.set_cons_zero] at hK
              generalize vs 27 = vq27 at hK dq27 ⊢
              subst vq27
              generalize vs 29 = vq29 at hK dq29 ⊢
              subst vq29
              generalize vs 34 = vq34 at hK dq34 ⊢
              subst vq34
              go_wp2
              exact hK _ _ rfl (Mod.refl _ _)
            refine opsOkA_cons ?_ ?_
            · intro K vs W hR hD hK
              have dq27 : vs 27 = .bool false := hD 27 (by decide)
              have dq35 : vs 35 = .bool false := hD 35 (by decide)
              clear hD
              try dsimp only at hK ⊢
              simp only [Act.put, List.setIfInBounds_toArray, List.set_cons_succ, List.set_cons_zero] at hK
              generalize vs 27 = vq27 at hK dq27 ⊢
              subst vq27
              generalize vs 35 = vq35 at hK dq35 ⊢
              subst vq35
              go_wp2
              exact hK _ _ rfl (Mod.refl _ _)
            refine opsOkA_cons ?_ ?_
            · intro K vs W hR hD hK
              have dq36 : vs 36 = .bool false := hD 36 (by decide)
              clear hD
              try dsimp only at hK ⊢
              simp only [Act.put, List.setIfInBounds_toArray, List.set_cons_succ, List.set_cons_zero] at hK
              generalize vs 36 = vq36 at hK dq36 ⊢
              subst vq36
              go_wp2
              exact hK _ _ rfl (Mod.refl _ _)
            refine opsOkA_cons ?_ ?_
            · intro K vs W hR hD hK
              have dq37 : vs 37 = .bool false := hD 37 (by decide)
              clear hD
              try dsimp only at hK ⊢
              simp only [Act.put, List.setIfInBounds_toArray, List.set_cons_succ, List.set_cons_zero] at hK
              generalize vs 37 = vq37 at hK dq37 ⊢
              subst vq37
              go_wp2
              exact hK _ _ rfl (Mod.refl _ _)
            refine opsOkA_cons ?_ ?_
            · intro K vs W hR hD hK
              have dq37 : vs 37 = .bool false := hD 37 (by decide)
              have dq38 : vs 38 = .pointer (some ⟨p, 0, none⟩) := hD 38 (by decide)
              clear hD
              try dsimp only at hK ⊢
              simp only [Act.put, List.setIfInBounds_toArray, List.set_cons_succ, List.set_cons_zero] at hK
              generalize vs 37 = vq37 at hK dq37 ⊢
              subst vq37
              generalize vs 38 = vq38 at hK dq38 ⊢
              subst vq38
              go_wp2_with (go_at_call 45; refine (bs_all ((HSd.out.at (hR)).2.2.2.2.1) n HN.out).mono ?_; rintro e' w' ⟨v', rfl, hx', hm'⟩)
              exact hK _ _ hx' hm'
            refine opsOkA_cons ?_ ?_
            · intro K vs W hR hD hK
              have dq37 : vs 37 = .bool false := hD 37 (by decide)
              have dq39 : (AllP es2 n) (vs 39) W := hD 39 (by decide)
              clear hD
              try dsimp only at hK ⊢
              simp only [Act.put, List.setIfInBounds_toArray, List.set_cons_succ, List.set_cons_zero] at hK
              generalize vs 37 = vq37 at hK dq37 ⊢
              subst vq37
              generalize vs 39 = vq39 at hK dq39 ⊢
              obtain ⟨xa39, xc39, rfl, hr39⟩ := dq39
              go_wp2_with (go_at_call 44; refine (bs_peers ((HSd.out.at (hR)).2.2.2.2.1) xa39 n xc39 HN.out hr39).mono ?_; rintro e' w' ⟨v', rfl, hx', hm'⟩)
              exact hK _ _ hx' hm'
            refine opsOkA_cons ?_ ?_
            · intro K vs W hR hD hK
              have dq37 : vs 37 = .bool false := hD 37 (by decide)
              clear hD
              try dsimp only at hK ⊢
              simp only [Act.put, List.setIfInBounds_toArray, List.set_cons_succ, List.set_cons_zero] at hK
              generalize vs 37 = vq37 at hK dq37 ⊢
              subst vq37
              go_wp2
              exact hK _ _ rfl (Mod.refl _ _)
            refine opsOkA_cons ?_ ?_
            · intro K vs W hR hD hK
              have dq37 : vs 37 = .bool false := hD 37 (by decide)
              have dq41 : vs 41 = .pointer (some ⟨q, 0, none⟩) := hD 41 (by decide)
              clear hD
              try dsimp only at hK ⊢
              simp only [Act.put, List.setIfInBounds_toArray, List.set_cons_succ, List.set_cons_zero] at hK
              generalize vs 37 = vq37 at hK dq37 ⊢
              subst vq37
              generalize vs 41 = vq41 at hK dq41 ⊢
              subst vq41
              go_wp2_with (go_at_call 46; refine (bs_live ((HSd.out.at (hR)).2.2.2.1) HR9.out).mono ?_; rintro e' w' ⟨v', rfl, hx', hm'⟩)
              exact hK _ _ hx' hm'
            refine opsOkA_cons ?_ ?_
            · intro K vs W hR hD hK
              have dq37 : vs 37 = .bool false := hD 37 (by decide)
              have dq40 : (NumP (liveI es2) n) (vs 40) W := hD 40 (by decide)
              have dq42 : (NumP (liveI es2) n) (vs 42) W := hD 42 (by decide)
              clear hD
              try dsimp only at hK ⊢
              simp only [Act.put, List.setIfInBounds_toArray, List.set_cons_succ, List.set_cons_zero] at hK
              generalize vs 37 = vq37 at hK dq37 ⊢
              subst vq37
              generalize vs 40 = vq40 at hK dq40 ⊢
              generalize vs 42 = vq42 at hK dq42 ⊢
              obtain ⟨xa40, xc40, rfl, hr40⟩ := dq40
              obtain ⟨xa42, xc42, rfl, hr42⟩ := dq42
              go_wp2_with (go_at_call 43; refine (ints_same W xa40 n xc40 (liveI es2) (by rw [liveI_len, HN.out]) hr40 xa42 n xc42 (liveI es2) (by rw [liveI_len, HN.out]) hr42 (by omega) true (decide_eq_true rfl)).mono ?_; rintro e' w' ⟨rfl, hm'⟩)
              exact hK _ _ rfl hm'
            refine opsOkA_cons ?_ ?_
            · intro K vs W hR hD hK
              have dq37 : vs 37 = .bool false := hD 37 (by decide)
              have dq43 : vs 43 = .bool true := hD 43 (by decide)
              clear hD
              try dsimp only at hK ⊢
              simp only [Act.put, List.setIfInBounds_toArray, List.set_cons_succ, List.set_cons_zero] at hK
              generalize vs 37 = vq37 at hK dq37 ⊢
              subst vq37
              generalize vs 43 = vq43 at hK dq43 ⊢
              subst vq43
              go_wp2
              exact hK _ _ rfl (Mod.refl _ _)
            refine opsOkA_cons ?_ ?_
            · intro K vs W hR hD hK
              have dq37 : vs 37 = .bool false := hD 37 (by decide)
              have dq44 : vs 44 = .bool false := hD 44 (by decide)
              clear hD
              try dsimp only at hK ⊢
              simp only [Act.put, List.setIfInBounds_toArray, List.set_cons_succ, List.set_cons_zero] at hK
              generalize vs 37 = vq37 at hK dq37 ⊢
              subst vq37
              generalize vs 44 = vq44 at hK dq44 ⊢
              subst vq44
              go_wp2
              exact hK _ _ rfl (Mod.refl _ _)
            exact opsOkA_nil
          · intro vs wq2 hR hF
            have dq45 : vs 45 = .bool false := hF 45 (by decide)
            clear hF
            try dsimp only
            generalize vs 45 = vq45 at dq45 ⊢
            subst dq45
            replace HS := Lib.hid (HSd.out.step hR)
            clear HSd hR
            have hbg := (HS.out.now).2.2.1
            have qg_0 := hbg.cell 0 rfl
            have qg_1 := hbg.cell 1 rfl
            have qg_2 := hbg.cell 2 rfl
            have lg := hbg.lt
            clear hbg
            go_wp2_with fail
            go_roundw
            case rel => exact ⟨k + 1, es2, gr2, L2, hlt, by go_num, HB9.out.later (HS.out.now).2.2.2.2.2, HR9.out⟩
            case measure => simp [intOf]; omega
theorem tlacts_law (w : World) (mv : Int) (_ : (Lit.int .i64 mv).wf = true) (a0 : Option Addr) (m c0 : Nat) (l : List ActT) (ok : (encSlice encActT).ok w (.slice a0 m c0, l)) :
    Calls Try.prog 7 #[.int .i64 mv, .slice a0 m c0] w fun e w' => e = .returned (.bool true) ∧ Below w.heap.size w w' := by
  obtain ⟨hr, _⟩ := ok
  have hr' : Rd w 3 (.slice a0 m c0) l.length (l.flatMap encActT.img) := hr
  have hn := hr'.len_eq
  subst hn
  exact (tlacts_all w mv a0 _ c0 l rfl hr').mono fun e w' h => ⟨h.1, h.2.below (Nat.le_refl _) (fun _ e => e.elim)⟩
end Go.Proofs.Ytfdmjnhhgcidbaa
