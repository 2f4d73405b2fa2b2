/- TableMay by contract. -/
import Derived.Test.YtfdmjnhhgcidbaaTbL
namespace Go.Proofs.Ytfdmjnhhgcidbaa
open Go.RowKit Mile
set_option maxRecDepth 100000
abbrev grC (gr : Nat → Int) : List Value := row16 fun x => Value.int .i64 (gr x)
theorem grC_set (gr : Nat → Int) {i : Nat} (h : i < 16) (x : Int) : (grC gr).set i (.int .i64 x) = grC (updT gr i x) := by
  rcases below16 h with rfl | rfl | rfl | rfl | rfl | rfl | rfl | rfl | rfl | rfl | rfl | rfl | rfl | rfl | rfl | rfl <;> rfl
set_option maxHeartbeats 64000000 in
theorem tlmay_all (w : World) (mv : Int) (a0 : Option Addr) (m c0 : Nat) (l : List (Int × Int)) (hm : l.length = m) (hr : Rd w 2 (.slice a0 m c0) m (l.flatMap c2Q)) :
    Calls Try.prog 9 #[.int .i64 mv, .slice a0 m c0] w fun e w' => e = .returned (.bool true) ∧ Mod (fun _ => False) w w' := by
  by_cases hno : ¬ (1 ≤ mv ∧ mv ≤ 16 ∧ m ≤ 60)
  case pos =>
    clear hr hm
    have hend : ∀ (b0 b1 b2 : Bool), decide (mv < 1) = b0 → decide (16 < mv) = b1 → decide (60 < (m : Int)) = b2 → (b0 || b1 || b2) = true →
        Calls Try.prog 9 #[.int .i64 mv, .slice a0 m c0] w fun e w' => e = .returned (.bool true) ∧ Mod (fun _ => False) w w' := by
      intro b0 b1 b2 hc0 hc1 hc2 hbb
      clear hno
      cases b0
      · skip
        cases b1
        · skip
          cases b2
          · cases hbb
          · clear hbb 
            go_enter Try.func9, Try.ntmps9
            go_wp2_with fail
            refine (awake29_any _).mono ?_
            rintro e w9 ⟨rfl, hm9⟩
            go_wp2_with fail
            go_ret
            exact ⟨rfl, hm9⟩
        · clear hbb hc2
          go_enter Try.func9, Try.ntmps9
          go_wp2_with fail
          refine (awake29_any _).mono ?_
          rintro e w9 ⟨rfl, hm9⟩
          go_wp2_with fail
          go_ret
          exact ⟨rfl, hm9⟩
      · clear hbb hc1 hc2
        go_enter Try.func9, Try.ntmps9
        go_wp2_with fail
        refine (awake29_any _).mono ?_
        rintro e w9 ⟨rfl, hm9⟩
        go_wp2_with fail
        go_ret
        exact ⟨rfl, hm9⟩
    refine hend _ _ _ rfl rfl rfl ?_
    simp only [Bool.or_eq_true, decide_eq_true_eq]
    omega
  case neg =>
  obtain ⟨iI, hiI, hzI, hsI, hbI⟩ := info_parts Tb.infoI
  obtain ⟨iP, hiP, hzP, hsP, hbP⟩ := info_parts Tb.infoP
  have hyes := Decidable.not_not.1 hno
  clear hno
  obtain ⟨M, rfl⟩ := Int.eq_ofNat_of_zero_le (show 0 ≤ mv by omega)
  have hM1 : 1 ≤ M := by omega
  have hM2 : M ≤ 16 := by omega
  have hm60 : m ≤ 60 := by omega
  clear hyes
  have z0 : decide ((M : Int) < 1) = false := by simp; omega
  have z1 : decide (16 < (M : Int)) = false := by simp; omega
  have z2 : decide (60 < (m : Int)) = false := by simp; omega
  have z3 : decide (60 < m) = false := by simp; omega
  have HLN := Lib.hid hm
  have HRD := Lib.hid hr
  clear hm hr
  go_enter Try.func9, Try.ntmps9
  go_wp2_with fail
  refine (tbnew_any w M hM1 hM2).mono ?_
  rintro e w1 ⟨p, rfl, ht, hp, hm1⟩
  have HT1 : Hid (TS w w1 p M (fun _ => none) (fun _ => 0)) := Lib.hid ⟨ht, hp, hm1⟩
  clear ht hp hm1
  obtain ⟨g, hg⟩ : ∃ y, w1.heap.size = y := ⟨_, rfl⟩
  obtain ⟨wA, hwA⟩ : ∃ y, w1.alloc (.cells #[.int .i64 0, .int .i64 0, .int .i64 0, .int .i64 0, .int .i64 0, .int .i64 0, .int .i64 0, .int .i64 0, .int .i64 0, .int .i64 0, .int .i64 0, .int .i64 0, .int .i64 0, .int .i64 0, .int .i64 0, .int .i64 0] 104) = y := ⟨_, rfl⟩
  have hgA : Blk wA g 104 (grC fun _ => 0) := by rw [← hwA, ← hg]; exact Blk.new w1 104 (grC fun _ => 0)
  have HT2 : Hid (TS w wA p M (fun _ => none) (fun _ => 0)) := Lib.hid (HT1.out.later (by rw [← hwA]; exact Mod.alloc _ _ _))
  have HGA := Lib.hid hgA
  have hlg : w.heap.size ≤ g := by rw [← hg]; exact HT1.out.md.size
  clear hgA HT1
  go_upto_region 7 with fail
  (try rw [hwA])
  (try rw [hg])
  clear hwA hg
  go_wp2_with fail
  go_loopw [8] (fun i wr => ∃ (j : Nat) (es : Nat → TbE) (gr : Nat → Int), j ≤ m ∧ i = .int .i64 j ∧ TS w wr p M es gr ∧ Blk wr g 104 (grC gr) ∧ ∀ x, x < 16 → gr x ≤ 30) (fun i _ => m - (intOf i).toNat)
  case atStart => exact ⟨0, _, _, by omega, rfl, HT2.out, HGA.out, fun _ _ => by show (0 : Int) ≤ 30; omega⟩
  case round =>
    obtain ⟨k, es, gr, hk, rfl, ht, hgb, hgm⟩ := hrel
    obtain ⟨wp, hwp⟩ : ∃ y : World, y = wr := ⟨_, rfl⟩
    subst hwp
    have HT3 := Lib.hid ht
    have HGB := Lib.hid hgb
    have HGM := Lib.hid hgm
    clear ht hgb hgm HT2 HGA
    by_cases hlt : k < m
    case neg =>
      have y2 : decide ((k : Int) < (m : Int)) = false := by simp; omega
      have y3 : decide (k < m) = false := by simpa using hlt
      go_wp2_with fail
      refine (awake29_any _).mono ?_
      rintro e w9 ⟨rfl, hm9⟩
      go_wp2_with fail
      go_ret
      exact ⟨rfl, HT3.out.md.of2 hm9⟩
    case pos =>
      have y2 : decide ((k : Int) < (m : Int)) = true := by simp; omega
      have y3 : decide (k < m) = true := by simpa using hlt
      have hkl : k < l.length := by rw [HLN.out]; exact hlt
      obtain ⟨eb, eo, hpl, e0, e1⟩ := rd2q (HRD.out.keep HT3.out.md (fun _ _ e => e)) HLN.out k hkl
      have hix := fun wx => run_indexS (P := Try.prog) wx 65 68 iP 2 Try.underlying65 hiP hsP a0 m c0 k hlt (HRD.out.some_ (by omega))
      rw [hpl] at hix
      obtain ⟨x, hx⟩ : ∃ y, l[k].1 = y := ⟨_, rfl⟩
      obtain ⟨y, hy⟩ : ∃ y, l[k].2 = y := ⟨_, rfl⟩
      rw [hx] at e0
      rw [hy] at e1
      clear hx hy hpl
      have hy0 := Int.emod_nonneg y (b := 30) (by omega)
      have hy1 := Int.emod_lt_of_pos y (b := 30) (by omega)
      have hx0 := Int.emod_nonneg x (b := 16) (by omega)
      have hx1 := Int.emod_lt_of_pos x (b := 16) (by omega)
      have hwc : IntKind.i64.wrap (1 + y % 30) = 1 + y % 30 := IntWalk.i64_in _ (by omega)
      go_wp2_with fail
      go_quiet ((go_at_call 16; exact Calls.quiet_of_same ((round_any _ _ _ (by omega) (by omega)).mono fun e w' h => ⟨h.1, h.2.symm⟩)))
      obtain ⟨ip, hip⟩ := Int.eq_ofNat_of_zero_le hx0
      obtain ⟨c, hc⟩ : ∃ c, 1 + y % 30 = c := ⟨_, rfl⟩
      rw [hip] at hx1 ⊢
      (try rw [hwc])
      rw [hc]
      have hi : ip < 16 := by omega
      have hc1 : 1 ≤ c := by omega
      have hc2 : c ≤ 30 := by omega
      clear hy0 hy1 hx0 hx1 hwc hip hc e0 e1 hix
      obtain ⟨wB, hwB⟩ : ∃ y, World.drewN wp nq = y := ⟨_, rfl⟩
      have hmB : Mod (fun _ => False) wp wB := by rw [← hwB]; exact Mod.drewN _ _ _
      have HT4 := Lib.hid (HT3.out.later hmB)
      have HG4 := Lib.hid (HGB.out.keep hmB (fun e => e))
      rw [hwB]
      clear hwB hmB HT3 HGB
      go_wp2_with fail
      refine (ts_peers HT4.out).mono ?_
      rintro e w5 ⟨a5, n, c5, rfl, hn, hr5, ht5, hm5⟩
      have HN := Lib.hid hn
      have hn16 : n ≤ 16 := by have := liveN_len es 16; omega
      have HP := Lib.hid (ts_peers2 ht5 a5 n c5 hn hr5)
      have HG5 := Lib.hid (HG4.out.keep hm5 (fun e => e))
      clear ht5 hn hr5 hm5 HT4 HG4
      go_wp2_with fail
      refine HP.out.mono ?_
      rintro e w6 ⟨a6, c6, rfl, hr6, _, ht6, hm6⟩
      have HT6 := Lib.hid ht6
      have HR6 := Lib.hid hr6
      have HG6 := Lib.hid (HG5.out.keep hm6 (fun e => e))
      clear ht6 hr6 hm6 HP HG5
      go_wp2_with fail
      refine (ts_len HT6.out n HN.out).mono ?_
      rintro e w7 ⟨rfl, ht7, hm7⟩
      have HT7 := Lib.hid ht7
      have HR7 := Lib.hid (HR6.out.keep hm7 (fun _ _ e => e))
      have HG7 := Lib.hid (HG6.out.keep hm7 (fun e => e))
      clear ht7 hm7 HT6 HR6 HG6
      obtain ⟨r, hr⟩ : ∃ r, mayC M es gr (ip : Int) c = r := ⟨_, rfl⟩
      have HRM := Lib.hid hr
      clear hr
      go_wp2_with fail
      refine (ts_may HT7.out (ip : Int) c r HRM.out).mono ?_
      rintro e w8 ⟨rfl, ht8, hm8⟩
      have HT8 := Lib.hid ht8
      have HR8 := Lib.hid (HR7.out.keep hm8 (fun _ _ e => e))
      have HG8 := Lib.hid (HG7.out.keep hm8 (fun e => e))
      clear ht8 hm8 HT7 HR7 HG7
      go_wp2_with fail
      go_loopw [14, 15] (fun bv iv wr => ∃ q : Nat, q ≤ n ∧ iv = .int .i64 q ∧ bv = .bool (decide ((ip : Int) ∈ (liveI es).take q)) ∧ w8 = wr) (fun _ iv _ => n - (intOf iv).toNat)
      case atStart => exact ⟨0, by omega, rfl, by simp, rfl⟩
      case round =>
        obtain ⟨q, hq, rfl, rfl, rfl⟩ := hrel
        by_cases hqn : q < n
        case pos =>
          have v0 : decide ((q : Int) < (n : Int)) = true := by simp; omega
          have v1 : decide (q < n) = true := by simpa using hqn
          have hql : q < (liveI es).length := by rw [liveI_len, HN.out]; exact hqn
          obtain ⟨fb, fo, hpl, f0⟩ := rd1 HR8.out q hql
          have hix := fun wx => run_indexS (P := Try.prog) wx 70 3 iI 1 Try.underlying70 hiI hsI a6 n c6 q hqn (HR8.out.some_ (by omega))
          rw [hpl] at hix
          have hms := mem_take_succ hql (ip : Int)
          obtain ⟨u, hu⟩ : ∃ u, (liveI es)[q] = u := ⟨_, rfl⟩
          rw [hu] at f0 hms
          have HMS := Lib.hid hms
          clear hu hpl hms
          by_cases hin : (ip : Int) ∈ (liveI es).take q
          · have HD : Hid (decide ((ip : Int) ∈ (liveI es).take (q + 1)) = true) := Lib.hid (decide_eq_true (HMS.out.2 (.inl hin)))
            rw [decide_eq_true hin]
            clear hin
            go_wp2_with fail
            go_roundw
            case rel => exact ⟨q + 1, hqn, by go_num, by rw [HD.out], trivial⟩
            case measure => simp [intOf]; omega
          · rw [decide_eq_false hin]
            by_cases hue : u = (ip : Int)
            · have v2 : (u == (ip : Int)) = true := by simpa using hue
              have HD : Hid (decide ((ip : Int) ∈ (liveI es).take (q + 1)) = true) := Lib.hid (decide_eq_true (HMS.out.2 (.inr hue.symm)))
              clear hin hue
              go_wp2_with fail
              go_roundw
              case rel => exact ⟨q + 1, hqn, by go_num, by rw [HD.out], trivial⟩
              case measure => simp [intOf]; omega
            · have v2 : (u == (ip : Int)) = false := by simpa using hue
              have HD : Hid (decide ((ip : Int) ∈ (liveI es).take (q + 1)) = false) := Lib.hid (decide_eq_false (fun h => (HMS.out.1 h).elim hin (fun e => hue e.symm)))
              clear hin hue
              go_wp2_with fail
              go_roundw
              case rel => exact ⟨q + 1, hqn, by go_num, by rw [HD.out], trivial⟩
              case measure => simp [intOf]; omega
        case neg =>
          have v0 : decide ((q : Int) < (n : Int)) = false := by simp; omega
          have v1 : decide (q < n) = false := by simpa using hqn
          obtain rfl : q = n := by omega
          obtain ⟨th, hth⟩ : ∃ b, decide ((ip : Int) ∈ (liveI es).take q) = b := ⟨_, rfl⟩
          have HTH : Hid (th = true ↔ (es ip).isSome = true) := Lib.hid (by rw [← hth, List.take_of_length_le (by rw [liveI_len, HN.out]; exact Nat.le_refl _), decide_eq_true_eq]; exact liveI_mem hi)
          rw [hth]
          clear hth
          have hg8 := HG8.out.cell ip (row16_at (fun x => Value.int .i64 (gr x)) hi)
          have hixG := fun wx => run_indexA16z (P := Try.prog) wx 104 3 iI Try.underlying104 hiI hsI g ip hi
          obtain ⟨gv, hgv⟩ : ∃ y, gr ip = y := ⟨_, rfl⟩
          replace hg8 : w8.cell? ⟨g, ip, none⟩ = some (.int .i64 gv) := by rw [← hgv]; exact hg8
          have HGV := Lib.hid hgv
          clear hgv
          by_cases hA : c ≤ gv
          case pos =>
            have x0 : decide (c ≤ gv) = true := by simpa using hA
            have hr : mayC M es gr (ip : Int) c = 6 := mayC_gone hi hc1 (by omega) (by have := HGV.out; omega)
            have hrr : r = 6 := by rw [← HRM.out, hr]
            subst hrr
            go_wp2_with fail
            refine (ts_entry HT8.out (ip : Int) c).mono ?_
            rintro e w10 ⟨b, ch, rfl, hb, _, ht10, hm10⟩
            have HA := Lib.hid (ts_addno ht10 b (ip : Int) c ch hb 6 HRM.out (by omega))
            have HR10 := Lib.hid (HR8.out.keep hm10 (fun _ _ e => e))
            have HG10 := Lib.hid (HG8.out.keep hm10 (fun e => e))
            clear hb ht10 hm10 HT8 HR8 HG8 hg8
            go_wp2_with fail
            refine HA.out.mono ?_
            rintro e w11 ⟨rfl, ht11, hm11⟩
            have HT11 := Lib.hid ht11
            have HR11 := Lib.hid (HR10.out.keep hm11 (fun _ _ e => e))
            have HG11 := Lib.hid (HG10.out.keep hm11 (fun e => e))
            clear ht11 hm11 HA HR10 HG10
            go_wp2_with fail
            refine (ts_peers HT11.out).mono ?_
            rintro e w12 ⟨a12, n12, c12, rfl, hn12, hr12, ht12, hm12⟩
            obtain rfl : n12 = q := by rw [← hn12]; exact HN.out
            have HP := Lib.hid (ts_peers2 ht12 a12 _ c12 hn12 hr12)
            have HR12 := Lib.hid (HR11.out.keep hm12 (fun _ _ e => e))
            have HG12 := Lib.hid (HG11.out.keep hm12 (fun e => e))
            clear ht12 hn12 hr12 hm12 HT11 HR11 HG11
            go_wp2_with fail
            refine HP.out.mono ?_
            rintro e w13 ⟨a13, c13, rfl, hr13, _, ht13, hm13⟩
            have HT13 := Lib.hid ht13
            have HS13 := Lib.hid hr13
            have HR13 := Lib.hid (HR12.out.keep hm13 (fun _ _ e => e))
            have HG13 := Lib.hid (HG12.out.keep hm13 (fun e => e))
            clear ht13 hr13 hm13 HP HR12 HG12
            go_wp2_with fail
            refine (ints_same _ a13 _ c13 _ (by rw [liveI_len, HN.out]) HS13.out a6 _ c6 _ (by rw [liveI_len, HN.out]) HR13.out (by omega) true (decide_eq_true rfl)).mono ?_
            rintro e w14 ⟨rfl, hm14⟩
            have HM14 := Lib.hid hm14
            clear hm14
            go_wp2_with fail
            go_roundw
            case rel => exact ⟨k + 1, es, gr, hlt, by go_num, HT13.out.later HM14.out, HG13.out.keep HM14.out (fun e => e), HGM.out⟩
            case measure => simp [intOf]; omega
          case neg =>
            have x0 : decide (c ≤ gv) = false := by simpa using hA
            cases th with
            | true =>
              have HSO := Lib.hid (HTH.out.1 rfl)
              have hr : mayC M es gr (ip : Int) c = 0 := mayC_ok hi hc1 (by omega) (by have := HGV.out; omega) (.inr (by intro h; have := HSO.out; rw [h] at this; cases this))
              have hrr : r = 0 := by rw [← HRM.out, hr]
              subst hrr
              go_wp2_with fail
              refine (ts_entry HT8.out (ip : Int) c).mono ?_
              rintro e w10 ⟨b, ch, rfl, hb, hbp, ht10, hm10⟩
              have HA := Lib.hid (ts_add ht10 b ip hi c ch hb hbp HRM.out)
              have HG10 := Lib.hid (HG8.out.keep hm10 (fun e => e))
              have HTP := Lib.hid ht10.tb.blk
              clear hb ht10 hm10 HT8 HR8 HG8 hg8
              go_wp2_with fail
              refine HA.out.mono ?_
              rintro e w11 ⟨rfl, ht11, hm11⟩
              have hgp : g ≠ p := fun x => blk_ne HG10.out HTP.out (by decide) x
              have hg11 := HG10.out.keep hm11 hgp
              have cg := hg11.cell ip (row16_at (fun x => Value.int .i64 (gr x)) hi)
              have fg := hg11.free ip
              have lg := hg11.lt
              have HT11 := Lib.hid ht11
              have HG11 := Lib.hid hg11
              clear ht11 hm11 hg11 HA HG10
              have hsz : Mod (fun i => i = g) w11 (w11.setCell ⟨g, ip, none⟩ (.int .i64 c)) := Mod.setCell _ _ _ rfl
              have hts : TS w (w11.setCell ⟨g, ip, none⟩ (.int .i64 c)) p M (updT es ip (some (b, ch))) (updT gr ip c) := ⟨HT11.out.tb.beside HG11.out (by decide) (by decide) hsz, HT11.out.lp, HT11.out.md.old hsz (fun i e => by rw [e]; exact hlg)⟩
              have hgs := HG11.out.set ip (.int .i64 c)
              rw [grC_set gr hi c] at hgs
              have HTS := Lib.hid hts
              have HGS := Lib.hid hgs
              clear hsz hts hgs
              have hwc1 : IntKind.i64.wrap (c + 1) = c + 1 := IntWalk.i64_in _ (by omega)
              have hy1 : mayC M (updT es ip (some (b, ch))) (updT gr ip c) (ip : Int) (c + 1) = 0 := mayC_ok hi (by omega) (by omega) (by rw [updT_at]; omega) (.inr (by rw [updT_at]; intro h; cases h))
              have hy2 : mayC M (updT es ip (some (b, ch))) (updT gr ip c) (ip : Int) c = 6 := mayC_gone hi (by omega) (by omega) (by rw [updT_at]; omega)
              have HY1 := Lib.hid hy1
              have HY2 := Lib.hid hy2
              clear hy1 hy2
              go_upto_region 27 with fail
              obtain ⟨wS, hwS⟩ : ∃ y, w11.setCell ⟨g, ip, none⟩ (.int .i64 c) = y := ⟨_, rfl⟩
              rw [hwS] at HTS HGS ⊢
              clear hwS cg fg lg
              go_wp2_with fail
              refine (ts_may HTS.out (ip : Int) (c + 1) 0 HY1.out).mono ?_
              rintro e w15 ⟨rfl, ht15, hm15⟩
              have HT15 := Lib.hid ht15
              have HG15 := Lib.hid (HGS.out.keep hm15 (fun e => e))
              clear ht15 hm15 HTS HGS
              go_wp2_with fail
              refine (ts_may HT15.out (ip : Int) c 6 HY2.out).mono ?_
              rintro e w16 ⟨rfl, ht16, hm16⟩
              have HT16 := Lib.hid ht16
              have HG16 := Lib.hid (HG15.out.keep hm16 (fun e => e))
              clear ht16 hm16 HT15 HG15
              go_wp2_with fail
              go_roundw
              case rel => exact ⟨k + 1, _, _, hlt, by go_num, HT16.out, HG16.out, fun x hx => by by_cases e : x = ip; (subst e; rw [updT_at]; exact hc2); (rw [updT_ne _ _ e]; exact HGM.out x hx)⟩
              case measure => simp [intOf]; omega
            | false =>
              have HSO : Hid (es ip = none) := Lib.hid (by cases h : es ip with | none => rfl | some y => exact absurd (HTH.out.2 (by rw [h]; rfl)) (by simp))
              by_cases hB : M ≤ q
              case pos =>
                have x1 : decide ((M : Int) ≤ (q : Int)) = true := by simp; omega
                have x2 : decide (M ≤ q) = true := by simpa using hB
                have hr : mayC M es gr (ip : Int) c = 5 := mayC_full hi hc1 (by omega) (by have := HGV.out; omega) (by rw [HN.out]; exact hB) HSO.out
                have hrr : r = 5 := by rw [← HRM.out, hr]
                subst hrr
                go_wp2_with fail
                refine (ts_entry HT8.out (ip : Int) c).mono ?_
                rintro e w10 ⟨b, ch, rfl, hb, _, ht10, hm10⟩
                have HA := Lib.hid (ts_addno ht10 b (ip : Int) c ch hb 5 HRM.out (by omega))
                have HR10 := Lib.hid (HR8.out.keep hm10 (fun _ _ e => e))
                have HG10 := Lib.hid (HG8.out.keep hm10 (fun e => e))
                clear hb ht10 hm10 HT8 HR8 HG8 hg8
                go_wp2_with fail
                refine HA.out.mono ?_
                rintro e w11 ⟨rfl, ht11, hm11⟩
                have HT11 := Lib.hid ht11
                have HR11 := Lib.hid (HR10.out.keep hm11 (fun _ _ e => e))
                have HG11 := Lib.hid (HG10.out.keep hm11 (fun e => e))
                clear ht11 hm11 HA HR10 HG10
                go_wp2_with fail
                refine (ts_peers HT11.out).mono ?_
                rintro e w12 ⟨a12, n12, c12, rfl, hn12, hr12, ht12, hm12⟩
                obtain rfl : n12 = q := by rw [← hn12]; exact HN.out
                have HP := Lib.hid (ts_peers2 ht12 a12 _ c12 hn12 hr12)
                have HR12 := Lib.hid (HR11.out.keep hm12 (fun _ _ e => e))
                have HG12 := Lib.hid (HG11.out.keep hm12 (fun e => e))
                clear ht12 hn12 hr12 hm12 HT11 HR11 HG11
                go_wp2_with fail
                refine HP.out.mono ?_
                rintro e w13 ⟨a13, c13, rfl, hr13, _, ht13, hm13⟩
                have HT13 := Lib.hid ht13
                have HS13 := Lib.hid hr13
                have HR13 := Lib.hid (HR12.out.keep hm13 (fun _ _ e => e))
                have HG13 := Lib.hid (HG12.out.keep hm13 (fun e => e))
                clear ht13 hr13 hm13 HP HR12 HG12
                go_wp2_with fail
                refine (ints_same _ a13 _ c13 _ (by rw [liveI_len, HN.out]) HS13.out a6 _ c6 _ (by rw [liveI_len, HN.out]) HR13.out (by omega) true (decide_eq_true rfl)).mono ?_
                rintro e w14 ⟨rfl, hm14⟩
                have HM14 := Lib.hid hm14
                clear hm14
                go_wp2_with fail
                go_roundw
                case rel => exact ⟨k + 1, es, gr, hlt, by go_num, HT13.out.later HM14.out, HG13.out.keep HM14.out (fun e => e), HGM.out⟩
                case measure => simp [intOf]; omega
              case neg =>
                have x1 : decide ((M : Int) ≤ (q : Int)) = false := by simp; omega
                have x2 : decide (M ≤ q) = false := by simpa using hB
                have hr : mayC M es gr (ip : Int) c = 0 := mayC_ok hi hc1 (by omega) (by have := HGV.out; omega) (.inl (by rw [HN.out]; omega))
                have hrr : r = 0 := by rw [← HRM.out, hr]
                subst hrr
                go_wp2_with fail
                refine (ts_entry HT8.out (ip : Int) c).mono ?_
                rintro e w10 ⟨b, ch, rfl, hb, hbp, ht10, hm10⟩
                have HA := Lib.hid (ts_add ht10 b ip hi c ch hb hbp HRM.out)
                have HG10 := Lib.hid (HG8.out.keep hm10 (fun e => e))
                have HTP := Lib.hid ht10.tb.blk
                clear hb ht10 hm10 HT8 HR8 HG8 hg8
                go_wp2_with fail
                refine HA.out.mono ?_
                rintro e w11 ⟨rfl, ht11, hm11⟩
                have hgp : g ≠ p := fun x => blk_ne HG10.out HTP.out (by decide) x
                have hg11 := HG10.out.keep hm11 hgp
                have cg := hg11.cell ip (row16_at (fun x => Value.int .i64 (gr x)) hi)
                have fg := hg11.free ip
                have lg := hg11.lt
                have HT11 := Lib.hid ht11
                have HG11 := Lib.hid hg11
                clear ht11 hm11 hg11 HA HG10
                have hsz : Mod (fun i => i = g) w11 (w11.setCell ⟨g, ip, none⟩ (.int .i64 c)) := Mod.setCell _ _ _ rfl
                have hts : TS w (w11.setCell ⟨g, ip, none⟩ (.int .i64 c)) p M (updT es ip (some (b, ch))) (updT gr ip c) := ⟨HT11.out.tb.beside HG11.out (by decide) (by decide) hsz, HT11.out.lp, HT11.out.md.old hsz (fun i e => by rw [e]; exact hlg)⟩
                have hgs := HG11.out.set ip (.int .i64 c)
                rw [grC_set gr hi c] at hgs
                have HTS := Lib.hid hts
                have HGS := Lib.hid hgs
                clear hsz hts hgs
                have hwc1 : IntKind.i64.wrap (c + 1) = c + 1 := IntWalk.i64_in _ (by omega)
                have hy1 : mayC M (updT es ip (some (b, ch))) (updT gr ip c) (ip : Int) (c + 1) = 0 := mayC_ok hi (by omega) (by omega) (by rw [updT_at]; omega) (.inr (by rw [updT_at]; intro h; cases h))
                have hy2 : mayC M (updT es ip (some (b, ch))) (updT gr ip c) (ip : Int) c = 6 := mayC_gone hi (by omega) (by omega) (by rw [updT_at]; omega)
                have HY1 := Lib.hid hy1
                have HY2 := Lib.hid hy2
                clear hy1 hy2
                go_upto_region 27 with fail
                obtain ⟨wS, hwS⟩ : ∃ y, w11.setCell ⟨g, ip, none⟩ (.int .i64 c) = y := ⟨_, rfl⟩
                rw [hwS] at HTS HGS ⊢
                clear hwS cg fg lg
                go_wp2_with fail
                refine (ts_may HTS.out (ip : Int) (c + 1) 0 HY1.out).mono ?_
                rintro e w15 ⟨rfl, ht15, hm15⟩
                have HT15 := Lib.hid ht15
                have HG15 := Lib.hid (HGS.out.keep hm15 (fun e => e))
                clear ht15 hm15 HTS HGS
                go_wp2_with fail
                refine (ts_may HT15.out (ip : Int) c 6 HY2.out).mono ?_
                rintro e w16 ⟨rfl, ht16, hm16⟩
                have HT16 := Lib.hid ht16
                have HG16 := Lib.hid (HG15.out.keep hm16 (fun e => e))
                clear ht16 hm16 HT15 HG15
                go_wp2_with fail
                go_roundw
                case rel => exact ⟨k + 1, _, _, hlt, by go_num, HT16.out, HG16.out, fun x hx => by by_cases e : x = ip; (subst e; rw [updT_at]; exact hc2); (rw [updT_ne _ _ e]; exact HGM.out x hx)⟩
                case measure => simp [intOf]; omega
theorem tlmay_law (w : World) (mv : Int) (_ : (Lit.int .i64 mv).wf = true) (a0 : Option Addr) (m c0 : Nat) (l : List (Int × Int)) (ok : (encSlice (encPair (encInt .i64) (encInt .i64))).ok w (.slice a0 m c0, l)) :
    Calls Try.prog 9 #[.int .i64 mv, .slice a0 m c0] w fun e w' => e = .returned (.bool true) ∧ Below w.heap.size w w' := by
  obtain ⟨hr, _⟩ := ok
  have hr' : Rd w 2 (.slice a0 m c0) l.length (l.flatMap c2Q) := hr
  have hn := hr'.len_eq
  subst hn
  exact (tlmay_all w mv a0 _ c0 l rfl hr').mono fun e w' h => ⟨h.1, h.2.below (Nat.le_refl _) (fun _ e => e.elim)⟩
end Go.Proofs.Ytfdmjnhhgcidbaa
