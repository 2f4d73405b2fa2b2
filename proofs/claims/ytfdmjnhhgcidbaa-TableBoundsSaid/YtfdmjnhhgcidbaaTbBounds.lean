/- TableBounds by contract. -/
import Derived.Test.YtfdmjnhhgcidbaaTbD
import Derived.Test.YtfdmjnhhgcidbaaPMap
namespace Go.Proofs.Ytfdmjnhhgcidbaa
open Go.RowKit Mile
set_option maxRecDepth 100000
theorem Tb.arr : WideMaps.ArrKey Try.prog 68 3 2 := ⟨Try.underlying68, by kernel_rfl, by kernel_rfl, by kernel_rfl⟩
theorem Tb.rows : ∃ m, Try.prog.types.size = m + 1 := ⟨Try.prog.types.size - 1, by have : 0 < Try.prog.types.size := of_decide_eq_true (by kernel_rfl); omega⟩
theorem Tb.zeroB (w : World) : (zeroValue 4).run Try.prog w = .ok (.bool false) w := by
  obtain ⟨iI, hiI, hzI, hsI, hbI⟩ := info_parts Tb.infoB
  simp [zeroValue, typeInfo, hiI, hzI]
theorem mayC_zero {M : Nat} {es : Nat → TbE} {gr : Nat → Int} {i : Nat} {c : Int} (hi : i < 16) (h : mayC M es gr (i : Int) c = 0) : gr i < c ∧ ((liveN es 16).length < M ∨ es i ≠ none) := by
  unfold mayC at h
  rw [Int.toNat_natCast] at h
  split at h
  · cases h
  · split at h
    · cases h
    · rename_i h1 h2
      split at h
      · cases h
      · rename_i h3
        refine ⟨by omega, ?_⟩
        by_cases e : es i = none
        · exact .inl (by have : ¬ M ≤ (liveN es 16).length := fun x => h3 ⟨x, e⟩; omega)
        · exact .inr e
theorem liveN_upd {es : Nat → TbE} {i M : Nat} (y : Nat × Value) (h : (liveN es 16).length ≤ M) (h2 : (liveN es 16).length < M ∨ es i ≠ none) : (liveN (updT es i (some y)) 16).length ≤ M := by
  have hnd := (liveN_rise (updT es i (some y)) 16).imp (fun h => Nat.ne_of_lt h)
  by_cases e : es i = none
  · have h3 := nodup_length _ (i :: liveN es 16) hnd (fun x hx => by
      obtain ⟨h4, h5⟩ := mem_liveN.1 hx
      by_cases hxi : x = i
      · subst hxi; exact List.mem_cons_self
      · rw [updT_ne _ _ hxi] at h5; exact List.mem_cons_of_mem _ (mem_liveN.2 ⟨h4, h5⟩))
    rw [List.length_cons] at h3
    rcases h2 with h2 | h2
    · omega
    · exact absurd e h2
  · have h3 := nodup_length _ (liveN es 16) hnd (fun x hx => by
      obtain ⟨h4, h5⟩ := mem_liveN.1 hx
      by_cases hxi : x = i
      · subst hxi; exact mem_liveN.2 ⟨h4, Option.isSome_iff_ne_none.2 e⟩
      · rw [updT_ne _ _ hxi] at h5; exact mem_liveN.2 ⟨h4, h5⟩)
    omega
/-- What TableBounds' rounds keep. -/
structure BdI (M : Nat) (es : Nat → TbE) (gr : Nat → Int) (f : Int → Int → Bool) : Prop where
  live : (liveN es 16).length ≤ M
  grm : ∀ x, x < 16 → gr x ≤ 20
  was : ∀ x y, f x y = true → ∃ i : Nat, i < 16 ∧ x = (i : Int) ∧ y ≤ gr i
theorem BdI.add {M : Nat} {es : Nat → TbE} {gr : Nat → Int} {f : Int → Int → Bool} (h : BdI M es gr f) {i : Nat} (hi : i < 16) {c : Int} (hc : c ≤ 20) (hm : mayC M es gr (i : Int) c = 0) (y : Nat × Value) : BdI M (updT es i (some y)) (updT gr i c) (fun x' y' => if x' = (i : Int) ∧ y' = c then true else f x' y') := by
  obtain ⟨h1, h2⟩ := mayC_zero hi hm
  refine ⟨liveN_upd y h.live h2, fun x hx => ?_, fun x z hf => ?_⟩
  · by_cases e : x = i
    · subst e; rw [updT_at]; exact hc
    · rw [updT_ne _ _ e]; exact h.grm x hx
  · by_cases e : x = (i : Int) ∧ z = c
    · exact ⟨i, hi, e.1, by rw [updT_at, e.2]; exact Int.le_refl _⟩
    · rw [if_neg e] at hf
      obtain ⟨j, hj, hx, hz⟩ := h.was x z hf
      refine ⟨j, hj, hx, ?_⟩
      by_cases ej : j = i
      · subst ej; rw [updT_at]; omega
      · rw [updT_ne _ _ ej]; exact hz
theorem BdI.drop {M : Nat} {es : Nat → TbE} {gr : Nat → Int} {f : Int → Int → Bool} (h : BdI M es gr f) (ps : List Int) : BdI M (dropE es ps) gr f := by
  refine ⟨?_, h.grm, h.was⟩
  have := gone_left es ps
  have := h.live
  omega
theorem liveI_rise (es : Nat → TbE) (k : Nat) (h : k + 1 < (liveI es).length) : (liveI es)[k]'(by omega) < (liveI es)[k + 1] := by
  have hp : (liveI es).Pairwise (· < ·) := by unfold liveI; rw [List.pairwise_map]; exact (liveN_rise es 16).imp (fun h => by omega)
  exact List.pairwise_iff_getElem.1 hp k (k + 1) (by omega) h (by omega)
set_option maxHeartbeats 64000000 in
theorem tlbounds_all (w : World) (mv : Int) (a0 : Option Addr) (m c0 : Nat) (l : List (Int × Int)) (hm : l.length = m) (hr : Rd w 2 (.slice a0 m c0) m (l.flatMap c2Q)) (a1 : Option Addr) (m1 c1 : Nat) (ds : List Int) (hm1 : ds.length = m1) (hr1 : Rd w 1 (.slice a1 m1 c1) m1 (ds.map (Value.int .i64))) :
    Calls Try.prog 8 #[.int .i64 mv, .slice a0 m c0, .slice a1 m1 c1] w fun e w' => e = .returned (.bool true) ∧ Mod (fun _ => False) w w' := by
  by_cases hno : ¬ (1 ≤ mv ∧ mv ≤ 16 ∧ m ≤ 80 ∧ m1 ≤ 80)
  case pos =>
    clear hr hm hr1 hm1
    have hend : ∀ (b0 b1 b2 b3 : Bool), decide (mv < 1) = b0 → decide (16 < mv) = b1 → decide (80 < (m : Int)) = b2 → decide (80 < (m1 : Int)) = b3 → (b0 || b1 || b2 || b3) = true →
        Calls Try.prog 8 #[.int .i64 mv, .slice a0 m c0, .slice a1 m1 c1] w fun e w' => e = .returned (.bool true) ∧ Mod (fun _ => False) w w' := by
      intro b0 b1 b2 b3 hc0 hc1 hc2 hc3 hbb
      clear hno
      cases b0
      · skip
        cases b1
        · skip
          cases b2
          · skip
            cases b3
            · cases hbb
            · clear hbb 
              go_enter Try.func8, Try.ntmps8
              go_wp2_with fail
              refine (awake29_any _).mono ?_
              rintro e w9 ⟨rfl, hm9⟩
              go_wp2_with fail
              go_ret
              exact ⟨rfl, hm9⟩
          · clear hbb hc3
            go_enter Try.func8, Try.ntmps8
            go_wp2_with fail
            refine (awake29_any _).mono ?_
            rintro e w9 ⟨rfl, hm9⟩
            go_wp2_with fail
            go_ret
            exact ⟨rfl, hm9⟩
        · clear hbb hc2 hc3
          go_enter Try.func8, Try.ntmps8
          go_wp2_with fail
          refine (awake29_any _).mono ?_
          rintro e w9 ⟨rfl, hm9⟩
          go_wp2_with fail
          go_ret
          exact ⟨rfl, hm9⟩
      · clear hbb hc1 hc2 hc3
        go_enter Try.func8, Try.ntmps8
        go_wp2_with fail
        refine (awake29_any _).mono ?_
        rintro e w9 ⟨rfl, hm9⟩
        go_wp2_with fail
        go_ret
        exact ⟨rfl, hm9⟩
    refine hend _ _ _ _ rfl rfl rfl rfl ?_
    simp only [Bool.or_eq_true, decide_eq_true_eq]
    omega
  case neg =>
  obtain ⟨iI, hiI, hzI, hsI, hbI⟩ := info_parts Tb.infoI
  obtain ⟨iP, hiP, hzP, hsP, hbP⟩ := info_parts Tb.infoP
  have hyes := Decidable.not_not.1 hno
  clear hno
  obtain ⟨M, rfl⟩ := Int.eq_ofNat_of_zero_le (show 0 ≤ mv by omega)
  have hM1 : 1 ≤ M := by omega
  have hM2 : M ≤ 16 := by omega
  have hm80 : m ≤ 80 := by omega
  have hm81 : m1 ≤ 80 := by omega
  clear hyes
  have z0 : decide ((M : Int) < 1) = false := by simp; omega
  have z1 : decide (16 < (M : Int)) = false := by simp; omega
  have z2 : decide (80 < (m : Int)) = false := by simp; omega
  have z3 : decide (80 < m) = false := by simp; omega
  have z4 : decide (80 < (m1 : Int)) = false := by simp; omega
  have z5 : decide (80 < m1) = false := by simp; omega
  have HLN := Lib.hid hm
  have HRD := Lib.hid hr
  have HDN := Lib.hid hm1
  have HRW := Lib.hid hr1
  clear hm hr hm1 hr1
  go_enter Try.func8, Try.ntmps8
  go_wp2_with fail
  refine (tbnew_any w M hM1 hM2).mono ?_
  rintro e w1 ⟨p, rfl, ht, hp, hm1⟩
  have HT1 : Hid (TS w w1 p M (fun _ => none) (fun _ => 0)) := Lib.hid ⟨ht, hp, hm1⟩
  clear ht hp hm1
  obtain ⟨mb, hmb⟩ : ∃ y, w1.heap.size = y := ⟨_, rfl⟩
  obtain ⟨wA, hwA⟩ : ∃ y, w1.alloc (.map #[] 0) = y := ⟨_, rfl⟩
  have HF2 : Hid (PMap Try.prog 68 4 wA mb 0 (fun _ _ => false)) := Lib.hid (by rw [← hwA, ← hmb]; exact PMap.made w1)
  have HT2 : Hid (TS w wA p M (fun _ => none) (fun _ => 0)) := Lib.hid (HT1.out.later (by rw [← hwA]; exact Mod.alloc _ _ _))
  have hlm : w.heap.size ≤ mb := by rw [← hmb]; exact HT1.out.md.size
  clear HT1
  have hmm := @run_makeMap Try.prog
  go_upto_region 7 with fail
  (try rw [hwA])
  (try rw [hmb])
  clear hwA hmb hmm
  go_wp2_with fail
  go_loopw [10] (fun i wr => ∃ (j : Nat) (es : Nat → TbE) (gr : Nat → Int) (f : Int → Int → Bool), j ≤ m ∧ i = .int .i64 j ∧ TS w wr p M es gr ∧ PMap Try.prog 68 4 wr mb j f ∧ BdI M es gr f) (fun i _ => m - (intOf i).toNat)
  case atStart => exact ⟨0, _, _, _, by omega, rfl, HT2.out, HF2.out, ⟨Nat.zero_le _, fun _ _ => by show (0 : Int) ≤ 20; omega, fun _ _ h => by cases h⟩⟩
  case round =>
    obtain ⟨k, es, gr, f, hk, rfl, ht, hf, hth⟩ := hrel
    obtain ⟨wp, hwp⟩ : ∃ y : World, y = wr := ⟨_, rfl⟩
    subst hwp
    have HT3 := Lib.hid ht
    have HF3 := Lib.hid hf
    have HBI := Lib.hid hth
    clear ht hf hth HT2 HF2
    by_cases hlt : k < m
    case neg =>
      have y2 : decide ((k : Int) < (m : Int)) = false := by simp; omega
      have y3 : decide (k < m) = false := by simpa using hlt
      go_wp2_with fail
      refine (awake29_any _).mono ?_
      rintro e w9 ⟨rfl, hm9⟩
      go_wp2_with fail
      go_ret
      exact ⟨rfl, HT3.out.md.of2 hm9⟩
    case pos =>
      have y2 : decide ((k : Int) < (m : Int)) = true := by simp; omega
      have y3 : decide (k < m) = true := by simpa using hlt
      have hkl : k < l.length := by rw [HLN.out]; exact hlt
      obtain ⟨eb, eo, hpl, e0, e1⟩ := rd2q (HRD.out.keep HT3.out.md (fun _ _ e => e)) HLN.out k hkl
      have hix := fun wx => run_indexS (P := Try.prog) wx 65 68 iP 2 Try.underlying65 hiP hsP a0 m c0 k hlt (HRD.out.some_ (by omega))
      rw [hpl] at hix
      obtain ⟨x, hx⟩ : ∃ y, l[k].1 = y := ⟨_, rfl⟩
      obtain ⟨y, hy⟩ : ∃ y, l[k].2 = y := ⟨_, rfl⟩
      rw [hx] at e0
      rw [hy] at e1
      clear hx hy hpl
      have hy0 := Int.emod_nonneg y (b := 20) (by omega)
      have hy1 := Int.emod_lt_of_pos y (b := 20) (by omega)
      have hx0 := Int.emod_nonneg x (b := 16) (by omega)
      have hx1 := Int.emod_lt_of_pos x (b := 16) (by omega)
      have hwc : IntKind.i64.wrap (1 + y % 20) = 1 + y % 20 := IntWalk.i64_in _ (by omega)
      go_wp2_with fail
      go_quiet ((go_at_call 16; exact Calls.quiet_of_same ((round_any _ _ _ (by omega) (by omega)).mono fun e w' h => ⟨h.1, h.2.symm⟩)))
      obtain ⟨ip, hip⟩ := Int.eq_ofNat_of_zero_le hx0
      obtain ⟨c, hc⟩ : ∃ c, 1 + y % 20 = c := ⟨_, rfl⟩
      rw [hip] at hx1 ⊢
      (try rw [hwc])
      rw [hc]
      have hi : ip < 16 := by omega
      have hc1 : 1 ≤ c := by omega
      have hc2 : c ≤ 20 := by omega
      clear hy0 hy1 hx0 hx1 hwc hip hc e0 e1 hix
      obtain ⟨wB, hwB⟩ : ∃ y, World.drewN wp nq = y := ⟨_, rfl⟩
      have hmB : Mod (fun _ => False) wp wB := by rw [← hwB]; exact Mod.drewN _ _ _
      have HT4 := Lib.hid (HT3.out.later hmB)
      have HF4 := Lib.hid (HF3.out.keep hmB (fun e => e))
      rw [hwB]
      clear hwB hmB HT3 HF3
      go_wp2_with fail
      refine (ts_entry HT4.out (ip : Int) c).mono ?_
      rintro e w5 ⟨b, ch, rfl, hb, hbp, ht5, hm5⟩
      have HT5 := Lib.hid ht5
      have HB5 := Lib.hid hb
      have HF5 := Lib.hid (HF4.out.keep hm5 (fun e => e))
      have HP5 := Lib.hid ht5.tb.blk
      clear hb ht5 hm5 HT4 HF4
      obtain ⟨r, hr⟩ : ∃ r, mayC M es gr (ip : Int) c = r := ⟨_, rfl⟩
      by_cases hr0 : r = 0
      case neg =>
        have x0 : (r == 0) = false := by simpa using hr0
        have HA := Lib.hid (ts_addno HT5.out b (ip : Int) c ch HB5.out r hr hr0)
        clear hr hr0 HT5 HB5
        go_wp2_with fail
        refine HA.out.mono ?_
        rintro e w6 ⟨rfl, ht6, hm6⟩
        have HT6 := Lib.hid ht6
        have HF6x := Lib.hid (HF5.out.keep hm6 (fun e => e))
        have HF6 : Hid (PMap Try.prog 68 4 w6 mb (k + 1) f) := Lib.hid (by obtain ⟨n, D, h1, h2, h3⟩ := HF6x.out; exact ⟨n, D, h1, Nat.le_succ_of_le h2, h3⟩)
        clear ht6 hm6 HA HF5 HF6x
        by_cases hdk : k < m1
        case neg =>
          have w0_ : decide ((k : Int) < (m1 : Int)) = false := by simp; omega
          have w1_ : decide (k < m1) = false := by simpa using hdk
          go_wp2_with fail
          refine (ts_peers HT6.out).mono ?_
          rintro e w15 ⟨a5, n, c5, rfl, hn, hr5, ht15, hm15⟩
          have HN := Lib.hid hn
          have hnM : n ≤ M := by have := HBI.out.live; omega
          have HP := Lib.hid (ts_peers2 ht15 a5 n c5 hn hr5)
          have HF15 := Lib.hid (HF6.out.keep hm15 (fun e => e))
          clear ht15 hn hr5 hm15 HT6 HF6
          go_wp2_with fail
          refine HP.out.mono ?_
          rintro e w16 ⟨a6, c6, rfl, hr6, _, ht16, hm16⟩
          have HT16 := Lib.hid ht16
          have HR16 := Lib.hid hr6
          have HF16 := Lib.hid (HF15.out.keep hm16 (fun e => e))
          clear ht16 hr6 hm16 HP HF15
          have x5 : decide ((M : Int) < (n : Int)) = false := by simp; omega
          have x6 : decide (M < n) = false := by simp; omega
          go_wp2_with fail
          refine (ts_len HT16.out n HN.out).mono ?_
          rintro e w17 ⟨rfl, ht17, hm17⟩
          have HT17 := Lib.hid ht17
          have HR17 := Lib.hid (HR16.out.keep hm17 (fun _ _ e => e))
          have HF17 := Lib.hid (HF16.out.keep hm17 (fun e => e))
          clear ht17 hm17 HT16 HR16 HF16
          go_wp2_with fail
          go_loopw [15] (fun iv wr => ∃ q : Nat, iv = .int .i64 ((q + 1 : Nat) : Int) ∧ (q = 0 ∨ q + 1 ≤ n) ∧ Mod (fun _ => False) w17 wr) (fun iv _ => n - (intOf iv).toNat)
          case atStart => exact ⟨0, rfl, .inl rfl, Mod.refl _ _⟩
          case round =>
            obtain ⟨q, rfl, hq, hmr⟩ := hrel
            obtain ⟨wo, hwo⟩ : ∃ y : World, y = wr := ⟨_, rfl⟩
            subst hwo
            have HMR := Lib.hid hmr
            clear hmr
            obtain ⟨q1, hq1⟩ : ∃ y, q + 1 = y := ⟨_, rfl⟩
            have HQ1 := Lib.hid hq1
            rw [hq1]
            by_cases hqn : q1 < n
            case neg =>
              have v0 : decide ((q1 : Int) < (n : Int)) = false := by simp; omega
              have v1 : decide (q1 < n) = false := by simpa using hqn
              clear hq1
              go_wp2_with fail
              go_roundw
              case rel => exact ⟨k + 1, _, _, _, hlt, by go_num, HT17.out.later HMR.out, HF17.out.keep HMR.out (fun e => e), HBI.out⟩
              case measure => simp [intOf]; omega
            case pos =>
              have v0 : decide ((q1 : Int) < (n : Int)) = true := by simp; omega
              have v1 : decide (q1 < n) = true := by simpa using hqn
              have hl9 : q + 1 < (liveI _).length := (by rw [liveI_len, HN.out]; omega : q + 1 < (liveI es).length)
              have hrise := liveI_rise _ q hl9
              have hro := HR17.out.keep HMR.out (fun _ _ e => e)
              obtain ⟨fb, fo, hpl, f0⟩ := rd1 hro q (by omega)
              obtain ⟨gb, go_, hpl2, f1⟩ := rd1 hro (q + 1) hl9
              have hix := fun wx => run_indexS (P := Try.prog) wx 70 3 iI 1 Try.underlying70 hiI hsI a6 n c6 q (by omega) (hro.some_ (by omega))
              have hix2 := fun wx => run_indexS (P := Try.prog) wx 70 3 iI 1 Try.underlying70 hiI hsI a6 n c6 (q + 1) (by omega) (hro.some_ (by omega))
              rw [hpl] at hix
              rw [hpl2, hq1] at hix2
              obtain ⟨u0, hu0⟩ : ∃ y, (liveI es)[q]'(by omega) = y := ⟨_, rfl⟩
              obtain ⟨u1, hu1⟩ : ∃ y, (liveI es)[q + 1] = y := ⟨_, rfl⟩
              rw [hu0] at f0 hrise
              rw [hu1] at f1 hrise
              have v2 : decide (u1 ≤ u0) = false := by simp; omega
              have hws : IntKind.i64.wrap ((q1 : Int) - 1) = (q : Int) := by rw [IntWalk.i64_in _ (by omega)]; omega
              have hws2 : (q1 : Int) - 1 = (q : Int) := by omega
              clear hpl hpl2 hu0 hu1 hrise hro hl9 hq1
              go_wp2_with fail
              go_quiet (fail)
              go_wp2_with fail
              go_roundw
              case rel => exact ⟨q1, by go_num, .inr (by omega), HMR.out.of2 (Mod.drewN _ _ _)⟩
              case measure => simp [intOf]; omega
        case pos =>
          have w0_ : decide ((k : Int) < (m1 : Int)) = true := by simp; omega
          have w1_ : decide (k < m1) = true := by simpa using hdk
          have hdl : k < ds.length := by rw [HDN.out]; exact hdk
          have hrw := HRW.out.keep HT6.out.md (fun _ _ e => e)
          obtain ⟨db, dO, hpd, d0⟩ := rd1 hrw k hdl
          have hixd := fun wx => run_indexS (P := Try.prog) wx 70 3 iI 1 Try.underlying70 hiI hsI a1 m1 c1 k hdk (hrw.some_ (by omega))
          rw [hpd] at hixd
          obtain ⟨d, hd⟩ : ∃ y, ds[k] = y := ⟨_, rfl⟩
          rw [hd] at d0
          clear hd hpd hrw
          by_cases h3 : d.tmod 3 = 0
          case neg =>
            have t0 : (d.tmod 3 == 0) = false := by simpa using h3
            go_wp2_with fail
            refine (ts_peers HT6.out).mono ?_
            rintro e w15 ⟨a5, n, c5, rfl, hn, hr5, ht15, hm15⟩
            have HN := Lib.hid hn
            have hnM : n ≤ M := by have := HBI.out.live; omega
            have HP := Lib.hid (ts_peers2 ht15 a5 n c5 hn hr5)
            have HF15 := Lib.hid (HF6.out.keep hm15 (fun e => e))
            clear ht15 hn hr5 hm15 HT6 HF6
            go_wp2_with fail
            refine HP.out.mono ?_
            rintro e w16 ⟨a6, c6, rfl, hr6, _, ht16, hm16⟩
            have HT16 := Lib.hid ht16
            have HR16 := Lib.hid hr6
            have HF16 := Lib.hid (HF15.out.keep hm16 (fun e => e))
            clear ht16 hr6 hm16 HP HF15
            have x5 : decide ((M : Int) < (n : Int)) = false := by simp; omega
            have x6 : decide (M < n) = false := by simp; omega
            go_wp2_with fail
            refine (ts_len HT16.out n HN.out).mono ?_
            rintro e w17 ⟨rfl, ht17, hm17⟩
            have HT17 := Lib.hid ht17
            have HR17 := Lib.hid (HR16.out.keep hm17 (fun _ _ e => e))
            have HF17 := Lib.hid (HF16.out.keep hm17 (fun e => e))
            clear ht17 hm17 HT16 HR16 HF16
            go_wp2_with fail
            go_loopw [15] (fun iv wr => ∃ q : Nat, iv = .int .i64 ((q + 1 : Nat) : Int) ∧ (q = 0 ∨ q + 1 ≤ n) ∧ Mod (fun _ => False) w17 wr) (fun iv _ => n - (intOf iv).toNat)
            case atStart => exact ⟨0, rfl, .inl rfl, Mod.refl _ _⟩
            case round =>
              obtain ⟨q, rfl, hq, hmr⟩ := hrel
              obtain ⟨wo, hwo⟩ : ∃ y : World, y = wr := ⟨_, rfl⟩
              subst hwo
              have HMR := Lib.hid hmr
              clear hmr
              obtain ⟨q1, hq1⟩ : ∃ y, q + 1 = y := ⟨_, rfl⟩
              have HQ1 := Lib.hid hq1
              rw [hq1]
              by_cases hqn : q1 < n
              case neg =>
                have v0 : decide ((q1 : Int) < (n : Int)) = false := by simp; omega
                have v1 : decide (q1 < n) = false := by simpa using hqn
                clear hq1
                go_wp2_with fail
                go_roundw
                case rel => exact ⟨k + 1, _, _, _, hlt, by go_num, HT17.out.later HMR.out, HF17.out.keep HMR.out (fun e => e), HBI.out⟩
                case measure => simp [intOf]; omega
              case pos =>
                have v0 : decide ((q1 : Int) < (n : Int)) = true := by simp; omega
                have v1 : decide (q1 < n) = true := by simpa using hqn
                have hl9 : q + 1 < (liveI _).length := (by rw [liveI_len, HN.out]; omega : q + 1 < (liveI es).length)
                have hrise := liveI_rise _ q hl9
                have hro := HR17.out.keep HMR.out (fun _ _ e => e)
                obtain ⟨fb, fo, hpl, f0⟩ := rd1 hro q (by omega)
                obtain ⟨gb, go_, hpl2, f1⟩ := rd1 hro (q + 1) hl9
                have hix := fun wx => run_indexS (P := Try.prog) wx 70 3 iI 1 Try.underlying70 hiI hsI a6 n c6 q (by omega) (hro.some_ (by omega))
                have hix2 := fun wx => run_indexS (P := Try.prog) wx 70 3 iI 1 Try.underlying70 hiI hsI a6 n c6 (q + 1) (by omega) (hro.some_ (by omega))
                rw [hpl] at hix
                rw [hpl2, hq1] at hix2
                obtain ⟨u0, hu0⟩ : ∃ y, (liveI es)[q]'(by omega) = y := ⟨_, rfl⟩
                obtain ⟨u1, hu1⟩ : ∃ y, (liveI es)[q + 1] = y := ⟨_, rfl⟩
                rw [hu0] at f0 hrise
                rw [hu1] at f1 hrise
                have v2 : decide (u1 ≤ u0) = false := by simp; omega
                have hws : IntKind.i64.wrap ((q1 : Int) - 1) = (q : Int) := by rw [IntWalk.i64_in _ (by omega)]; omega
                have hws2 : (q1 : Int) - 1 = (q : Int) := by omega
                clear hpl hpl2 hu0 hu1 hrise hro hl9 hq1
                go_wp2_with fail
                go_quiet (fail)
                go_wp2_with fail
                go_roundw
                case rel => exact ⟨q1, by go_num, .inr (by omega), HMR.out.of2 (Mod.drewN _ _ _)⟩
                case measure => simp [intOf]; omega
          case pos =>
            have t0 : (d.tmod 3 == 0) = true := by simpa using h3
            clear h3
            go_wp2_with fail
            refine (round_any d 16 _ (by omega) (by omega)).mono ?_
            rintro e w' ⟨rfl, rfl⟩
            obtain ⟨d1, hd1⟩ : ∃ y, d % 16 = y := ⟨_, rfl⟩
            rw [hd1]
            clear hd1
            have hal : Mod (fun _ => False) w6 (w6.alloc (.cells #[.int .i64 d1, .int .i64 (ip : Int)] 3)) := Mod.alloc _ _ _
            have HD := Lib.hid (tbdrop_any (HT6.out.later hal).tb _ 2 2 [d1, (ip : Int)] rfl (Rd.lit 3 [.int .i64 d1, .int .i64 (ip : Int)] (0, 0) _ 2 rfl rfl (by decide)) (by omega))
            have HTa := Lib.hid (HT6.out.later hal)
            have HFa := Lib.hid (HF6.out.keep hal (fun e => e))
            clear hal HT6 HF6
            go_wp2_with fail
            refine HD.out.mono ?_
            rintro e w12 ⟨xa, xc, rfl, _, htb, hm12⟩
            have HTb : Hid (TS w w12 p M (dropE es [d1, (ip : Int)]) gr) := Lib.hid (HTa.out.turn htb hm12)
            have hpm : p ≠ mb := HFa.out.ne HTa.out.tb.blk
            have HFb := Lib.hid (HFa.out.keep hm12 (fun e => hpm e.symm))
            have HBb := Lib.hid (HBI.out.drop [d1, (ip : Int)])
            clear htb hm12 HD HTa HFa
            have hgt : Calls Try.prog 40 #[.pointer (some ⟨p, 0, none⟩), .int .i64 (ip : Int), .int .i64 c] w12 fun e w' => e = .returned (.pointer none) ∧ w12 = w' := by
              have h := tbget_any HTb.out.tb (ip : Int) c
              have hd : dropE es [d1, (ip : Int)] ip = none := by unfold dropE; rw [if_pos (by simp)]
              rwa [show getV (dropE es [d1, (ip : Int)]) gr (ip : Int) c = .pointer none by unfold getV; split; (rw [Int.toNat_natCast, hd]; rfl); rfl] at h
            have HGT := Lib.hid hgt
            clear hgt
            go_wp2_with fail
            refine HGT.out.mono ?_
            rintro e w' ⟨rfl, rfl⟩
            go_wp2_with fail
            refine (ts_peers HTb.out).mono ?_
            rintro e w15 ⟨a5, n, c5, rfl, hn, hr5, ht15, hm15⟩
            have HN := Lib.hid hn
            have hnM : n ≤ M := by have := HBb.out.live; omega
            have HP := Lib.hid (ts_peers2 ht15 a5 n c5 hn hr5)
            have HF15 := Lib.hid (HFb.out.keep hm15 (fun e => e))
            clear ht15 hn hr5 hm15 HTb HFb
            go_wp2_with fail
            refine HP.out.mono ?_
            rintro e w16 ⟨a6, c6, rfl, hr6, _, ht16, hm16⟩
            have HT16 := Lib.hid ht16
            have HR16 := Lib.hid hr6
            have HF16 := Lib.hid (HF15.out.keep hm16 (fun e => e))
            clear ht16 hr6 hm16 HP HF15
            have x5 : decide ((M : Int) < (n : Int)) = false := by simp; omega
            have x6 : decide (M < n) = false := by simp; omega
            go_wp2_with fail
            refine (ts_len HT16.out n HN.out).mono ?_
            rintro e w17 ⟨rfl, ht17, hm17⟩
            have HT17 := Lib.hid ht17
            have HR17 := Lib.hid (HR16.out.keep hm17 (fun _ _ e => e))
            have HF17 := Lib.hid (HF16.out.keep hm17 (fun e => e))
            clear ht17 hm17 HT16 HR16 HF16
            go_wp2_with fail
            go_loopw [15] (fun iv wr => ∃ q : Nat, iv = .int .i64 ((q + 1 : Nat) : Int) ∧ (q = 0 ∨ q + 1 ≤ n) ∧ Mod (fun _ => False) w17 wr) (fun iv _ => n - (intOf iv).toNat)
            case atStart => exact ⟨0, rfl, .inl rfl, Mod.refl _ _⟩
            case round =>
              obtain ⟨q, rfl, hq, hmr⟩ := hrel
              obtain ⟨wo, hwo⟩ : ∃ y : World, y = wr := ⟨_, rfl⟩
              subst hwo
              have HMR := Lib.hid hmr
              clear hmr
              obtain ⟨q1, hq1⟩ : ∃ y, q + 1 = y := ⟨_, rfl⟩
              have HQ1 := Lib.hid hq1
              rw [hq1]
              by_cases hqn : q1 < n
              case neg =>
                have v0 : decide ((q1 : Int) < (n : Int)) = false := by simp; omega
                have v1 : decide (q1 < n) = false := by simpa using hqn
                clear hq1
                go_wp2_with fail
                go_roundw
                case rel => exact ⟨k + 1, _, _, _, hlt, by go_num, HT17.out.later HMR.out, HF17.out.keep HMR.out (fun e => e), HBb.out⟩
                case measure => simp [intOf]; omega
              case pos =>
                have v0 : decide ((q1 : Int) < (n : Int)) = true := by simp; omega
                have v1 : decide (q1 < n) = true := by simpa using hqn
                have hl9 : q + 1 < (liveI _).length := (by rw [liveI_len, HN.out]; omega : q + 1 < (liveI (dropE es [d1, (ip : Int)])).length)
                have hrise := liveI_rise _ q hl9
                have hro := HR17.out.keep HMR.out (fun _ _ e => e)
                obtain ⟨fb, fo, hpl, f0⟩ := rd1 hro q (by omega)
                obtain ⟨gb, go_, hpl2, f1⟩ := rd1 hro (q + 1) hl9
                have hix := fun wx => run_indexS (P := Try.prog) wx 70 3 iI 1 Try.underlying70 hiI hsI a6 n c6 q (by omega) (hro.some_ (by omega))
                have hix2 := fun wx => run_indexS (P := Try.prog) wx 70 3 iI 1 Try.underlying70 hiI hsI a6 n c6 (q + 1) (by omega) (hro.some_ (by omega))
                rw [hpl] at hix
                rw [hpl2, hq1] at hix2
                obtain ⟨u0, hu0⟩ : ∃ y, (liveI (dropE es [d1, (ip : Int)]))[q]'(by omega) = y := ⟨_, rfl⟩
                obtain ⟨u1, hu1⟩ : ∃ y, (liveI (dropE es [d1, (ip : Int)]))[q + 1] = y := ⟨_, rfl⟩
                rw [hu0] at f0 hrise
                rw [hu1] at f1 hrise
                have v2 : decide (u1 ≤ u0) = false := by simp; omega
                have hws : IntKind.i64.wrap ((q1 : Int) - 1) = (q : Int) := by rw [IntWalk.i64_in _ (by omega)]; omega
                have hws2 : (q1 : Int) - 1 = (q : Int) := by omega
                clear hpl hpl2 hu0 hu1 hrise hro hl9 hq1
                go_wp2_with fail
                go_quiet (fail)
                go_wp2_with fail
                go_roundw
                case rel => exact ⟨q1, by go_num, .inr (by omega), HMR.out.of2 (Mod.drewN _ _ _)⟩
                case measure => simp [intOf]; omega
      case pos =>
        subst hr0
        have HA := Lib.hid (ts_add HT5.out b ip hi c ch HB5.out hbp hr)
        have HBJ := Lib.hid (HBI.out.add hi hc2 hr (b, ch))
        have hfn : f (ip : Int) c = false := by
          cases h : f (ip : Int) c with
          | false => rfl
          | true =>
            obtain ⟨j, hj, hx, hz⟩ := HBI.out.was _ _ h
            obtain rfl : ip = j := by omega
            have := (mayC_zero hi hr).1
            omega
        have HFN := Lib.hid hfn
        clear hr hfn HT5 HB5
        go_wp2_with fail
        refine HA.out.mono ?_
        rintro e w6 ⟨rfl, ht6, hm6⟩
        have HT6 := Lib.hid ht6
        have hpm : p ≠ mb := HF5.out.ne HP5.out
        have HF6 := Lib.hid (HF5.out.keep hm6 (fun e => hpm e.symm))
        clear ht6 hm6 HA HF5
        have hlk := HF6.out.look1 (t := 112) Tb.arr Try.underlying3 Tb.rows Try.underlying112 Try.underlying4 (Tb.zeroB w6) (ip : Int) c ((i64_wf _).2 ⟨by omega, by omega⟩) ((i64_wf _).2 ⟨by omega, by omega⟩)
        rw [HFN.out] at hlk
        have hgt : Calls Try.prog 40 #[.pointer (some ⟨p, 0, none⟩), .int .i64 (ip : Int), .int .i64 c] w6 fun e w' => e = .returned (.pointer (some ⟨b, 0, none⟩)) ∧ w6 = w' := by
          have h := tbget_any HT6.out.tb (ip : Int) c
          rwa [show getV (updT es ip (some (b, ch))) (updT gr ip c) (ip : Int) c = .pointer (some ⟨b, 0, none⟩) by unfold getV; rw [Int.toNat_natCast, updT_at, updT_at, if_pos ⟨by omega, by omega, rfl⟩]; rfl] at h
        have HGT := Lib.hid hgt
        clear hgt
        obtain ⟨w7, hrun, hf7, hm7⟩ := HF6.out.store (t := 112) Tb.arr Try.underlying3 Tb.rows Try.underlying112 Try.underlying4 (by unfold maxLen; omega) (ip : Int) c true ((i64_wf _).2 ⟨by omega, by omega⟩) ((i64_wf _).2 ⟨by omega, by omega⟩)
        have ht7 : TS w w7 p M (updT es ip (some (b, ch))) (updT gr ip c) := ⟨HT6.out.tb.keep hm7 hpm (fun j hj b2 ch2 he h => HF6.out.ne (HT6.out.tb.ent j hj b2 ch2 he).1 h), HT6.out.lp, HT6.out.md.old hm7 (fun j hj => by rw [hj]; exact hlm)⟩
        have HT7 := Lib.hid ht7
        have HF7 := Lib.hid hf7
        clear ht7 hf7 hm7 HT6 HF6
        go_wp2_with fail
        refine HGT.out.mono ?_
        rintro e w' ⟨rfl, rfl⟩
        go_upto_region 16 with fail
        clear hrun hlk
        obtain ⟨es2, hes2⟩ : ∃ y, updT es ip (some (b, ch)) = y := ⟨_, rfl⟩
        obtain ⟨gr2, hgr2⟩ : ∃ y, updT gr ip c = y := ⟨_, rfl⟩
        obtain ⟨f2, hf2⟩ : ∃ y, (fun x' y' => if x' = (ip : Int) ∧ y' = c then true else f x' y') = y := ⟨_, rfl⟩
        rw [hes2, hgr2] at HT7 HBJ
        rw [hf2] at HF7 HBJ
        clear hes2 hgr2 hf2
        by_cases hdk : k < m1
        case neg =>
          have w0_ : decide ((k : Int) < (m1 : Int)) = false := by simp; omega
          have w1_ : decide (k < m1) = false := by simpa using hdk
          go_wp2_with fail
          refine (ts_peers HT7.out).mono ?_
          rintro e w15 ⟨a5, n, c5, rfl, hn, hr5, ht15, hm15⟩
          have HN := Lib.hid hn
          have hnM : n ≤ M := by have := HBJ.out.live; omega
          have HP := Lib.hid (ts_peers2 ht15 a5 n c5 hn hr5)
          have HF15 := Lib.hid (HF7.out.keep hm15 (fun e => e))
          clear ht15 hn hr5 hm15 HT7 HF7
          go_wp2_with fail
          refine HP.out.mono ?_
          rintro e w16 ⟨a6, c6, rfl, hr6, _, ht16, hm16⟩
          have HT16 := Lib.hid ht16
          have HR16 := Lib.hid hr6
          have HF16 := Lib.hid (HF15.out.keep hm16 (fun e => e))
          clear ht16 hr6 hm16 HP HF15
          have x5 : decide ((M : Int) < (n : Int)) = false := by simp; omega
          have x6 : decide (M < n) = false := by simp; omega
          go_wp2_with fail
          refine (ts_len HT16.out n HN.out).mono ?_
          rintro e w17 ⟨rfl, ht17, hm17⟩
          have HT17 := Lib.hid ht17
          have HR17 := Lib.hid (HR16.out.keep hm17 (fun _ _ e => e))
          have HF17 := Lib.hid (HF16.out.keep hm17 (fun e => e))
          clear ht17 hm17 HT16 HR16 HF16
          go_wp2_with fail
          go_loopw [15] (fun iv wr => ∃ q : Nat, iv = .int .i64 ((q + 1 : Nat) : Int) ∧ (q = 0 ∨ q + 1 ≤ n) ∧ Mod (fun _ => False) w17 wr) (fun iv _ => n - (intOf iv).toNat)
          case atStart => exact ⟨0, rfl, .inl rfl, Mod.refl _ _⟩
          case round =>
            obtain ⟨q, rfl, hq, hmr⟩ := hrel
            obtain ⟨wo, hwo⟩ : ∃ y : World, y = wr := ⟨_, rfl⟩
            subst hwo
            have HMR := Lib.hid hmr
            clear hmr
            obtain ⟨q1, hq1⟩ : ∃ y, q + 1 = y := ⟨_, rfl⟩
            have HQ1 := Lib.hid hq1
            rw [hq1]
            by_cases hqn : q1 < n
            case neg =>
              have v0 : decide ((q1 : Int) < (n : Int)) = false := by simp; omega
              have v1 : decide (q1 < n) = false := by simpa using hqn
              clear hq1
              go_wp2_with fail
              go_roundw
              case rel => exact ⟨k + 1, _, _, _, hlt, by go_num, HT17.out.later HMR.out, HF17.out.keep HMR.out (fun e => e), HBJ.out⟩
              case measure => simp [intOf]; omega
            case pos =>
              have v0 : decide ((q1 : Int) < (n : Int)) = true := by simp; omega
              have v1 : decide (q1 < n) = true := by simpa using hqn
              have hl9 : q + 1 < (liveI _).length := (by rw [liveI_len, HN.out]; omega : q + 1 < (liveI es2).length)
              have hrise := liveI_rise _ q hl9
              have hro := HR17.out.keep HMR.out (fun _ _ e => e)
              obtain ⟨fb, fo, hpl, f0⟩ := rd1 hro q (by omega)
              obtain ⟨gb, go_, hpl2, f1⟩ := rd1 hro (q + 1) hl9
              have hix := fun wx => run_indexS (P := Try.prog) wx 70 3 iI 1 Try.underlying70 hiI hsI a6 n c6 q (by omega) (hro.some_ (by omega))
              have hix2 := fun wx => run_indexS (P := Try.prog) wx 70 3 iI 1 Try.underlying70 hiI hsI a6 n c6 (q + 1) (by omega) (hro.some_ (by omega))
              rw [hpl] at hix
              rw [hpl2, hq1] at hix2
              obtain ⟨u0, hu0⟩ : ∃ y, (liveI es2)[q]'(by omega) = y := ⟨_, rfl⟩
              obtain ⟨u1, hu1⟩ : ∃ y, (liveI es2)[q + 1] = y := ⟨_, rfl⟩
              rw [hu0] at f0 hrise
              rw [hu1] at f1 hrise
              have v2 : decide (u1 ≤ u0) = false := by simp; omega
              have hws : IntKind.i64.wrap ((q1 : Int) - 1) = (q : Int) := by rw [IntWalk.i64_in _ (by omega)]; omega
              have hws2 : (q1 : Int) - 1 = (q : Int) := by omega
              clear hpl hpl2 hu0 hu1 hrise hro hl9 hq1
              go_wp2_with fail
              go_quiet (fail)
              go_wp2_with fail
              go_roundw
              case rel => exact ⟨q1, by go_num, .inr (by omega), HMR.out.of2 (Mod.drewN _ _ _)⟩
              case measure => simp [intOf]; omega
        case pos =>
          have w0_ : decide ((k : Int) < (m1 : Int)) = true := by simp; omega
          have w1_ : decide (k < m1) = true := by simpa using hdk
          have hdl : k < ds.length := by rw [HDN.out]; exact hdk
          have hrw := HRW.out.keep HT7.out.md (fun _ _ e => e)
          obtain ⟨db, dO, hpd, d0⟩ := rd1 hrw k hdl
          have hixd := fun wx => run_indexS (P := Try.prog) wx 70 3 iI 1 Try.underlying70 hiI hsI a1 m1 c1 k hdk (hrw.some_ (by omega))
          rw [hpd] at hixd
          obtain ⟨d, hd⟩ : ∃ y, ds[k] = y := ⟨_, rfl⟩
          rw [hd] at d0
          clear hd hpd hrw
          by_cases h3 : d.tmod 3 = 0
          case neg =>
            have t0 : (d.tmod 3 == 0) = false := by simpa using h3
            go_wp2_with fail
            refine (ts_peers HT7.out).mono ?_
            rintro e w15 ⟨a5, n, c5, rfl, hn, hr5, ht15, hm15⟩
            have HN := Lib.hid hn
            have hnM : n ≤ M := by have := HBJ.out.live; omega
            have HP := Lib.hid (ts_peers2 ht15 a5 n c5 hn hr5)
            have HF15 := Lib.hid (HF7.out.keep hm15 (fun e => e))
            clear ht15 hn hr5 hm15 HT7 HF7
            go_wp2_with fail
            refine HP.out.mono ?_
            rintro e w16 ⟨a6, c6, rfl, hr6, _, ht16, hm16⟩
            have HT16 := Lib.hid ht16
            have HR16 := Lib.hid hr6
            have HF16 := Lib.hid (HF15.out.keep hm16 (fun e => e))
            clear ht16 hr6 hm16 HP HF15
            have x5 : decide ((M : Int) < (n : Int)) = false := by simp; omega
            have x6 : decide (M < n) = false := by simp; omega
            go_wp2_with fail
            refine (ts_len HT16.out n HN.out).mono ?_
            rintro e w17 ⟨rfl, ht17, hm17⟩
            have HT17 := Lib.hid ht17
            have HR17 := Lib.hid (HR16.out.keep hm17 (fun _ _ e => e))
            have HF17 := Lib.hid (HF16.out.keep hm17 (fun e => e))
            clear ht17 hm17 HT16 HR16 HF16
            go_wp2_with fail
            go_loopw [15] (fun iv wr => ∃ q : Nat, iv = .int .i64 ((q + 1 : Nat) : Int) ∧ (q = 0 ∨ q + 1 ≤ n) ∧ Mod (fun _ => False) w17 wr) (fun iv _ => n - (intOf iv).toNat)
            case atStart => exact ⟨0, rfl, .inl rfl, Mod.refl _ _⟩
            case round =>
              obtain ⟨q, rfl, hq, hmr⟩ := hrel
              obtain ⟨wo, hwo⟩ : ∃ y : World, y = wr := ⟨_, rfl⟩
              subst hwo
              have HMR := Lib.hid hmr
              clear hmr
              obtain ⟨q1, hq1⟩ : ∃ y, q + 1 = y := ⟨_, rfl⟩
              have HQ1 := Lib.hid hq1
              rw [hq1]
              by_cases hqn : q1 < n
              case neg =>
                have v0 : decide ((q1 : Int) < (n : Int)) = false := by simp; omega
                have v1 : decide (q1 < n) = false := by simpa using hqn
                clear hq1
                go_wp2_with fail
                go_roundw
                case rel => exact ⟨k + 1, _, _, _, hlt, by go_num, HT17.out.later HMR.out, HF17.out.keep HMR.out (fun e => e), HBJ.out⟩
                case measure => simp [intOf]; omega
              case pos =>
                have v0 : decide ((q1 : Int) < (n : Int)) = true := by simp; omega
                have v1 : decide (q1 < n) = true := by simpa using hqn
                have hl9 : q + 1 < (liveI _).length := (by rw [liveI_len, HN.out]; omega : q + 1 < (liveI es2).length)
                have hrise := liveI_rise _ q hl9
                have hro := HR17.out.keep HMR.out (fun _ _ e => e)
                obtain ⟨fb, fo, hpl, f0⟩ := rd1 hro q (by omega)
                obtain ⟨gb, go_, hpl2, f1⟩ := rd1 hro (q + 1) hl9
                have hix := fun wx => run_indexS (P := Try.prog) wx 70 3 iI 1 Try.underlying70 hiI hsI a6 n c6 q (by omega) (hro.some_ (by omega))
                have hix2 := fun wx => run_indexS (P := Try.prog) wx 70 3 iI 1 Try.underlying70 hiI hsI a6 n c6 (q + 1) (by omega) (hro.some_ (by omega))
                rw [hpl] at hix
                rw [hpl2, hq1] at hix2
                obtain ⟨u0, hu0⟩ : ∃ y, (liveI es2)[q]'(by omega) = y := ⟨_, rfl⟩
                obtain ⟨u1, hu1⟩ : ∃ y, (liveI es2)[q + 1] = y := ⟨_, rfl⟩
                rw [hu0] at f0 hrise
                rw [hu1] at f1 hrise
                have v2 : decide (u1 ≤ u0) = false := by simp; omega
                have hws : IntKind.i64.wrap ((q1 : Int) - 1) = (q : Int) := by rw [IntWalk.i64_in _ (by omega)]; omega
                have hws2 : (q1 : Int) - 1 = (q : Int) := by omega
                clear hpl hpl2 hu0 hu1 hrise hro hl9 hq1
                go_wp2_with fail
                go_quiet (fail)
                go_wp2_with fail
                go_roundw
                case rel => exact ⟨q1, by go_num, .inr (by omega), HMR.out.of2 (Mod.drewN _ _ _)⟩
                case measure => simp [intOf]; omega
          case pos =>
            have t0 : (d.tmod 3 == 0) = true := by simpa using h3
            clear h3
            go_wp2_with fail
            refine (round_any d 16 _ (by omega) (by omega)).mono ?_
            rintro e w' ⟨rfl, rfl⟩
            obtain ⟨d1, hd1⟩ : ∃ y, d % 16 = y := ⟨_, rfl⟩
            rw [hd1]
            clear hd1
            have hal : Mod (fun _ => False) w7 (w7.alloc (.cells #[.int .i64 d1, .int .i64 (ip : Int)] 3)) := Mod.alloc _ _ _
            have HD := Lib.hid (tbdrop_any (HT7.out.later hal).tb _ 2 2 [d1, (ip : Int)] rfl (Rd.lit 3 [.int .i64 d1, .int .i64 (ip : Int)] (0, 0) _ 2 rfl rfl (by decide)) (by omega))
            have HTa := Lib.hid (HT7.out.later hal)
            have HFa := Lib.hid (HF7.out.keep hal (fun e => e))
            clear hal HT7 HF7
            go_wp2_with fail
            refine HD.out.mono ?_
            rintro e w12 ⟨xa, xc, rfl, _, htb, hm12⟩
            have HTb : Hid (TS w w12 p M (dropE es2 [d1, (ip : Int)]) gr2) := Lib.hid (HTa.out.turn htb hm12)
            have hpm : p ≠ mb := HFa.out.ne HTa.out.tb.blk
            have HFb := Lib.hid (HFa.out.keep hm12 (fun e => hpm e.symm))
            have HBb := Lib.hid (HBJ.out.drop [d1, (ip : Int)])
            clear htb hm12 HD HTa HFa
            have hgt : Calls Try.prog 40 #[.pointer (some ⟨p, 0, none⟩), .int .i64 (ip : Int), .int .i64 c] w12 fun e w' => e = .returned (.pointer none) ∧ w12 = w' := by
              have h := tbget_any HTb.out.tb (ip : Int) c
              have hd : dropE es2 [d1, (ip : Int)] ip = none := by unfold dropE; rw [if_pos (by simp)]
              rwa [show getV (dropE es2 [d1, (ip : Int)]) gr2 (ip : Int) c = .pointer none by unfold getV; split; (rw [Int.toNat_natCast, hd]; rfl); rfl] at h
            have HGT := Lib.hid hgt
            clear hgt
            go_wp2_with fail
            refine HGT.out.mono ?_
            rintro e w' ⟨rfl, rfl⟩
            go_wp2_with fail
            refine (ts_peers HTb.out).mono ?_
            rintro e w15 ⟨a5, n, c5, rfl, hn, hr5, ht15, hm15⟩
            have HN := Lib.hid hn
            have hnM : n ≤ M := by have := HBb.out.live; omega
            have HP := Lib.hid (ts_peers2 ht15 a5 n c5 hn hr5)
            have HF15 := Lib.hid (HFb.out.keep hm15 (fun e => e))
            clear ht15 hn hr5 hm15 HTb HFb
            go_wp2_with fail
            refine HP.out.mono ?_
            rintro e w16 ⟨a6, c6, rfl, hr6, _, ht16, hm16⟩
            have HT16 := Lib.hid ht16
            have HR16 := Lib.hid hr6
            have HF16 := Lib.hid (HF15.out.keep hm16 (fun e => e))
            clear ht16 hr6 hm16 HP HF15
            have x5 : decide ((M : Int) < (n : Int)) = false := by simp; omega
            have x6 : decide (M < n) = false := by simp; omega
            go_wp2_with fail
            refine (ts_len HT16.out n HN.out).mono ?_
            rintro e w17 ⟨rfl, ht17, hm17⟩
            have HT17 := Lib.hid ht17
            have HR17 := Lib.hid (HR16.out.keep hm17 (fun _ _ e => e))
            have HF17 := Lib.hid (HF16.out.keep hm17 (fun e => e))
            clear ht17 hm17 HT16 HR16 HF16
            go_wp2_with fail
            go_loopw [15] (fun iv wr => ∃ q : Nat, iv = .int .i64 ((q + 1 : Nat) : Int) ∧ (q = 0 ∨ q + 1 ≤ n) ∧ Mod (fun _ => False) w17 wr) (fun iv _ => n - (intOf iv).toNat)
            case atStart => exact ⟨0, rfl, .inl rfl, Mod.refl _ _⟩
            case round =>
              obtain ⟨q, rfl, hq, hmr⟩ := hrel
              obtain ⟨wo, hwo⟩ : ∃ y : World, y = wr := ⟨_, rfl⟩
              subst hwo
              have HMR := Lib.hid hmr
              clear hmr
              obtain ⟨q1, hq1⟩ : ∃ y, q + 1 = y := ⟨_, rfl⟩
              have HQ1 := Lib.hid hq1
              rw [hq1]
              by_cases hqn : q1 < n
              case neg =>
                have v0 : decide ((q1 : Int) < (n : Int)) = false := by simp; omega
                have v1 : decide (q1 < n) = false := by simpa using hqn
                clear hq1
                go_wp2_with fail
                go_roundw
                case rel => exact ⟨k + 1, _, _, _, hlt, by go_num, HT17.out.later HMR.out, HF17.out.keep HMR.out (fun e => e), HBb.out⟩
                case measure => simp [intOf]; omega
              case pos =>
                have v0 : decide ((q1 : Int) < (n : Int)) = true := by simp; omega
                have v1 : decide (q1 < n) = true := by simpa using hqn
                have hl9 : q + 1 < (liveI _).length := (by rw [liveI_len, HN.out]; omega : q + 1 < (liveI (dropE es2 [d1, (ip : Int)])).length)
                have hrise := liveI_rise _ q hl9
                have hro := HR17.out.keep HMR.out (fun _ _ e => e)
                obtain ⟨fb, fo, hpl, f0⟩ := rd1 hro q (by omega)
                obtain ⟨gb, go_, hpl2, f1⟩ := rd1 hro (q + 1) hl9
                have hix := fun wx => run_indexS (P := Try.prog) wx 70 3 iI 1 Try.underlying70 hiI hsI a6 n c6 q (by omega) (hro.some_ (by omega))
                have hix2 := fun wx => run_indexS (P := Try.prog) wx 70 3 iI 1 Try.underlying70 hiI hsI a6 n c6 (q + 1) (by omega) (hro.some_ (by omega))
                rw [hpl] at hix
                rw [hpl2, hq1] at hix2
                obtain ⟨u0, hu0⟩ : ∃ y, (liveI (dropE es2 [d1, (ip : Int)]))[q]'(by omega) = y := ⟨_, rfl⟩
                obtain ⟨u1, hu1⟩ : ∃ y, (liveI (dropE es2 [d1, (ip : Int)]))[q + 1] = y := ⟨_, rfl⟩
                rw [hu0] at f0 hrise
                rw [hu1] at f1 hrise
                have v2 : decide (u1 ≤ u0) = false := by simp; omega
                have hws : IntKind.i64.wrap ((q1 : Int) - 1) = (q : Int) := by rw [IntWalk.i64_in _ (by omega)]; omega
                have hws2 : (q1 : Int) - 1 = (q : Int) := by omega
                clear hpl hpl2 hu0 hu1 hrise hro hl9 hq1
                go_wp2_with fail
                go_quiet (fail)
                go_wp2_with fail
                go_roundw
                case rel => exact ⟨q1, by go_num, .inr (by omega), HMR.out.of2 (Mod.drewN _ _ _)⟩
                case measure => simp [intOf]; omega
theorem tlbounds_law (w : World) (mv : Int) (_ : (Lit.int .i64 mv).wf = true) (a0 : Option Addr) (m c0 : Nat) (l : List (Int × Int)) (ok : (encSlice (encPair (encInt .i64) (encInt .i64))).ok w (.slice a0 m c0, l)) (a1 : Option Addr) (m1 c1 : Nat) (ds : List Int) (ok1 : (encSlice (encInt .i64)).ok w (.slice a1 m1 c1, ds)) :
    Calls Try.prog 8 #[.int .i64 mv, .slice a0 m c0, .slice a1 m1 c1] w fun e w' => e = .returned (.bool true) ∧ Below w.heap.size w w' := by
  obtain ⟨hr, _⟩ := ok
  have hr' : Rd w 2 (.slice a0 m c0) l.length (l.flatMap c2Q) := hr
  have hn := hr'.len_eq
  subst hn
  obtain ⟨hn1, hr1, _⟩ := ok_ints ok1
  exact (tlbounds_all w mv a0 _ c0 l rfl hr' a1 m1 c1 ds hn1 hr1).mono fun e w' h => ⟨h.1, h.2.below (Nat.le_refl _) (fun _ e => e.elim)⟩
end Go.Proofs.Ytfdmjnhhgcidbaa
