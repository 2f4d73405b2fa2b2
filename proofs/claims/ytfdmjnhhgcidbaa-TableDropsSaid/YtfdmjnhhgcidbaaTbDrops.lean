/- TableDrops by contract. -/
import Derived.Test.YtfdmjnhhgcidbaaTbD
namespace Go.Proofs.Ytfdmjnhhgcidbaa
open Go.RowKit Mile
set_option maxRecDepth 100000
/-- The numbers that are to leave. -/
def outL (ds : List Int) (k : Nat) : List Int := (ds.take k).map fun d => d % 20 - 2
theorem outL_succ (ds : List Int) (k : Nat) (h : k < ds.length) : outL ds (k + 1) = outL ds k ++ [ds[k] % 20 - 2] := by
  unfold outL; rw [List.take_succ_eq_append_getElem h, List.map_append]; rfl
theorem outL_len (ds : List Int) (k : Nat) (h : k ≤ ds.length) : (outL ds k).length = k := by unfold outL; simp; omega
set_option maxHeartbeats 64000000 in
theorem tldrops_all (w : World) (a0 : Option Addr) (m c0 : Nat) (l : List (Int × Int)) (hm : l.length = m) (hr : Rd w 2 (.slice a0 m c0) m (l.flatMap c2Q)) (a1 : Option Addr) (m1 c1 : Nat) (ds : List Int) (hm1 : ds.length = m1) (hr1 : Rd w 1 (.slice a1 m1 c1) m1 (ds.map (Value.int .i64))) :
    Calls Try.prog 10 #[.slice a0 m c0, .slice a1 m1 c1] w fun e w' => e = .returned (.bool true) ∧ Mod (fun _ => False) w w' := by
  by_cases hno : ¬ (m ≤ 40 ∧ m1 ≤ 30)
  case pos =>
    clear hr hm hr1 hm1
    have hend : ∀ (b0 b1 : Bool), decide (40 < (m : Int)) = b0 → decide (30 < (m1 : Int)) = b1 → (b0 || b1) = true →
        Calls Try.prog 10 #[.slice a0 m c0, .slice a1 m1 c1] w fun e w' => e = .returned (.bool true) ∧ Mod (fun _ => False) w w' := by
      intro b0 b1 hc0 hc1 hbb
      clear hno
      cases b0
      · skip
        cases b1
        · cases hbb
        · clear hbb 
          go_enter Try.func10, Try.ntmps10
          go_wp2_with fail
          refine (awake29_any _).mono ?_
          rintro e w9 ⟨rfl, hm9⟩
          go_wp2_with fail
          go_ret
          exact ⟨rfl, hm9⟩
      · clear hbb hc1
        go_enter Try.func10, Try.ntmps10
        go_wp2_with fail
        refine (awake29_any _).mono ?_
        rintro e w9 ⟨rfl, hm9⟩
        go_wp2_with fail
        go_ret
        exact ⟨rfl, hm9⟩
    refine hend _ _ rfl rfl ?_
    simp only [Bool.or_eq_true, decide_eq_true_eq]
    omega
  case neg =>
  obtain ⟨iI, hiI, hzI, hsI, hbI⟩ := info_parts Tb.infoI
  obtain ⟨iE, hiE, hzE, hsE, hbE⟩ := info_parts Tb.infoE
  obtain ⟨iP, hiP, hzP, hsP, hbP⟩ := info_parts Tb.infoP
  have hyes := Decidable.not_not.1 hno
  clear hno
  have hm40 : m ≤ 40 := by omega
  have hm30 : m1 ≤ 30 := by omega
  clear hyes
  have z0 : decide (40 < (m : Int)) = false := by simp; omega
  have z1 : decide (40 < m) = false := by simp; omega
  have z2 : decide (30 < (m1 : Int)) = false := by simp; omega
  have z3 : decide (30 < m1) = false := by simp; omega
  have HLN := Lib.hid hm
  have HRD := Lib.hid hr
  have HDN := Lib.hid hm1
  have HRW := Lib.hid hr1
  clear hm hr hm1 hr1
  have hnew : Calls Try.prog 30 #[.int .i64 16] w _ := tbnew_any w 16 (by omega) (by omega)
  have HNW := Lib.hid hnew
  clear hnew
  go_enter Try.func10, Try.ntmps10
  go_wp2_with fail
  refine HNW.out.mono ?_
  rintro e w1 ⟨p, rfl, ht, hp, hm1⟩
  have HT1 : Hid (TS w w1 p 16 (fun _ => none) (fun _ => 0)) := Lib.hid ⟨ht, hp, hm1⟩
  clear ht hp hm1 HNW
  obtain ⟨mb, hmb⟩ : ∃ y, w1.heap.size = y := ⟨_, rfl⟩
  obtain ⟨wA, hwA⟩ : ∃ y, w1.alloc (.map #[] 0) = y := ⟨_, rfl⟩
  have HF2 : Hid (IMap Try.prog 3 3 wA mb (fun _ => none)) := Lib.hid (by rw [← hwA, ← hmb]; exact IMap.made w1)
  have HT2 : Hid (TS w wA p 16 (fun _ => none) (fun _ => 0)) := Lib.hid (HT1.out.later (by rw [← hwA]; exact Mod.alloc _ _ _))
  have hlm : w.heap.size ≤ mb := by rw [← hmb]; exact HT1.out.md.size
  clear HT1
  have hmm := @run_makeMap Try.prog
  go_upto_region 7 with fail
  (try rw [hwA])
  (try rw [hmb])
  clear hwA hmb hmm
  go_wp2_with fail
  go_loopw [8] (fun i wr => ∃ (j : Nat) (es : Nat → TbE) (gr : Nat → Int) (f : Int → Option Int), j ≤ m ∧ i = .int .i64 j ∧ TS w wr p 16 es gr ∧ IMap Try.prog 3 3 wr mb f ∧ ThF es gr f ∧ ∀ x, x < 16 → gr x ≤ (j : Int)) (fun i _ => m - (intOf i).toNat)
  case atStart => exact ⟨0, _, _, _, by omega, rfl, HT2.out, HF2.out, ThF.nil, fun _ _ => by show (0 : Int) ≤ ((0 : Nat) : Int); omega⟩
  case round =>
    obtain ⟨k, es, gr, f, hk, rfl, ht, hf, hth, hgm⟩ := hrel
    obtain ⟨wp, hwp⟩ : ∃ y : World, y = wr := ⟨_, rfl⟩
    subst hwp
    have HT3 := Lib.hid ht
    have HF3 := Lib.hid hf
    have HTF := Lib.hid hth
    have HGM := Lib.hid hgm
    clear ht hf hth hgm HT2 HF2
    by_cases hlt : k < m
    case pos =>
      have y2 : decide ((k : Int) < (m : Int)) = true := by simp; omega
      have y3 : decide (k < m) = true := by simpa using hlt
      have hkl : k < l.length := by rw [HLN.out]; exact hlt
      obtain ⟨eb, eo, hpl, e0, e1⟩ := rd2q (HRD.out.keep HT3.out.md (fun _ _ e => e)) HLN.out k hkl
      have hix := fun wx => run_indexS (P := Try.prog) wx 65 68 iP 2 Try.underlying65 hiP hsP a0 m c0 k hlt (HRD.out.some_ (by omega))
      rw [hpl] at hix
      obtain ⟨x, hx⟩ : ∃ y, l[k].1 = y := ⟨_, rfl⟩
      rw [hx] at e0
      clear hx hpl e1
      have hx0 := Int.emod_nonneg x (b := 16) (by omega)
      have hx1 := Int.emod_lt_of_pos x (b := 16) (by omega)
      go_wp2_with fail
      refine (round_any x 16 _ (by omega) (by omega)).mono ?_
      rintro e w' ⟨rfl, rfl⟩
      obtain ⟨ip, hip⟩ := Int.eq_ofNat_of_zero_le hx0
      rw [hip] at hx1 ⊢
      have hi : ip < 16 := by omega
      obtain ⟨c, hc⟩ : ∃ c, k + 1 = c := ⟨_, rfl⟩
      have hwc : IntKind.i64.wrap (1 + (k : Int)) = (c : Int) := by rw [IntWalk.i64_in _ (by omega)]; omega
      have hwc2 : 1 + (k : Int) = (c : Int) := by omega
      clear hip hx0 hx1 e0 hix
      go_wp2_with fail
      refine (ts_entry HT3.out (ip : Int) (c : Int)).mono ?_
      rintro e w4 ⟨b, ch, rfl, hb, hbp, ht4, hm4⟩
      have hmay : mayC 16 es gr (ip : Int) (c : Int) = 0 := mayC_ok hi (by omega) (by omega) (by have := HGM.out ip hi; omega) (by cases h : es ip with | none => exact .inl (liveN_room hi h) | some y => exact .inr (by simp))
      have HA := Lib.hid (ts_add ht4 b ip hi (c : Int) ch hb hbp hmay)
      have HF4 := Lib.hid (HF3.out.keep hm4 (fun e => e))
      have HP4 := Lib.hid ht4.tb.blk
      clear hb ht4 hm4 hmay HT3 HF3
      go_wp2_with fail
      refine HA.out.mono ?_
      rintro e w5 ⟨rfl, ht5, hm5⟩
      have hpm : p ≠ mb := imap_ne HF4.out HP4.out
      have HF5 := Lib.hid (HF4.out.keep hm5 (fun e => hpm e.symm))
      have HT5 := Lib.hid ht5
      clear ht5 hm5 HA HF4 HP4
      obtain ⟨w6, hrun, hf6, hm6⟩ := HF5.out.store Try.underlying115 Try.underlying3 Try.underlying3 (liveI es) (fun j hj => (HTF.out.keys j).1 hj) (by rw [liveI_len]; have := liveN_len es 16; unfold maxLen; omega) (ip : Int) (c : Int) ((i64_wf _).2 ⟨by omega, by omega⟩) ((i64_wf _).2 ⟨by omega, by omega⟩)
      have ht6 : TS w w6 p 16 (updT es ip (some (b, ch))) (updT gr ip (c : Int)) := ⟨HT5.out.tb.keep hm6 hpm (fun j hj b2 ch2 he h => imap_ne HF5.out (HT5.out.tb.ent j hj b2 ch2 he).1 h), HT5.out.lp, HT5.out.md.old hm6 (fun j hj => by rw [hj]; exact hlm)⟩
      have HT6 := Lib.hid ht6
      have HF6 := Lib.hid hf6
      clear ht6 hf6 hm6 HT5 HF5
      go_wp2_with fail
      go_roundw
      case rel => exact ⟨k + 1, _, _, _, hlt, by go_num, HT6.out, HF6.out, HTF.out.put hi (c : Int) (b, ch), fun y hy => by by_cases e : y = ip; (subst e; rw [updT_at]; omega); (rw [updT_ne _ _ e]; have := HGM.out y hy; omega)⟩
      case measure => simp [intOf]; omega
    case neg =>
      have y2 : decide ((k : Int) < (m : Int)) = false := by simp; omega
      have y3 : decide (k < m) = false := by simpa using hlt
      skip
      go_wp2_with fail
      obtain ⟨B0, hB0⟩ : ∃ y, wp.heap.size = y := ⟨_, rfl⟩
      have HB0 := Lib.hid hB0
      clear hB0
      go_loopw [11, 12] (fun v iv wr => ∃ (q : Nat) (a : Option Addr) (c : Nat), q ≤ m1 ∧ iv = .int .i64 q ∧ v = .slice a q c ∧ World.ownsRow wr B0 3 1 (.slice a q c) q ((outL ds q).map (Value.int .i64)) ∧ Mod (fun _ => False) wp wr) (fun _ iv _ => m1 - (intOf iv).toNat)
      case atStart => exact ⟨0, none, 0, by omega, rfl, rfl, World.ownsRow_nil _ _ _ _, Mod.refl _ _⟩
      case round =>
        obtain ⟨q, a, c, hq, rfl, rfl, ho, hmr⟩ := hrel
        obtain ⟨wo, hwo⟩ : ∃ y : World, y = wr := ⟨_, rfl⟩
        subst hwo
        have HO := Lib.hid ho
        have HMR := Lib.hid hmr
        clear ho hmr
        by_cases hqm : q < m1
        case pos =>
          have v0 : decide ((q : Int) < (m1 : Int)) = true := by simp; omega
          have v1 : decide (q < m1) = true := by simpa using hqm
          have hql : q < ds.length := by rw [HDN.out]; exact hqm
          have hro := HRW.out.keep (HT3.out.md.of2 HMR.out) (fun _ _ e => e)
          obtain ⟨fb, fo, hpl, f0⟩ := rd1 hro q hql
          have hix := fun wx => run_indexS (P := Try.prog) wx 70 3 iI 1 Try.underlying70 hiI hsI a1 m1 c1 q hqm (hro.some_ (by omega))
          rw [hpl] at hix
          obtain ⟨d, hd⟩ : ∃ y, ds[q] = y := ⟨_, rfl⟩
          have hos := outL_succ ds q hql
          rw [hd] at f0 hos
          have HOS := Lib.hid hos
          clear hpl hd hos hro
          go_wp2_with fail
          refine (round_any d 20 _ (by omega) (by omega)).mono ?_
          rintro e w' ⟨rfl, rfl⟩
          have hd0 := Int.emod_nonneg d (b := 20) (by omega)
          have hd1 := Int.emod_lt_of_pos d (b := 20) (by omega)
          have hwd : IntKind.i64.wrap (d % 20 - 2) = d % 20 - 2 := IntWalk.i64_in _ (by omega)
          obtain ⟨dv, hdv⟩ : ∃ y, d % 20 = y := ⟨_, rfl⟩
          rw [hdv] at hwd HOS ⊢
          clear hdv hd0 hd1 f0 hix
          go_wp2_with (at_builtin; refine wpList_append_any rfl (.tmp 69) (.tmp 76) 70 rfl 3 iI (.int .i64 0) 1 8 Try.underlying70 hiI hzI hsI hbI rfl (by decide) _ q _ rfl (World.ownsRow.alloc (Own.base HO.out (Nat.zero_le _)) _) _ 1 [.int .i64 (dv - 2)] rfl (Rd.lit 3 [.int .i64 (dv - 2)] (0, 0) wo.heap.size 1 rfl rfl (by decide)) (by intro u hu; simp at hu; subst hu; rfl) (by unfold maxLen; omega) (by omega) ?_; intro v4 w4 hap)
          obtain ⟨a4, c4, rfl⟩ := hap.form
          have hsz := HMR.out.size
          have ho4 := hap.own
          have lo4 := hap.low (B := B0) (by have := HB0.out; simp; omega) (fun k hk => (HO.out.lt k hk).1)
          have hm4 := (HMR.out.thenAlloc (.cells #[.int .i64 (dv - 2)] 3)).old hap.mod (fun i hi => by have h1 := (HO.out.lt i hi).1; have h2 := HB0.out; omega)
          have HO5 := Lib.hid (Own.rebase ho4 lo4)
          have HM4 := Lib.hid hm4
          clear hap ho4 lo4 hm4 hsz
          go_wp2_with fail
          go_roundw
          case rel => exact ⟨q + 1, a4, c4, hqm, by go_num, rfl, by rw [HOS.out, List.map_append]; exact HO5.out, HM4.out⟩
          case measure => simp [intOf]; omega
        case neg =>
          have v0 : decide ((q : Int) < (m1 : Int)) = false := by simp; omega
          have v1 : decide (q < m1) = false := by simpa using hqm
          obtain rfl : q = m1 := by omega
          obtain ⟨ps, hps⟩ : ∃ y, outL ds q = y := ⟨_, rfl⟩
          have hpl : ps.length = q := by rw [← hps]; exact outL_len ds q (by rw [HDN.out]; exact Nat.le_refl _)
          have HPL := Lib.hid hpl
          rw [hps] at HO
          have HTO := Lib.hid (HT3.out.later HMR.out)
          have HFO := Lib.hid (HF3.out.keep HMR.out (fun e => e))
          have HD := Lib.hid (tbdrop_any HTO.out.tb a q c ps hpl (Rd.ofOwn HO.out) (by omega))
          clear hps hpl
          go_wp2_with fail
          refine HD.out.mono ?_
          rintro e w5 ⟨xa, xc, rfl, hxo, htb, hm5⟩
          obtain ⟨lv, hlv⟩ : ∃ y, lvF es ps ps.length = y := ⟨_, rfl⟩
          rw [hlv] at hxo ⊢
          have hlv2 : ∀ x, lv x = ((es x).isSome && decide ((x : Int) ∈ ps)) := fun x => by rw [← hlv]; unfold lvF; rw [List.take_length]
          obtain ⟨G, hG⟩ : ∃ y, (goneN lv 16).length = y := ⟨_, rfl⟩
          rw [hG] at hxo ⊢
          have hgl := gone_left es ps
          rw [hlv, hG] at hgl
          have HGL := Lib.hid hgl
          have HG := Lib.hid hG
          have HLV := Lib.hid hlv2
          have HX := Lib.hid (Rd.ofOwn hxo)
          have HT5 : Hid (TS w w5 p 16 (dropE es ps) gr) := Lib.hid (HTO.out.turn htb hm5)
          have hpm : p ≠ mb := imap_ne HFO.out HTO.out.tb.blk
          have HF5 := Lib.hid (HFO.out.keep hm5 (fun e => hpm e.symm))
          have HENT : Hid (∀ x, x < 16 → ∀ b ch, es x = some (b, ch) → Blk w5 b 98 [.int .i64 (x : Int), .int .i64 (gr x), ch, .pointer none, .int .i64 0]) := Lib.hid (fun x hx b ch he => (HTO.out.tb.ent x hx b ch he).1.keep hm5 (HTO.out.tb.ent x hx b ch he).2)
          have HPS := Lib.hid (Rd.keep (Rd.ofOwn HO.out) hm5 (fun i hi h => by have h1 := (HO.out.lt i hi).1; have h2 := HB0.out; have h3 := HT3.out.tb.blk.lt; omega))
          clear hxo htb hm5 hlv hlv2 hG hgl HD HO HTO HFO HT3 HF3
          go_wp2_with fail
          go_loopw [14, 15] (fun nv iv wr => ∃ u : Nat, u ≤ 16 ∧ iv = .int .i64 u ∧ nv = .int .i64 ((goneN lv u).length : Int) ∧ w5 = wr) (fun _ iv _ => 16 - (intOf iv).toNat)
          case atStart => exact ⟨0, by omega, rfl, rfl, rfl⟩
          case round =>
            obtain ⟨u, hu, rfl, rfl, rfl⟩ := hrel
            by_cases hu16 : u < 16
            case neg =>
              obtain rfl : u = 16 := by omega
              have x0 : decide (((16 : Nat) : Int) < 16) = false := by simp
              rw [HG.out]
              obtain ⟨n1, hn1⟩ : ∃ y, (liveN (dropE es ps) 16).length = y := ⟨_, rfl⟩
              obtain ⟨n0, hn0⟩ : ∃ y, (liveI es).length = y := ⟨_, rfl⟩
              have hlen := fun ty => HF5.out.len (t := 115) Try.underlying115 Try.underlying3 (liveI es) (liveI_nd es) HTF.out.keys ty
              rw [hn0] at hlen
              have hsum : n0 = G + n1 := by rw [← hn0, liveI_len, HGL.out, hn1]
              have hn016 : n0 ≤ 16 := by rw [← hn0, liveI_len]; exact liveN_len es 16
              have hws : IntKind.i64.wrap ((n0 : Int) - (G : Int)) = (n1 : Int) := by rw [IntWalk.i64_in _ (by omega)]; omega
              have hws2 : (n0 : Int) - (G : Int) = (n1 : Int) := by omega
              have HL := Lib.hid (ts_len HT5.out n1 hn1)
              have HN0 := Lib.hid hn0
              clear hn1 hn0 hsum hn016
              clear hlen hws2
              go_wp2_with fail
              refine HL.out.mono ?_
              rintro e w6 ⟨rfl, ht6, hm6⟩
              have HT6 := Lib.hid ht6
              have hlen := fun ty => (HF5.out.keep hm6 (fun e => e)).len (t := 115) Try.underlying115 Try.underlying3 (liveI es) (liveI_nd es) HTF.out.keys ty
              rw [HN0.out] at hlen
              clear ht6 hm6 HL
              go_wp2_with fail
              refine (awake29_any _).mono ?_
              rintro e w9 ⟨rfl, hm9⟩
              go_wp2_with fail
              go_ret
              exact ⟨rfl, HT6.out.md.of2 hm9⟩
            case pos =>
              have x0 : decide ((u : Int) < 16) = true := by simp; omega
              have x1 : decide (u < 16) = true := by simpa using hu16
              have huw : (Lit.int .i64 (u : Int)).wf = true := (i64_wf _).2 ⟨by omega, by omega⟩
              have hlk := IMap.look HF5.out Try.underlying115 Try.underlying3 Try.underlying3 (Tb.zero3 w5) (u : Int) huw
              rw [HTF.out.at_ u hu16] at hlk
              obtain ⟨gv, hgv⟩ : ∃ y, gr u = y := ⟨_, rfl⟩
              have HGV := Lib.hid hgv
              obtain ⟨N, hN⟩ : ∃ y, (goneN lv u).length = y := ⟨_, rfl⟩
              have hNb : N ≤ 16 := by have := goneN_len lv u; omega
              have HN := Lib.hid hN
              rw [hN]
              have hgc := tbget_any HT5.out.tb (u : Int)
              have HGC := Lib.hid hgc
              cases hes : es u with
              | none =>
                rw [hes] at hlk
                replace hlk : (Instr.lookup 115 (.map (some mb)) (.int .i64 (u : Int)) true).run Try.prog w5 = .ok (.tuple #[.int .i64 0, .bool false]) w5 := hlk
                have HES := Lib.hid hes
                clear hes hgc hgv hN
                go_wp2_with fail
                go_loopw [18, 19] (fun bv iv wr => ∃ s : Nat, s ≤ q ∧ iv = .int .i64 s ∧ bv = .bool (decide ((u : Int) ∈ ps.take s)) ∧ w5 = wr) (fun _ iv _ => q - (intOf iv).toNat)
                case atStart => exact ⟨0, by omega, rfl, by simp, rfl⟩
                case round =>
                  obtain ⟨s, hs, rfl, rfl, rfl⟩ := hrel
                  by_cases hsq : s < q
                  case pos =>
                    have v2 : decide ((s : Int) < (q : Int)) = true := by simp; omega
                    have v3 : decide (s < q) = true := by simpa using hsq
                    have hsl : s < ps.length := by rw [HPL.out]; exact hsq
                    obtain ⟨fb, fo, hpl, f0⟩ := rd1 HPS.out s hsl
                    have hix := fun wx => run_indexS (P := Try.prog) wx 70 3 iI 1 Try.underlying70 hiI hsI a q c s hsq (HPS.out.some_ (by omega))
                    rw [hpl] at hix
                    have hms := mem_take_succ hsl (u : Int)
                    obtain ⟨y, hy⟩ : ∃ y, ps[s] = y := ⟨_, rfl⟩
                    rw [hy] at f0 hms
                    have HMS := Lib.hid hms
                    clear hy hpl hms
                    by_cases hin : (u : Int) ∈ ps.take s
                    · have HDD : Hid (decide ((u : Int) ∈ ps.take (s + 1)) = true) := Lib.hid (decide_eq_true (HMS.out.2 (.inl hin)))
                      rw [decide_eq_true hin]
                      clear hin
                      go_wp2_with fail
                      go_roundw
                      case rel => exact ⟨s + 1, hsq, by go_num, by rw [HDD.out], trivial⟩
                      case measure => simp [intOf]; omega
                    · rw [decide_eq_false hin]
                      by_cases hue : y = (u : Int)
                      · have v4 : (y == (u : Int)) = true := by simpa using hue
                        have HDD : Hid (decide ((u : Int) ∈ ps.take (s + 1)) = true) := Lib.hid (decide_eq_true (HMS.out.2 (.inr hue.symm)))
                        clear hin hue
                        go_wp2_with fail
                        go_roundw
                        case rel => exact ⟨s + 1, hsq, by go_num, by rw [HDD.out], trivial⟩
                        case measure => simp [intOf]; omega
                      · have v4 : (y == (u : Int)) = false := by simpa using hue
                        have HDD : Hid (decide ((u : Int) ∈ ps.take (s + 1)) = false) := Lib.hid (decide_eq_false (fun h => (HMS.out.1 h).elim hin (fun e => hue e.symm)))
                        clear hin hue
                        go_wp2_with fail
                        go_roundw
                        case rel => exact ⟨s + 1, hsq, by go_num, by rw [HDD.out], trivial⟩
                        case measure => simp [intOf]; omega
                  case neg =>
                    have v2 : decide ((s : Int) < (q : Int)) = false := by simp; omega
                    have v3 : decide (s < q) = false := by simpa using hsq
                    obtain rfl : s = q := by omega
                    obtain ⟨th, hth⟩ : ∃ b, decide ((u : Int) ∈ ps.take s) = b := ⟨_, rfl⟩
                    have HTH : Hid (decide ((u : Int) ∈ ps) = th) := Lib.hid (by rw [← hth, List.take_of_length_le (by rw [HPL.out]; exact Nat.le_refl _)])
                    rw [hth]
                    clear hth
                    have HGS : Hid ((goneN lv (u + 1)).length = N) := Lib.hid (by rw [goneN_succ, HLV.out, HES.out]; simp; exact HN.out)
                    have HGT : Hid (Calls Try.prog 40 #[.pointer (some ⟨p, 0, none⟩), .int .i64 (u : Int), .int .i64 0] w5 fun e w' => e = .returned (.pointer none) ∧ w5 = w') := Lib.hid (by have h := HGC.out 0; rwa [show getV (dropE es ps) gr (u : Int) 0 = .pointer none by unfold getV dropE; by_cases e1 : (u : Int) ∈ ps <;> simp [HES.out, tbV, e1]] at h)
                    go_wp2_with fail
                    refine HGT.out.mono ?_
                    rintro e w' ⟨rfl, rfl⟩
                    go_wp2_with fail
                    go_roundw
                    case rel => exact ⟨u + 1, hu16, by go_num, by first | (rw [HGS.out]; done) | (rw [HGS.out]; simp), trivial⟩
                    case measure => simp [intOf]; omega
              | some z =>
                obtain ⟨b, ch⟩ := z
                rw [hes] at hlk
                replace hlk : (Instr.lookup 115 (.map (some mb)) (.int .i64 (u : Int)) true).run Try.prog w5 = .ok (.tuple #[.int .i64 gv, .bool true]) w5 := by rw [← hgv]; exact hlk
                have HES := Lib.hid hes
                clear hes hgc hgv hN
                go_wp2_with fail
                go_loopw [18, 19] (fun bv iv wr => ∃ s : Nat, s ≤ q ∧ iv = .int .i64 s ∧ bv = .bool (decide ((u : Int) ∈ ps.take s)) ∧ w5 = wr) (fun _ iv _ => q - (intOf iv).toNat)
                case atStart => exact ⟨0, by omega, rfl, by simp, rfl⟩
                case round =>
                  obtain ⟨s, hs, rfl, rfl, rfl⟩ := hrel
                  by_cases hsq : s < q
                  case pos =>
                    have v2 : decide ((s : Int) < (q : Int)) = true := by simp; omega
                    have v3 : decide (s < q) = true := by simpa using hsq
                    have hsl : s < ps.length := by rw [HPL.out]; exact hsq
                    obtain ⟨fb, fo, hpl, f0⟩ := rd1 HPS.out s hsl
                    have hix := fun wx => run_indexS (P := Try.prog) wx 70 3 iI 1 Try.underlying70 hiI hsI a q c s hsq (HPS.out.some_ (by omega))
                    rw [hpl] at hix
                    have hms := mem_take_succ hsl (u : Int)
                    obtain ⟨y, hy⟩ : ∃ y, ps[s] = y := ⟨_, rfl⟩
                    rw [hy] at f0 hms
                    have HMS := Lib.hid hms
                    clear hy hpl hms
                    by_cases hin : (u : Int) ∈ ps.take s
                    · have HDD : Hid (decide ((u : Int) ∈ ps.take (s + 1)) = true) := Lib.hid (decide_eq_true (HMS.out.2 (.inl hin)))
                      rw [decide_eq_true hin]
                      clear hin
                      go_wp2_with fail
                      go_roundw
                      case rel => exact ⟨s + 1, hsq, by go_num, by rw [HDD.out], trivial⟩
                      case measure => simp [intOf]; omega
                    · rw [decide_eq_false hin]
                      by_cases hue : y = (u : Int)
                      · have v4 : (y == (u : Int)) = true := by simpa using hue
                        have HDD : Hid (decide ((u : Int) ∈ ps.take (s + 1)) = true) := Lib.hid (decide_eq_true (HMS.out.2 (.inr hue.symm)))
                        clear hin hue
                        go_wp2_with fail
                        go_roundw
                        case rel => exact ⟨s + 1, hsq, by go_num, by rw [HDD.out], trivial⟩
                        case measure => simp [intOf]; omega
                      · have v4 : (y == (u : Int)) = false := by simpa using hue
                        have HDD : Hid (decide ((u : Int) ∈ ps.take (s + 1)) = false) := Lib.hid (decide_eq_false (fun h => (HMS.out.1 h).elim hin (fun e => hue e.symm)))
                        clear hin hue
                        go_wp2_with fail
                        go_roundw
                        case rel => exact ⟨s + 1, hsq, by go_num, by rw [HDD.out], trivial⟩
                        case measure => simp [intOf]; omega
                  case neg =>
                    have v2 : decide ((s : Int) < (q : Int)) = false := by simp; omega
                    have v3 : decide (s < q) = false := by simpa using hsq
                    obtain rfl : s = q := by omega
                    obtain ⟨th, hth⟩ : ∃ b, decide ((u : Int) ∈ ps.take s) = b := ⟨_, rfl⟩
                    have HTH : Hid (decide ((u : Int) ∈ ps) = th) := Lib.hid (by rw [← hth, List.take_of_length_le (by rw [HPL.out]; exact Nat.le_refl _)])
                    rw [hth]
                    clear hth
                    cases th with
                    | false =>
                      have hnin : ¬ (u : Int) ∈ ps := of_decide_eq_false HTH.out
                      have HGS : Hid ((goneN lv (u + 1)).length = N) := Lib.hid (by rw [goneN_succ, HLV.out, HTH.out]; simp; exact HN.out)
                      have HGT : Hid (Calls Try.prog 40 #[.pointer (some ⟨p, 0, none⟩), .int .i64 (u : Int), .int .i64 gv] w5 fun e w' => e = .returned (.pointer (some ⟨b, 0, none⟩)) ∧ w5 = w') := Lib.hid (by have h := HGC.out gv; rwa [show getV (dropE es ps) gr (u : Int) gv = .pointer (some ⟨b, 0, none⟩) by unfold getV dropE; simp [HES.out, tbV, hnin, HGV.out]; omega] at h)
                      clear hnin
                      go_wp2_with fail
                      refine HGT.out.mono ?_
                      rintro e w' ⟨rfl, rfl⟩
                      go_wp2_with fail
                      go_roundw
                      case rel => exact ⟨u + 1, hu16, by go_num, by first | (rw [HGS.out]; done) | (rw [HGS.out]; simp), trivial⟩
                      case measure => simp [intOf]; omega
                    | true =>
                      have hin : (u : Int) ∈ ps := of_decide_eq_true HTH.out
                      have hlu : lv u = true := by rw [HLV.out, HES.out, HTH.out]; rfl
                      have HGS : Hid ((goneN lv (u + 1)).length = N + 1) := Lib.hid (by rw [goneN_succ, hlu]; simp; exact HN.out)
                      have hat := goneN_at hlu hu16
                      rw [HN.out] at hat
                      have hNG : N < G := by rw [← HG.out]; exact (List.getElem?_eq_some_iff.1 hat).1
                      have hel : ((goneN lv 16).map fun x => tbV (es x))[N]? = some (.pointer (some ⟨b, 0, none⟩)) := by rw [List.getElem?_map, hat]; simp [HES.out, tbV]
                      obtain ⟨xb, xo, hpx, _⟩ := HX.out.place (j := N) hNG
                      have ex := HX.out.elem hel
                      rw [hpx] at ex
                      have hixx := fun wx => run_indexS (P := Try.prog) wx 94 90 iE 1 Try.underlying94 hiE hsE xa G xc N hNG (HX.out.some_ (by omega))
                      rw [hpx] at hixx
                      have x2 : decide ((G : Int) ≤ (N : Int)) = false := by simp; omega
                      have x3 : decide (G ≤ N) = false := by simp; omega
                      have hbk := HENT.out u hu16 b ch HES.out
                      rw [HGV.out] at hbk
                      have q0 := hbk.cell 0 rfl
                      have q1 := hbk.cell 1 rfl
                      have HGT : Hid (Calls Try.prog 40 #[.pointer (some ⟨p, 0, none⟩), .int .i64 (u : Int), .int .i64 gv] w5 fun e w' => e = .returned (.pointer none) ∧ w5 = w') := Lib.hid (by
                        have h := HGC.out gv
                        have hd : dropE es ps u = none := by unfold dropE; rw [if_pos hin]
                        rwa [show getV (dropE es ps) gr (u : Int) gv = .pointer none by unfold getV; split; (rw [Int.toNat_natCast, hd]; rfl); rfl] at h)
                      clear hin hlu hat hel hpx hbk
                      go_wp2_with fail
                      refine HGT.out.mono ?_
                      rintro e w' ⟨rfl, rfl⟩
                      go_wp2_with fail
                      go_roundw
                      case rel => exact ⟨u + 1, hu16, by go_num, by first | (rw [HGS.out]; done) | (rw [HGS.out]; simp), trivial⟩
                      case measure => simp [intOf]; omega
theorem tldrops_law (w : World) (a0 : Option Addr) (m c0 : Nat) (l : List (Int × Int)) (ok : (encSlice (encPair (encInt .i64) (encInt .i64))).ok w (.slice a0 m c0, l)) (a1 : Option Addr) (m1 c1 : Nat) (ds : List Int) (ok1 : (encSlice (encInt .i64)).ok w (.slice a1 m1 c1, ds)) :
    Calls Try.prog 10 #[.slice a0 m c0, .slice a1 m1 c1] w fun e w' => e = .returned (.bool true) ∧ Below w.heap.size w w' := by
  obtain ⟨hr, _⟩ := ok
  have hr' : Rd w 2 (.slice a0 m c0) l.length (l.flatMap c2Q) := hr
  have hn := hr'.len_eq
  subst hn
  obtain ⟨hn1, hr1, _⟩ := ok_ints ok1
  exact (tldrops_all w a0 _ c0 l rfl hr' a1 m1 c1 ds hn1 hr1).mono fun e w' h => ⟨h.1, h.2.below (Nat.le_refl _) (fun _ e => e.elim)⟩
end Go.Proofs.Ytfdmjnhhgcidbaa
