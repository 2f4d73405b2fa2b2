/- DetourAll walked. -/
import Derived.Test.YtbjdjafkpldbnaaAllP19
import Derived.Test.YtbjdjafkpldbnaaNone19
import Derived.StillTailTactics
import Derived.BigQuiet
import Derived.Deep.DeepCutAuto
import Derived.Deep.CutBlock
namespace Go.Proofs.Ytbjdjafkpldbnaa
open Go.RowKit Mile
set_option maxRecDepth 100000
theorem clB_at2 (cs : List Bool) (j : Nat) (hj : j < cs.length) : clB cs (j : Int) = cs[j] := by
  unfold clB
  rw [decide_eq_true (by omega), Bool.true_and, Int.toNat_natCast, List.getD, List.getElem?_eq_getElem hj]; rfl
/-- The list of closed ones, one further. -/
theorem off_step {gA gB : List Int} {x : Int} {cs : List Bool} {j : Nat} (hj : j < cs.length) (h : ∀ e, e < j → okM gA gB x e → clB cs (e : Int) = false) (b : Bool) (hb : okM gA gB x j → b = false) : ∀ e, e < j + 1 → okM gA gB x e → clB (cs.set j b) (e : Int) = false := fun e he hok => by
  have hl : e < (cs.set j b).length := by rw [List.length_set]; omega
  rw [clB_at2 _ e hl, List.getElem_set]
  by_cases hej : j = e
  · rw [if_pos hej]; subst hej; exact hb hok
  · rw [if_neg hej, ← clB_at2 cs e (by omega)]; exact h e (by omega) hok

set_option maxHeartbeats 64000000 in
theorem dall19_all (w : World) (a0 : Option Addr) (m c0 : Nat) (l : List Int) (hm : l.length = m) (hr : Rd w 1 (.slice a0 m c0) m (l.map (Value.int .i64))) (ev nv : Int) :
    Calls Try.prog 6 #[.slice a0 m c0, .int .i64 ev, .int .i64 nv] w fun e w' => e = .returned (.bool true) ∧ Mod (fun _ => False) w w' := by
  obtain ⟨iI, hiI, hzI, hsI, hbI⟩ := info_parts GR.infoI
  obtain ⟨iB, hiB, hzB, hsB, hbB⟩ := info_parts GR.infoBo
  by_cases hlen0 : m ≤ 100
  case neg =>
    have HS : Hid (Ev (Mod (fun _ => False) w) w) := Lib.hid (Ev.mod w)
    have z0 : decide (100 < (m : Int)) = true := by simp; omega
    have z1 : decide (100 < m) = true := by simp; omega
    go_enter Try.func6, Try.ntmps6
    go_wp2_with fail
    refine (awake19_any _).mono ?_
    rintro e wq1 ⟨rfl, hm⟩
    replace HS := Lib.hid (HS.out.step hm)
    clear hm
    go_wp2_with fail
    go_ret
    exact ⟨rfl, HS.out.now⟩
  have HS : Hid (Ev (Mod (fun _ => False) w) w) := Lib.hid (Ev.mod w)
  have y0 : decide (100 < (m : Int)) = false := by simp; omega
  replace HS := Lib.hid ((Ev.rd hr).and HS.out)
  clear hr
  go_enter Try.func6, Try.ntmps6
  go_wp2_with fail
  refine (made19_any _ a0 m c0 l hm ((HS.out.now).1)).mono ?_
  rintro e wq2 ⟨a1, n1, d1, a2, n2, d2, a3, n3, d3, t, p, B, C, rfl, hg, hto, hmm⟩
  replace HS := Lib.hid (HS.out.step hmm)
  clear hmm
  replace HS := Lib.hid ((Ev.gv hg).and HS.out)
  replace HS := Lib.hid ((Ev.to hto).and HS.out)
  clear hg hto y0
  have hmay := Lib.hid (town_may l)
  have hfew := Lib.hid (town_few l)
  obtain ⟨G, hG⟩ : ∃ G, townG l = G := ⟨_, rfl⟩
  rw [hG] at hmay hfew
  rw [hG] at HS
  clear hG
  have hn := Lib.hid ((HS.out.now).2.1.n)
  have he := Lib.hid ((HS.out.now).2.1.e)
  have hb := Lib.hid ((HS.out.now).2.1.b)
  have h1n : n1 ≤ 16 := by have := hfew.out.1.2; have := hn.out; omega
  have h2n : n2 ≤ 67 := by have := hfew.out.2.1.2; have := he.out; omega
  have h2p : 1 ≤ n2 := by have := hfew.out.2.1.1; have := he.out; omega
  have h3n : n3 ≤ 469 := by have := hfew.out.2.2; have := hb.out; omega
  go_wp2_with fail
  obtain ⟨bg, hbg⟩ : ∃ b, wq2.heap.size = b := ⟨_, rfl⟩
  obtain ⟨wq3, hwq3⟩ : ∃ W, World.alloc wq2 (.cells #[.slice a1 n1 d1, .slice a2 n2 d2, .slice a3 n3 d3] 28) = W := ⟨_, rfl⟩
  have hBbg : Blk wq3 bg 28 [.slice a1 n1 d1, .slice a2 n2 d2, .slice a3 n3 d3] := by rw [← hwq3, ← hbg]; exact Blk.new _ 28 [.slice a1 n1 d1, .slice a2 n2 d2, .slice a3 n3 d3]
  have hzbg : wq3.heap.size = bg + 1 := by rw [← hwq3, ← hbg]; exact heap_size_alloc _ _
  replace HS := Lib.hid (HS.out.step (w' := wq3) (by rw [← hwq3]; exact Mod.alloc _ _ _))
  replace HS := Lib.hid ((Ev.blk hBbg).and HS.out)
  try rw [hwq3]
  try rw [hbg]
  clear hzbg hBbg hbg hwq3
  have hbbg := (HS.out.now).1
  have qbg_0 := hbbg.cell 0 rfl
  have qbg_1 := hbbg.cell 1 rfl
  have qbg_2 := hbbg.cell 2 rfl
  have lbg := hbbg.lt
  clear hbbg
  have hmay0 := hmay.out
  clear hmay
  obtain ⟨hmay, hmy⟩ : ∃ h : May G, h = hmay0 := ⟨_, rfl⟩
  clear hmy hmay0
  have h1p : 1 ≤ n1 := by have := hfew.out.1.1; have := hn.out; omega
  have ke0 := Int.emod_nonneg ev (b := (n2 : Int)) (by omega)
  have ke1 := Int.emod_lt_of_pos ev (b := (n2 : Int)) (by omega)
  obtain ⟨k, hre⟩ := Int.eq_ofNat_of_zero_le ke0
  rw [hre] at ke1
  have hk2 : k < n2 := by omega
  have kv0 := Int.emod_nonneg nv (b := (n1 : Int)) (by omega)
  have kv1 := Int.emod_lt_of_pos nv (b := (n1 : Int)) (by omega)
  obtain ⟨vk, hrv⟩ := Int.eq_ofNat_of_zero_le kv0
  rw [hrv] at kv1
  have hv2 : vk < n1 := by omega
  have hn2a : (0 : Int) < (n2 : Int) := by omega
  have hn2b : (n2 : Int) ≤ 4611686018427387904 := by omega
  have hn1a : (0 : Int) < (n1 : Int) := by omega
  have hn1b : (n1 : Int) ≤ 4611686018427387904 := by omega
  have HQ2 := Lib.hid (fun j => Calls.quiet_of_same (round_q hre hn2a hn2b wq3 j))
  have HQ1 := Lib.hid (fun j => Calls.quiet_of_same (round_q hrv hn1a hn1b wq3 j))
  clear hre hrv hn2a hn2b hn1a hn1b ke0 ke1 kv0 kv1 h1p
  have hkE : k < G.E.length := by rw [he.out]; exact hk2
  have hvN : 0 ≤ (vk : Int) ∧ (vk : Int) < (G.N.length : Int) := ⟨by omega, by rw [hn.out]; omega⟩
  have HVN := Lib.hid hvN
  have HKE := Lib.hid hkE
  clear hvN hkE
  go_upto_region 6 with fail
  go_quiet ((go_at_call 10; first | with_reducible exact HQ2.out _ | with_reducible exact HQ1.out _))
  obtain ⟨wq, hwq⟩ : ∃ y, World.drewN wq3 nq = y := ⟨_, rfl⟩
  have hmq : Mod (fun _ => False) wq3 wq := by rw [← hwq]; exact Mod.drewN _ _ _
  (try rw [hwq])
  clear hwq
  clear qbg_0 qbg_1 qbg_2 lbg
  replace HS := Lib.hid (HS.out.step hmq)
  clear hmq HQ1 HQ2
  have hbbg := (HS.out.now).1
  have qbg_0 := hbbg.cell 0 rfl
  have qbg_1 := hbbg.cell 1 rfl
  have qbg_2 := hbbg.cell 2 rfl
  have lbg := hbbg.lt
  clear hbbg
  go_wp2_with fail
  refine (ddist19_any t p B C G hmay _ ((HS.out.now).2.1) (k : Int) (vk : Int) none 0 0 [] rfl (Rd.nil _ _)).mono ?_
  rintro e w' hp
  clear qbg_0 qbg_1 qbg_2 lbg
  obtain ⟨x, hbt, rfl, hmc⟩ := hp
  obtain ⟨wa, hw'⟩ : ∃ x : World, x = w' := ⟨_, rfl⟩
  subst hw'
  replace HS := Lib.hid (HS.out.step hmc)
  clear hmc
  have HBT := Lib.hid hbt
  clear hbt
  have hbbg := (HS.out.now).1
  have qbg_0 := hbbg.cell 0 rfl
  have qbg_1 := hbbg.cell 1 rfl
  have qbg_2 := hbbg.cell 2 rfl
  have lbg := hbbg.lt
  clear hbbg
  obtain ⟨xv, hxv⟩ : ∃ qz, (if x = -1 then 0 else x) = qz := ⟨_, rfl⟩
  obtain ⟨xb, hxb⟩ : ∃ qz, decide (x ≠ -1) = qz := ⟨_, rfl⟩
  rw [hxv, hxb]
  go_wp2_with fail
  refine (dmeets_any t p B C G hmay _ ((HS.out.now).2.1) (k : Int) (vk : Int) none 0 0 [] rfl (Rd.nil _ _)).mono ?_
  rintro e w' hp
  clear qbg_0 qbg_1 qbg_2 lbg
  obtain ⟨y, hbt, rfl, hmc⟩ := hp
  obtain ⟨wd, hw'⟩ : ∃ x : World, x = w' := ⟨_, rfl⟩
  subst hw'
  replace HS := Lib.hid (HS.out.step hmc)
  clear hmc
  have HMT := Lib.hid hbt
  clear hbt
  have hbbg := (HS.out.now).1
  have qbg_0 := hbbg.cell 0 rfl
  have qbg_1 := hbbg.cell 1 rfl
  have qbg_2 := hbbg.cell 2 rfl
  have lbg := hbbg.lt
  clear hbbg
  obtain ⟨yv, hyv⟩ : ∃ qz, (if y = -1 then 0 else y) = qz := ⟨_, rfl⟩
  obtain ⟨yb, hyb⟩ : ∃ qz, decide (y ≠ -1) = qz := ⟨_, rfl⟩
  rw [hyv, hyb]
  obtain ⟨dA, dB, hfA, hfB, hxk, hxl, hneg, hpos⟩ := meets_facts G hmay k HKE.out (vk : Int) HVN.out [] HBT.out HMT.out
  by_cases hx1 : x = -1
  case pos =>
    have hy1 := hneg hx1
    subst hx1 hy1
    obtain rfl : xb = false := by rw [← hxb]; rfl
    obtain rfl : yb = false := by rw [← hyb]; rfl
    clear hxb hyb hxk hneg hpos hfA hfB hxv hyv HMT
    go_wp2_with fail
    refine (awake19_any _).mono ?_
    rintro e wq4 ⟨rfl, hmz⟩
    replace HS := Lib.hid (HS.out.step hmz)
    clear hmz
    clear qbg_0 qbg_1 qbg_2 lbg
    have hbbg := (HS.out.now).1
    have qbg_0 := hbbg.cell 0 rfl
    have qbg_1 := hbbg.cell 1 rfl
    have qbg_2 := hbbg.cell 2 rfl
    have lbg := hbbg.lt
    clear hbbg
    go_wp2_with fail
    go_ret
    exact ⟨rfl, (HS.out.now).2.2.2.2⟩
  case neg =>
    obtain ⟨i, hiE, hyi, hoki, hno⟩ := hpos hx1
    have hy1 : y ≠ -1 := by omega
    obtain rfl : xb = true := by rw [← hxb]; exact decide_eq_true hx1
    obtain rfl : yb = true := by rw [← hyb]; exact decide_eq_true hy1
    rw [if_neg hx1] at hxv
    rw [if_neg hy1] at hyv
    subst hxv hyv hyi
    have HFX := Lib.hid (And.intro hfA (And.intro hfB hxk))
    have hi2 : i < n2 := by rw [← he.out]; exact hiE
    have hx0 : 0 ≤ x := by omega
    clear hxb hyb hxk hneg hpos hfA hfB hno hoki hy1 HBT hiE hx1 hxl
    have HGV := Lib.hid (Ev.gv ((HS.out.now).2.2.1))
    have HBG := Lib.hid (Ev.blk ((HS.out.now).1))
    have hxA : (webFrom G hmay (k : Int) []).m = n2 := he.out
    have hxB : (webTo G hmay (vk : Int) []).m = n2 := he.out
    have HXM := Lib.hid (And.intro hxA hxB)
    clear hxA hxB
    go_upto_region 11 with fail
    go_cut [15, 16] from 70 to 75 (fun av bv wx => RMtD G hmay k (vk : Int) [] n2 wd av bv wx)
    case first =>
      go_region_with (first
        | (go_at_call 15
           refine (r4from_any G hmay _ a1 n1 d1 a2 n2 d2 a3 n3 d3 (HGV.out.at (by first | exact Mod.refl _ _ | exact Mod.drew _ _)) (k : Int) none 0 0 [] rfl (Rd.nil _ _)).mono ?_
           rintro e w9 hp
           obtain ⟨_, q, rfl, ⟨ra, gA, rfl, hoA, hfA⟩, hmA⟩ := hp.resolve_right (fun h => h.1 ⟨by omega, by have := HKE.out; omega⟩)
           rw [HXM.out.1] at hoA ⊢
           have hm9 : Mod (fun _ => False) wd w9 := Mod.of2 (by first | exact Mod.refl _ _ | exact Mod.drew _ _) hmA
           have HM9 := Lib.hid hm9
           have HOA := Lib.hid (And.intro hoA hfA)
           have hb9 := HBG.out.at hm9
           have q09 := hb9.cell 0 rfl
           have q19 := hb9.cell 1 rfl
           have q29 := hb9.cell 2 rfl
           clear hoA hfA hmA hm9 hp hb9)
        | (go_at_call 16
           refine (r4to_any G hmay _ a1 n1 d1 a2 n2 d2 a3 n3 d3 (HGV.out.at (HM9.out.of2 (by first | exact Mod.refl _ _ | exact Mod.drew _ _))) (vk : Int) none 0 0 [] rfl (Rd.nil _ _)).mono ?_
           rintro e w10 hp
           obtain ⟨_, q, rfl, ⟨ra2, gB, rfl, hoB, hfB⟩, hmB⟩ := hp.resolve_right (fun h => h.1 HVN.out)
           rw [HXM.out.2] at hoB ⊢
           have hm10 : Mod (fun _ => False) w9 w10 := Mod.of2 (by first | exact Mod.refl _ _ | exact Mod.drew _ _) hmB
           have HM10 := Lib.hid hm10
           have HOB := Lib.hid (And.intro hoB hfB)
           clear hoB hfB hmB hm10 hp))
      all_goals
        (try go_wp2_with fail)
        go_meet
        exact ⟨_, _, gA, _, _, gB, rfl, rfl, by have := HOA.out.1.1; simpa using this, by have := HOB.out.1.1; simpa using this, Rd.ofOwn (Own.keep HOA.out.1 HM10.out (fun _ _ e => e)), Rd.ofOwn HOB.out.1, HOA.out.2, HOB.out.2, HM9.out.of2 HM10.out⟩
    case rest =>
      clear qbg_0 qbg_1 qbg_2 lbg
      obtain ⟨ax, cx, gA, ay, cy, gB, rfl, rfl, hlA, hlB, hrA, hrB, hfA, hfB, hmc⟩ := hcut
      obtain ⟨wx, hwx⟩ : ∃ q : World, q = wc := ⟨_, rfl⟩
      subst hwx
      replace HS := Lib.hid (HS.out.step hmc)
      replace HS := Lib.hid ((Ev.rd hrA).and HS.out)
      replace HS := Lib.hid ((Ev.rd hrB).and HS.out)
      obtain rfl := hfA.uniq HFX.out.1
      obtain rfl := hfB.uniq HFX.out.2.1
      have HLL := Lib.hid (And.intro hlA hlB)
      have HTP := Lib.hid (And.intro (from_top G hmay (k : Int) [] hfA) (And.intro (to_top G hmay (vk : Int) [] hfB) (And.intro hfA.low hfB.low)))
      clear hrA hrB hfA hfB hlA hlB hmc HGV HBG
      have hbbg := (HS.out.now).2.2.1
      have qbg_0 := hbbg.cell 0 rfl
      have qbg_1 := hbbg.cell 1 rfl
      have qbg_2 := hbbg.cell 2 rfl
      have lbg := hbbg.lt
      clear hbbg
      have hmk := run_makeS (P := Try.prog) 32 4 iB (.bool false) Try.underlying32 hiB hzB rfl hsB n2 (by rw [hbB]; omega) (by omega) wx
      have ho0 := own_zrow wx 4 (.bool false) n2 wx.heap.size rfl (by omega)
      obtain ⟨cb, hcb⟩ : ∃ b, wx.heap.size = b := ⟨_, rfl⟩
      obtain ⟨w1, hw1⟩ : ∃ W, wx.alloc (.cells (zrow (.bool false) n2) 4) = W := ⟨_, rfl⟩
      have hm1 : Mod (fun _ => False) wx w1 := by rw [← hw1]; exact Mod.alloc _ _ _
      rw [hw1, hcb] at hmk ho0
      have HCB := Lib.hid hcb
      go_wp2_with fail
      clear qbg_0 qbg_1 qbg_2 lbg
      have HO0 := Lib.hid ho0
      have HM1 := Lib.hid hm1
      clear ho0 hm1 hmk hw1 hcb
      replace HS := Lib.hid ((Ev.mod wx).and HS.out)
      go_loopw [18] (fun iv wr => ∃ (j : Nat) (cs : List Bool), j ≤ n2 ∧ iv = .int .i64 j ∧ cs.length = n2 ∧ World.ownsRow wr 0 4 1 (.slice (some ⟨cb, 0, none⟩) n2 n2) n2 (cs.map Value.bool) ∧ (∀ e : Nat, e < j → okM gA gB x e → clB cs (e : Int) = false) ∧ Mod (fun _ => False) wx wr) (fun iv _ => n2 - (intOf iv).toNat)
      case atStart => exact ⟨0, List.replicate n2 false, by omega, rfl, List.length_replicate, by rw [List.map_replicate]; exact HO0.out, fun _ h => by omega, HM1.out⟩
      case round =>
        obtain ⟨j, cs, hj, rfl, hcs, hrow, hall, hmr⟩ := hrel
        obtain ⟨wo, hwo⟩ : ∃ x : World, x = wr := ⟨_, rfl⟩
        subst hwo
        replace HS := Lib.hid (HS.out.step hmr)
        clear hmr
        have hbbg := (HS.out.now).2.2.2.1
        have qbg_0 := hbbg.cell 0 rfl
        have qbg_1 := hbbg.cell 1 rfl
        have qbg_2 := hbbg.cell 2 rfl
        have lbg := hbbg.lt
        clear hbbg
        have HCS := Lib.hid hcs
        have HROW := Lib.hid hrow
        have HALL := Lib.hid hall
        clear hcs hrow hall
        by_cases hlj : j < n2
        case pos =>
          have z0 : decide ((j : Int) < (n2 : Int)) = true := by simp; omega
          have hxa : j < gA.length := by rw [HLL.out.1]; exact hlj
          have hxb : j < gB.length := by rw [HLL.out.2]; exact hlj
          obtain ⟨ga, HGA0⟩ : ∃ qz, gA[j] = qz := ⟨_, rfl⟩
          have HGA := Lib.hid HGA0
          clear HGA0
          obtain ⟨gb, HGB0⟩ : ∃ qz, gB[j] = qz := ⟨_, rfl⟩
          have HGB := Lib.hid HGB0
          clear HGB0
          have b1 := HTP.out.1 j
          have b2 := HTP.out.2.1 j
          have b3 := HTP.out.2.2.1 j
          have b4 := HTP.out.2.2.2 j
          rw [dAt_eq gA j hxa, HGA.out] at b1 b3
          rw [dAt_eq gB j hxb, HGB.out] at b2 b4
          obtain ⟨ub, uo, hpl, e0⟩ := rd1 (HS.out.now).2.2.1 j hxa
          have hix := fun wx => run_indexS (P := Try.prog) wx 22 3 iI 1 Try.underlying22 hiI hsI ax n2 cx j hlj ((HS.out.now).2.2.1.some_ (by have := hlj; omega))
          rw [hpl] at hix
          have HIu := Lib.hid hix
          clear hix hpl
          rw [HGA.out] at e0
          replace HS := Lib.hid ((Ev.cell e0).and HS.out)
          clear e0
          obtain ⟨vb, vo, hpl, e0⟩ := rd1 (HS.out.now).2.2.1 j hxb
          have hix := fun wx => run_indexS (P := Try.prog) wx 22 3 iI 1 Try.underlying22 hiI hsI ay n2 cy j hlj ((HS.out.now).2.2.1.some_ (by have := hlj; omega))
          rw [hpl] at hix
          have HIv := Lib.hid hix
          clear hix hpl
          rw [HGB.out] at e0
          replace HS := Lib.hid ((Ev.cell e0).and HS.out)
          clear e0
          have qu := (HS.out.now).2.1
          have qv := (HS.out.now).1
          have hiu := HIu.out
          have hiv := HIv.out
          have hok : okM gA gB x j → 0 ≤ ga ∧ 0 ≤ gb ∧ ga + gb = x := fun h => by unfold okM at h; rw [dAt_eq gA j hxa, dAt_eq gB j hxb, HGA.out, HGB.out] at h; exact h
          have HOK := Lib.hid hok
          clear hok
          have hxc : ∀ wx, (Instr.indexAt 32 (.slice (some ⟨cb, 0, none⟩) n2 n2) (.int .i64 (j : Int))).run Try.prog wx = .ok (.pointer (some ⟨cb, j, none⟩)) wx := fun wx => by
            have h := run_indexS (P := Try.prog) wx 32 4 iB 1 Try.underlying32 hiB hsB (some ⟨cb, 0, none⟩) n2 n2 j hlj (by simp)
            have hp := (show elemA (some ⟨cb, 0, none⟩) j 1 = ⟨cb, j, none⟩ by unfold elemA; rw [Option.getD_some, Addr.add_lit, Nat.zero_add, Nat.mul_one])
            rw [hp] at h; exact h
          have hdr : Mod (fun _ => False) wo (World.drew wo) := Mod.drew _ _
          have hroom := Room.ofOwn (Own.keep HROW.out hdr (fun _ _ e => e)) j (by omega)
          obtain ⟨v0, qc⟩ := hroom.cell
          have qf := hroom.free
          have hroom2 := Room.ofOwn HROW.out j (by omega)
          obtain ⟨v02, qc2⟩ := hroom2.cell
          have qf2 := hroom2.free
          have HSTO : Hid (∀ b : Bool, World.ownsRow (World.drew (wo.setCell ⟨cb, j, none⟩ (.bool b))) 0 4 1 (.slice (some ⟨cb, 0, none⟩) n2 n2) n2 ((cs.set j b).map Value.bool) ∧ Mod (fun _ => False) wx (World.drew (wo.setCell ⟨cb, j, none⟩ (.bool b)))) := Lib.hid fun b => ⟨Own.keep (by rw [List.map_set]; exact (HROW.out.stored j (.bool b)).1) (Mod.drew (fun _ => False) _) (fun _ _ e => e), (((HS.out.now).2.2.1).old (Mod.setCell (F := fun k => k = cb) _ _ _ rfl) (fun q hq => by have h1 := HCB.out; have h2 : q = cb := hq; omega)).of2 (Mod.drew _ _)⟩
          clear hroom hroom2 hdr
          by_cases c1 : ga < 0
          case pos =>
            have zz : decide (ga < 0) = true := decide_eq_true c1
            skip
            go_upto_region 16 with fail
            go_region
            (try go_wp2_with fail)
            go_roundw
            case rel => exact ⟨j + 1, cs.set j true, hlj, by go_num, by rw [List.length_set]; exact HCS.out, (HSTO.out true).1, off_step (by rw [HCS.out]; exact hlj) HALL.out true (fun h => by have := (HOK.out h).1; omega), (HSTO.out true).2⟩
            case measure => simp [intOf]; omega
          case neg =>
            have z1 : decide (ga < 0) = false := decide_eq_false c1
            by_cases c2 : gb < 0
            case pos =>
              have zz : decide (gb < 0) = true := decide_eq_true c2
              skip
              go_upto_region 16 with fail
              go_region
              (try go_wp2_with fail)
              go_roundw
              case rel => exact ⟨j + 1, cs.set j true, hlj, by go_num, by rw [List.length_set]; exact HCS.out, (HSTO.out true).1, off_step (by rw [HCS.out]; exact hlj) HALL.out true (fun h => by have := (HOK.out h).2.1; omega), (HSTO.out true).2⟩
              case measure => simp [intOf]; omega
            case neg =>
              have z2 : decide (gb < 0) = false := decide_eq_false c2
              by_cases c3 : x < ga + gb
              case pos =>
                have zz : decide (x < ga + gb) = true := decide_eq_true c3
                skip
                go_upto_region 16 with fail
                go_region
                (try go_wp2_with fail)
                go_roundw
                case rel => exact ⟨j + 1, cs.set j true, hlj, by go_num, by rw [List.length_set]; exact HCS.out, (HSTO.out true).1, off_step (by rw [HCS.out]; exact hlj) HALL.out true (fun h => by have := (HOK.out h).2.2; omega), (HSTO.out true).2⟩
                case measure => simp [intOf]; omega
              case neg =>
                have zz : decide (x < ga + gb) = false := decide_eq_false c3
                skip
                go_upto_region 16 with fail
                go_region
                (try go_wp2_with fail)
                go_roundw
                case rel => exact ⟨j + 1, cs.set j false, hlj, by go_num, by rw [List.length_set]; exact HCS.out, (HSTO.out false).1, off_step (by rw [HCS.out]; exact hlj) HALL.out false (fun _ => rfl), (HSTO.out false).2⟩
                case measure => simp [intOf]; omega
        case neg =>
          obtain rfl : n2 = j := by omega
          have z0 : decide ((n2 : Int) < (n2 : Int)) = false := by simp
          have hoff : OffAll G cs gA gB (dAt gB k) := fun q hq hok => HALL.out q (by rw [← he.out]; exact hq) (by rw [HFX.out.2.2]; exact hok)
          have HOFF := Lib.hid hoff
          clear hoff
          replace HS := Lib.hid ((Ev.rd (Rd.ofOwn HROW.out)).and HS.out)
          go_wp2_with fail
          refine (ddist19_any t p B C G hmay _ ((HS.out.now).2.2.2.2.2.1) (k : Int) (vk : Int) (some ⟨cb, 0, none⟩) n2 n2 cs HCS.out ((HS.out.now).1)).mono ?_
          rintro e w' hp
          clear qbg_0 qbg_1 qbg_2 lbg
          obtain ⟨x2, hbt, rfl, hmc⟩ := hp
          obtain ⟨we, hw'⟩ : ∃ x : World, x = w' := ⟨_, rfl⟩
          subst hw'
          replace HS := Lib.hid (HS.out.step hmc)
          clear hmc z0
          have HBT2 := Lib.hid hbt
          clear hbt
          have hbbg := (HS.out.now).2.2.2.2.1
          have qbg_0 := hbbg.cell 0 rfl
          have qbg_1 := hbbg.cell 1 rfl
          have qbg_2 := hbbg.cell 2 rfl
          have lbg := hbbg.lt
          clear hbbg
          obtain ⟨x2v, hx2v⟩ : ∃ qz, (if x2 = -1 then 0 else x2) = qz := ⟨_, rfl⟩
          obtain ⟨x2b, hx2b⟩ : ∃ qz, decide (x2 ≠ -1) = qz := ⟨_, rfl⟩
          rw [hx2v, hx2b]
          go_wp2_with fail
          refine (dmeets_any t p B C G hmay _ ((HS.out.now).2.2.2.2.2.1) (k : Int) (vk : Int) (some ⟨cb, 0, none⟩) n2 n2 cs HCS.out ((HS.out.now).1)).mono ?_
          rintro e w' hp
          clear qbg_0 qbg_1 qbg_2 lbg
          obtain ⟨y2, hbt, rfl, hmc⟩ := hp
          obtain ⟨wf, hw'⟩ : ∃ x : World, x = w' := ⟨_, rfl⟩
          subst hw'
          replace HS := Lib.hid (HS.out.step hmc)
          clear hmc
          have HMT2 := Lib.hid hbt
          clear hbt
          have hbbg := (HS.out.now).2.2.2.2.1
          have qbg_0 := hbbg.cell 0 rfl
          have qbg_1 := hbbg.cell 1 rfl
          have qbg_2 := hbbg.cell 2 rfl
          have lbg := hbbg.lt
          clear hbbg
          obtain ⟨y2v, hy2v⟩ : ∃ qz, (if y2 = -1 then 0 else y2) = qz := ⟨_, rfl⟩
          obtain ⟨y2b, hy2b⟩ : ∃ qz, decide (y2 ≠ -1) = qz := ⟨_, rfl⟩
          rw [hy2v, hy2b]
          obtain ⟨h1, h2⟩ := all_facts G hmay k HKE.out (vk : Int) HVN.out cs HFX.out.1 HFX.out.2.1 (by have := HFX.out.2.2; omega) HOFF.out HMT.out HBT2.out HMT2.out
          rw [← HFX.out.2.2] at h1
          subst h1 h2
          have hx1 : x2 ≠ -1 := by omega
          have hi1 : (i : Int) ≠ -1 := by omega
          obtain rfl : x2b = true := by rw [← hx2b]; exact decide_eq_true hx1
          obtain rfl : y2b = true := by rw [← hy2b]; exact decide_eq_true hi1
          rw [if_neg hx1] at hx2v
          rw [if_neg hi1] at hy2v
          subst hx2v hy2v
          clear hx2b hy2b HBT2 HMT2 HMT HOFF
          go_wp2_with fail
          refine (r4edge_any G _ a1 n1 d1 a2 n2 d2 a3 n3 d3 ((HS.out.now).2.2.2.2.2.2.1) (by omega) (i : Int)).mono ?_
          rintro e w' ⟨rfl, hme⟩
          clear qbg_0 qbg_1 qbg_2 lbg
          obtain ⟨wg, hwg⟩ : ∃ x : World, x = w' := ⟨_, rfl⟩
          subst hwg
          have hin2 : decide (0 ≤ (i : Int) ∧ (i : Int) < (G.E.length : Int)) = true := decide_eq_true ⟨by omega, by have := he.out; omega⟩
          rw [hin2]
          clear hin2
          replace HS := Lib.hid (HS.out.step hme)
          clear hme
          have hbbg := (HS.out.now).2.2.2.2.1
          have qbg_0 := hbbg.cell 0 rfl
          have qbg_1 := hbbg.cell 1 rfl
          have qbg_2 := hbbg.cell 2 rfl
          have lbg := hbbg.lt
          clear hbbg
          by_cases hik : i = k
          case pos =>
            have zk : ((i : Int) == (k : Int)) = true := by rw [hik]; simp
            have zkn : (i == k) = true := by rw [hik]; simp
            go_wp2_with fail
            refine (awake19_any _).mono ?_
            rintro e wq5 ⟨rfl, hmz⟩
            replace HS := Lib.hid (HS.out.step hmz)
            clear hmz
            clear qbg_0 qbg_1 qbg_2 lbg
            have hbbg := (HS.out.now).2.2.2.2.1
            have qbg_0 := hbbg.cell 0 rfl
            have qbg_1 := hbbg.cell 1 rfl
            have qbg_2 := hbbg.cell 2 rfl
            have lbg := hbbg.lt
            clear hbbg
            go_wp2_with fail
            go_ret
            exact ⟨rfl, (HS.out.now).2.2.2.2.2.2.2.2⟩
          case neg =>
            have zk : ((i : Int) == (k : Int)) = false := beq_eq_false_iff_ne.2 (by omega)
            have zkn : (i == k) = false := beq_eq_false_iff_ne.2 hik
            have hmk := run_makeS (P := Try.prog) 32 4 iB (.bool false) Try.underlying32 hiB hzB rfl hsB n2 (by rw [hbB]; omega) (by omega) wg
            have ho0 := own_zrow wg 4 (.bool false) n2 wg.heap.size rfl (by omega)
            obtain ⟨cb2, hcb⟩ : ∃ b, wg.heap.size = b := ⟨_, rfl⟩
            obtain ⟨w2, hw1⟩ : ∃ W, wg.alloc (.cells (zrow (.bool false) n2) 4) = W := ⟨_, rfl⟩
            have hm1 : Mod (fun _ => False) wg w2 := by rw [← hw1]; exact Mod.alloc _ _ _
            rw [hw1, hcb] at hmk ho0
            have hxi : ∀ wx, (Instr.indexAt 32 (.slice (some ⟨cb2, 0, none⟩) n2 n2) (.int .i64 (i : Int))).run Try.prog wx = .ok (.pointer (some ⟨cb2, i, none⟩)) wx := fun wx => by
              have h := run_indexS (P := Try.prog) wx 32 4 iB 1 Try.underlying32 hiB hsB (some ⟨cb2, 0, none⟩) n2 n2 i hi2 (by simp)
              have hp := (show elemA (some ⟨cb2, 0, none⟩) i 1 = ⟨cb2, i, none⟩ by unfold elemA; rw [Option.getD_some, Addr.add_lit, Nat.zero_add, Nat.mul_one])
              rw [hp] at h; exact h
            have hroom := Room.ofOwn ho0 i (by omega)
            obtain ⟨v0, qc⟩ := hroom.cell
            have qf := hroom.free
            obtain ⟨w3, hw3⟩ : ∃ W, w2.setCell ⟨cb2, i, none⟩ (.bool true) = W := ⟨_, rfl⟩
            have hso := (ho0.stored i (.bool true)).1
            have hm3 : Mod (fun _ => False) wg w3 := by rw [← hw3]; exact hm1.old (Mod.setCell (F := fun k => k = cb2) _ _ _ rfl) (fun q hq => by have h2 : q = cb2 := hq; omega)
            rw [hw3, show (List.replicate n2 (Value.bool false)).set i (.bool true) = ((List.replicate n2 false).set i true).map Value.bool from by rw [List.map_set, List.map_replicate]] at hso
            have hc2 : clB ((List.replicate n2 false).set i true) (i : Int) = true := clB_set (by simpa using hi2) (.inr rfl)
            have hl2 : ((List.replicate n2 false).set i true).length = n2 := by simp
            obtain ⟨cs2, hcs2⟩ : ∃ q, (List.replicate n2 false).set i true = q := ⟨_, rfl⟩
            rw [hcs2] at hso hc2 hl2
            have HC2 := Lib.hid (And.intro hc2 hl2)
            have HSO := Lib.hid hso
            have HM3 := Lib.hid hm3
            clear hroom hso hm3 hc2 hl2 hcs2 ho0 hm1
            have hto3 := Lib.hid ((Ev.to ((HS.out.now).2.2.2.2.2.1)).at HM3.out)
            go_wp2_with fail
            clear qbg_0 qbg_1 qbg_2 lbg
            try rw [hw3]
            replace HS := Lib.hid (HS.out.step HM3.out)
            replace HS := Lib.hid ((Ev.rd (Rd.ofOwn HSO.out)).and HS.out)
            clear hw3 hw1 hmk hcb qc qf hxi
            have hbbg := (HS.out.now).2.2.2.2.2.1
            have qbg_0 := hbbg.cell 0 rfl
            have qbg_1 := hbbg.cell 1 rfl
            have qbg_2 := hbbg.cell 2 rfl
            have lbg := hbbg.lt
            clear hbbg
            refine (ddist19_any t p B C G hmay _ ((HS.out.now).2.2.2.2.2.2.1) (k : Int) (vk : Int) (some ⟨cb2, 0, none⟩) n2 n2 cs2 HC2.out.2 ((HS.out.now).1)).mono ?_
            rintro e w' hp
            clear qbg_0 qbg_1 qbg_2 lbg
            obtain ⟨x3, hbt, rfl, hmc⟩ := hp
            obtain ⟨wh, hw'⟩ : ∃ x : World, x = w' := ⟨_, rfl⟩
            subst hw'
            replace HS := Lib.hid (HS.out.step hmc)
            clear hmc
            have HBT2 := Lib.hid hbt
            clear hbt
            have hbbg := (HS.out.now).2.2.2.2.2.1
            have qbg_0 := hbbg.cell 0 rfl
            have qbg_1 := hbbg.cell 1 rfl
            have qbg_2 := hbbg.cell 2 rfl
            have lbg := hbbg.lt
            clear hbbg
            obtain ⟨x3v, hx3v⟩ : ∃ qz, (if x3 = -1 then 0 else x3) = qz := ⟨_, rfl⟩
            obtain ⟨x3b, hx3b⟩ : ∃ qz, decide (x3 ≠ -1) = qz := ⟨_, rfl⟩
            rw [hx3v, hx3b]
            go_wp2_with fail
            refine (dmeets_any t p B C G hmay _ ((HS.out.now).2.2.2.2.2.2.1) (k : Int) (vk : Int) (some ⟨cb2, 0, none⟩) n2 n2 cs2 HC2.out.2 ((HS.out.now).1)).mono ?_
            rintro e w' hp
            clear qbg_0 qbg_1 qbg_2 lbg
            obtain ⟨y3, hbt, rfl, hmc⟩ := hp
            obtain ⟨wi, hw'⟩ : ∃ x : World, x = w' := ⟨_, rfl⟩
            subst hw'
            replace HS := Lib.hid (HS.out.step hmc)
            clear hmc
            have HMT2 := Lib.hid hbt
            clear hbt
            have hbbg := (HS.out.now).2.2.2.2.2.1
            have qbg_0 := hbbg.cell 0 rfl
            have qbg_1 := hbbg.cell 1 rfl
            have qbg_2 := hbbg.cell 2 rfl
            have lbg := hbbg.lt
            clear hbbg
            obtain ⟨y3v, hy3v⟩ : ∃ qz, (if y3 = -1 then 0 else y3) = qz := ⟨_, rfl⟩
            obtain ⟨y3b, hy3b⟩ : ∃ qz, decide (y3 ≠ -1) = qz := ⟨_, rfl⟩
            rw [hy3v, hy3b]
            obtain ⟨g0, g1, g2⟩ := shut_facts G hmay k HKE.out (vk : Int) HVN.out cs2 HFX.out.2.1 hik HC2.out.1 HBT2.out HMT2.out
            rw [← HFX.out.2.2] at g2
            clear HBT2 HMT2
            by_cases h3 : x3 = -1
            case pos =>
              have h4 := g1 h3
              subst h3 h4
              obtain rfl : x3b = false := by rw [← hx3b]; rfl
              obtain rfl : y3b = false := by rw [← hy3b]; rfl
              clear hx3b hy3b g1 g2
              go_wp2_with fail
              refine (awake19_any _).mono ?_
              rintro e wq6 ⟨rfl, hmz⟩
              replace HS := Lib.hid (HS.out.step hmz)
              clear hmz
              clear qbg_0 qbg_1 qbg_2 lbg
              have hbbg := (HS.out.now).2.2.2.2.2.1
              have qbg_0 := hbbg.cell 0 rfl
              have qbg_1 := hbbg.cell 1 rfl
              have qbg_2 := hbbg.cell 2 rfl
              have lbg := hbbg.lt
              clear hbbg
              go_wp2_with fail
              go_ret
              exact ⟨rfl, (HS.out.now).2.2.2.2.2.2.2.2.2⟩
            case neg =>
              obtain ⟨g3, g4, g5⟩ := g2 h3
              obtain rfl : x3b = true := by rw [← hx3b]; exact decide_eq_true h3
              obtain rfl : y3b = true := by rw [← hy3b]; exact decide_eq_true g4
              rw [if_neg h3] at hx3v
              rw [if_neg g4] at hy3v
              subst hx3v hy3v
              have zq : decide (x2 ≤ x3) = true := decide_eq_true g3
              have zr : (y3 != (i : Int)) = true := bne_iff_ne.2 g5
              have zr2 : (y3 == (i : Int)) = false := beq_eq_false_iff_ne.2 g5
              clear hx3b hy3b g1 g2 g3 g4 g5 h3
              go_wp2_with fail
              refine (awake19_any _).mono ?_
              rintro e wq7 ⟨rfl, hmz⟩
              replace HS := Lib.hid (HS.out.step hmz)
              clear hmz
              clear qbg_0 qbg_1 qbg_2 lbg
              have hbbg := (HS.out.now).2.2.2.2.2.1
              have qbg_0 := hbbg.cell 0 rfl
              have qbg_1 := hbbg.cell 1 rfl
              have qbg_2 := hbbg.cell 2 rfl
              have lbg := hbbg.lt
              clear hbbg
              go_wp2_with fail
              go_ret
              exact ⟨rfl, (HS.out.now).2.2.2.2.2.2.2.2.2⟩
theorem dall19_law (w : World) (a0 : Option Addr) (m c0 : Nat) (l : List Int) (ok : (encSlice (encInt .i64)).ok w (.slice a0 m c0, l)) (ev : Int) (_ : (Lit.int .i64 ev).wf = true) (nv : Int) (_ : (Lit.int .i64 nv).wf = true) :
    Calls Try.prog 6 #[.slice a0 m c0, .int .i64 ev, .int .i64 nv] w fun e w' => e = .returned (.bool true) ∧ Below w.heap.size w w' := by
  obtain ⟨hn, hr, _⟩ := ok_ints ok
  exact (dall19_all w a0 m c0 l hn hr ev nv).mono fun e w' h => ⟨h.1, h.2.below (Nat.le_refl _) (fun _ e => e.elim)⟩
end Go.Proofs.Ytbjdjafkpldbnaa
