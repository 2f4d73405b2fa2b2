/- DetourMeets walked. -/
import Derived.Test.YtbjdjafkpldbnaaTells19
import Derived.Test.YtbjdjafkpldbnaaMeetP19
import Derived.BigQuiet
import Derived.Deep.DeepCutAuto
import Derived.Deep.CutBlock
namespace Go.Proofs.Ytbjdjafkpldbnaa
open Go.RowKit Mile
set_option maxRecDepth 100000
/-- What each operation of the statement leaves. -/
def dm_r13_0_F (ki : Nat) (x : Int) (ga : Int) (gb : Int) (a1 : Option Addr) (a2 : Option Addr) (a3 : Option Addr) (n1 : Nat) (d1 : Nat) (n2 : Nat) (d2 : Nat) (n3 : Nat) (d3 : Nat) (ax : Option Addr) (ay : Option Addr) (cx : Nat) (cy : Nat) (fb : Nat) (fo : Nat) (zb : Nat) (zo : Nat) : List (Value → World → Prop) :=
  [IsV (.bool true),
   IsV (.bool false),
   IsV (.bool false),
   IsV (.agg #[.slice a1 n1 d1, .slice a2 n2 d2, .slice a3 n3 d3]),
   IsV (.int .i64 (ki : Int)),
   IsV (.bool true),
   IsV (.bool false),
   IsV (.bool false),
   IsV (.bool false),
   IsV (.slice ax n2 cx),
   IsV (.int .i64 (ki : Int)),
   IsV (.pointer (some ⟨fb, fo, none⟩)),
   IsV (.int .i64 ga),
   IsV (.bool false),
   IsV (.bool false),
   IsV (.bool false),
   IsV (.slice ay n2 cy),
   IsV (.int .i64 (ki : Int)),
   IsV (.pointer (some ⟨zb, zo, none⟩)),
   IsV (.int .i64 gb),
   IsV (.bool false),
   IsV (.bool false),
   IsV (.bool false),
   IsV (.slice ax n2 cx),
   IsV (.int .i64 (ki : Int)),
   IsV (.pointer (some ⟨fb, fo, none⟩)),
   IsV (.int .i64 ga),
   IsV (.slice ay n2 cy),
   IsV (.int .i64 (ki : Int)),
   IsV (.pointer (some ⟨zb, zo, none⟩)),
   IsV (.int .i64 gb),
   IsV (.int .i64 x),
   IsV (.int .i64 x),
   IsV (.bool false),
   IsV (.bool false)]
def dm_r13_0_D : List (List Nat) := [[], [0], [1], [2], [2], [2, 3, 4], [2, 5], [2, 6], [7], [8], [8], [8, 9, 10], [8, 11], [8, 12], [8, 13], [14], [15], [15], [15, 16, 17], [15, 18], [15, 19], [15, 20], [21], [22], [22], [22, 23, 24], [22, 25], [22], [22], [22, 27, 28], [22, 29], [22, 26, 30], [22], [22, 31, 32], [22, 33]]

set_option maxHeartbeats 64000000 in
theorem dmeets19_all (w : World) (a0 : Option Addr) (m c0 : Nat) (l : List Int) (hm : l.length = m) (hr : Rd w 1 (.slice a0 m c0) m (l.map (Value.int .i64))) (a4 : Option Addr) (n4 d4 : Nat) (sh : List Int) (hn4 : sh.length = n4) (hr4 : Rd w 1 (.slice a4 n4 d4) n4 (sh.map (Value.int .i64))) (ev nv : Int) :
    Calls Try.prog 4 #[.slice a0 m c0, .slice a4 n4 d4, .int .i64 ev, .int .i64 nv] w fun e w' => e = .returned (.bool true) ∧ Mod (fun _ => False) w w' := by
  obtain ⟨iI, hiI, hzI, hsI, hbI⟩ := info_parts GR.infoI
  by_cases hlen0 : m ≤ 100
  case neg =>
    have HS : Hid (Ev (Mod (fun _ => False) w) w) := Lib.hid (Ev.mod w)
    have z0 : decide (100 < (m : Int)) = true := by simp; omega
    have z1 : decide (100 < m) = true := by simp; omega
    go_enter Try.func4, Try.ntmps4
    go_wp2_with fail
    refine (awake19_any _).mono ?_
    rintro e wq1 ⟨rfl, hm⟩
    replace HS := Lib.hid (HS.out.step hm)
    clear hm
    go_wp2_with fail
    go_ret
    exact ⟨rfl, HS.out.now⟩
  by_cases hlen1 : n4 ≤ 40
  case neg =>
    have HS : Hid (Ev (Mod (fun _ => False) w) w) := Lib.hid (Ev.mod w)
    have y0 : decide (100 < (m : Int)) = false := by simp; omega
    have z0 : decide (40 < (n4 : Int)) = true := by simp; omega
    have z1 : decide (40 < n4) = true := by simp; omega
    go_enter Try.func4, Try.ntmps4
    go_wp2_with fail
    refine (awake19_any _).mono ?_
    rintro e wq2 ⟨rfl, hm⟩
    replace HS := Lib.hid (HS.out.step hm)
    clear hm
    go_wp2_with fail
    go_ret
    exact ⟨rfl, HS.out.now⟩
  have HS : Hid (Ev (Mod (fun _ => False) w) w) := Lib.hid (Ev.mod w)
  have y0 : decide (100 < (m : Int)) = false := by simp; omega
  have y1 : decide (40 < (n4 : Int)) = false := by simp; omega
  replace HS := Lib.hid ((Ev.rd hr).and HS.out)
  replace HS := Lib.hid ((Ev.rd hr4).and HS.out)
  have HN4 := Lib.hid hn4
  clear hr hr4 hn4
  go_enter Try.func4, Try.ntmps4
  go_wp2_with fail
  refine (made19_any _ a0 m c0 l hm ((HS.out.now).2.1)).mono ?_
  rintro e wq3 ⟨a1, n1, d1, a2, n2, d2, a3, n3, d3, t, p, B, C, rfl, hg, hto, hmm⟩
  replace HS := Lib.hid (HS.out.step hmm)
  clear hmm
  replace HS := Lib.hid ((Ev.gv hg).and HS.out)
  replace HS := Lib.hid ((Ev.to hto).and HS.out)
  clear hg hto y0 y1
  have hmay := Lib.hid (town_may l)
  have hfew := Lib.hid (town_few l)
  obtain ⟨G, hG⟩ : ∃ G, townG l = G := ⟨_, rfl⟩
  rw [hG] at hmay hfew
  rw [hG] at HS
  clear hG
  have hn := Lib.hid ((HS.out.now).2.1.n)
  have he := Lib.hid ((HS.out.now).2.1.e)
  have hb := Lib.hid ((HS.out.now).2.1.b)
  have h1n : n1 ≤ 16 := by have := hfew.out.1.2; have := hn.out; omega
  have h2n : n2 ≤ 67 := by have := hfew.out.2.1.2; have := he.out; omega
  have h2p : 1 ≤ n2 := by have := hfew.out.2.1.1; have := he.out; omega
  have h3n : n3 ≤ 469 := by have := hfew.out.2.2; have := hb.out; omega
  go_wp2_with fail
  obtain ⟨bg, hbg⟩ : ∃ b, wq3.heap.size = b := ⟨_, rfl⟩
  obtain ⟨wq4, hwq4⟩ : ∃ W, World.alloc wq3 (.cells #[.slice a1 n1 d1, .slice a2 n2 d2, .slice a3 n3 d3] 28) = W := ⟨_, rfl⟩
  have hBbg : Blk wq4 bg 28 [.slice a1 n1 d1, .slice a2 n2 d2, .slice a3 n3 d3] := by rw [← hwq4, ← hbg]; exact Blk.new _ 28 [.slice a1 n1 d1, .slice a2 n2 d2, .slice a3 n3 d3]
  have hzbg : wq4.heap.size = bg + 1 := by rw [← hwq4, ← hbg]; exact heap_size_alloc _ _
  replace HS := Lib.hid (HS.out.step (w' := wq4) (by rw [← hwq4]; exact Mod.alloc _ _ _))
  replace HS := Lib.hid ((Ev.blk hBbg).and HS.out)
  try rw [hwq4]
  try rw [hbg]
  clear hzbg hBbg hbg hwq4
  have hbbg := (HS.out.now).1
  have qbg_0 := hbbg.cell 0 rfl
  have qbg_1 := hbbg.cell 1 rfl
  have qbg_2 := hbbg.cell 2 rfl
  have lbg := hbbg.lt
  clear hbbg
  have hmay0 := hmay.out
  clear hmay
  obtain ⟨hmay, hmy⟩ : ∃ h : May G, h = hmay0 := ⟨_, rfl⟩
  clear hmy hmay0
  go_wp2_with fail
  refine (shut_any G (by have := hfew.out.2.1.1; omega) _ a1 n1 d1 a2 n2 d2 a3 n3 d3 ((HS.out.now).2.2.1) (by omega) a4 n4 d4 sh HN4.out ((HS.out.now).2.2.2.1) (by omega)).mono ?_
  rintro e w' ⟨rb, rfl, ho, hmc⟩
  clear qbg_0 qbg_1 qbg_2 lbg
  obtain ⟨ws, hws⟩ : ∃ x : World, x = w' := ⟨_, rfl⟩
  subst hws
  replace HS := Lib.hid (HS.out.step hmc)
  replace HS := Lib.hid ((Ev.rd (Rd.ofOwn ho)).and HS.out)
  clear ho hmc
  have hbbg := (HS.out.now).2.1
  have qbg_0 := hbbg.cell 0 rfl
  have qbg_1 := hbbg.cell 1 rfl
  have qbg_2 := hbbg.cell 2 rfl
  have lbg := hbbg.lt
  clear hbbg
  have h1p : 1 ≤ n1 := by have := hfew.out.1.1; have := hn.out; omega
  have ke0 := Int.emod_nonneg ev (b := (n2 : Int)) (by omega)
  have ke1 := Int.emod_lt_of_pos ev (b := (n2 : Int)) (by omega)
  obtain ⟨k, hre⟩ := Int.eq_ofNat_of_zero_le ke0
  rw [hre] at ke1
  have hk2 : k < n2 := by omega
  have kv0 := Int.emod_nonneg nv (b := (n1 : Int)) (by omega)
  have kv1 := Int.emod_lt_of_pos nv (b := (n1 : Int)) (by omega)
  obtain ⟨vk, hrv⟩ := Int.eq_ofNat_of_zero_le kv0
  rw [hrv] at kv1
  have hv2 : vk < n1 := by omega
  have hn2a : (0 : Int) < (n2 : Int) := by omega
  have hn2b : (n2 : Int) ≤ 4611686018427387904 := by omega
  have hn1a : (0 : Int) < (n1 : Int) := by omega
  have hn1b : (n1 : Int) ≤ 4611686018427387904 := by omega
  have HQ2 := Lib.hid (fun j => Calls.quiet_of_same (round_q hre hn2a hn2b ws j))
  have HQ1 := Lib.hid (fun j => Calls.quiet_of_same (round_q hrv hn1a hn1b ws j))
  clear hre hrv hn2a hn2b hn1a hn1b ke0 ke1 kv0 kv1 h1p
  have hkE : k < G.E.length := by rw [he.out]; exact hk2
  have hvN : 0 ≤ (vk : Int) ∧ (vk : Int) < (G.N.length : Int) := ⟨by omega, by rw [hn.out]; omega⟩
  have HVN := Lib.hid hvN
  have HKE := Lib.hid hkE
  clear hvN hkE
  go_upto_region 7 with fail
  go_quiet ((go_at_call 10; first | with_reducible exact HQ2.out _ | with_reducible exact HQ1.out _))
  obtain ⟨wq, hwq⟩ : ∃ y, World.drewN ws nq = y := ⟨_, rfl⟩
  have hmq : Mod (fun _ => False) ws wq := by rw [← hwq]; exact Mod.drewN _ _ _
  (try rw [hwq])
  clear hwq
  clear qbg_0 qbg_1 qbg_2 lbg
  replace HS := Lib.hid (HS.out.step hmq)
  clear hmq HQ1 HQ2
  have hbbg := (HS.out.now).2.1
  have qbg_0 := hbbg.cell 0 rfl
  have qbg_1 := hbbg.cell 1 rfl
  have qbg_2 := hbbg.cell 2 rfl
  have lbg := hbbg.lt
  clear hbbg
  go_wp2_with fail
  refine (ddist19_any t p B C G hmay _ ((HS.out.now).2.2.1) (k : Int) (vk : Int) (some ⟨rb, 0, none⟩) n2 n2 (shutL n2 sh) (shutL_len n2 sh) ((HS.out.now).1)).mono ?_
  rintro e w' hp
  clear qbg_0 qbg_1 qbg_2 lbg
  obtain ⟨x, hbt, rfl, hmc⟩ := hp
  obtain ⟨wa, hw'⟩ : ∃ x : World, x = w' := ⟨_, rfl⟩
  subst hw'
  replace HS := Lib.hid (HS.out.step hmc)
  clear hmc
  have HBT := Lib.hid hbt
  clear hbt
  have hbbg := (HS.out.now).2.1
  have qbg_0 := hbbg.cell 0 rfl
  have qbg_1 := hbbg.cell 1 rfl
  have qbg_2 := hbbg.cell 2 rfl
  have lbg := hbbg.lt
  clear hbbg
  obtain ⟨xv, hxv⟩ : ∃ y, (if x = -1 then 0 else x) = y := ⟨_, rfl⟩
  obtain ⟨xb, hxb⟩ : ∃ y, decide (x ≠ -1) = y := ⟨_, rfl⟩
  rw [hxv, hxb]
  go_wp2_with fail
  refine (dmeets_any t p B C G hmay _ ((HS.out.now).2.2.1) (k : Int) (vk : Int) (some ⟨rb, 0, none⟩) n2 n2 (shutL n2 sh) (shutL_len n2 sh) ((HS.out.now).1)).mono ?_
  rintro e w' hp
  clear qbg_0 qbg_1 qbg_2 lbg
  obtain ⟨y, hbt, rfl, hmc⟩ := hp
  obtain ⟨wc, hw'⟩ : ∃ x : World, x = w' := ⟨_, rfl⟩
  subst hw'
  replace HS := Lib.hid (HS.out.step hmc)
  clear hmc
  have HMT := Lib.hid hbt
  clear hbt
  have hbbg := (HS.out.now).2.1
  have qbg_0 := hbbg.cell 0 rfl
  have qbg_1 := hbbg.cell 1 rfl
  have qbg_2 := hbbg.cell 2 rfl
  have lbg := hbbg.lt
  clear hbbg
  obtain ⟨yv, hyv⟩ : ∃ z, (if y = -1 then 0 else y) = z := ⟨_, rfl⟩
  obtain ⟨yb, hyb⟩ : ∃ z, decide (y ≠ -1) = z := ⟨_, rfl⟩
  rw [hyv, hyb]
  obtain ⟨dA, dB, hfA, hfB, hxk, hxl, hneg, hpos⟩ := meets_facts G hmay k HKE.out (vk : Int) HVN.out (shutL n2 sh) HBT.out HMT.out
  by_cases hx1 : x = -1
  case pos =>
    have hy1 := hneg hx1
    subst hx1 hy1
    obtain rfl : xb = false := by rw [← hxb]; rfl
    obtain rfl : yb = false := by rw [← hyb]; rfl
    clear hxb hyb hxk hneg hpos hfA hfB hxv hyv HMT
    go_wp2_with fail
    refine (r4btw_any G hmay _ a1 n1 d1 a2 n2 d2 a3 n3 d3 ((HS.out.now).2.2.2.1) (k : Int) (vk : Int) (some ⟨rb, 0, none⟩) n2 n2 (shutL n2 sh) (shutL_len n2 sh) ((HS.out.now).1)).mono ?_
    rintro e w' hp
    clear qbg_0 qbg_1 qbg_2 lbg
    obtain ⟨x2, hbt, rfl, hmc⟩ := hp
    obtain rfl := HBT.out.uniq hbt
    obtain ⟨wb, hw'⟩ : ∃ x : World, x = w' := ⟨_, rfl⟩
    subst hw'
    replace HS := Lib.hid (HS.out.step hmc)
    clear hmc hbt
    have hbbg := (HS.out.now).2.1
    have qbg_0 := hbbg.cell 0 rfl
    have qbg_1 := hbbg.cell 1 rfl
    have qbg_2 := hbbg.cell 2 rfl
    have lbg := hbbg.lt
    clear hbbg
    go_wp2_with fail
    refine (awake19_any _).mono ?_
    rintro e wq5 ⟨rfl, hmz⟩
    replace HS := Lib.hid (HS.out.step hmz)
    clear hmz
    clear qbg_0 qbg_1 qbg_2 lbg
    have hbbg := (HS.out.now).2.1
    have qbg_0 := hbbg.cell 0 rfl
    have qbg_1 := hbbg.cell 1 rfl
    have qbg_2 := hbbg.cell 2 rfl
    have lbg := hbbg.lt
    clear hbbg
    go_wp2_with fail
    go_ret
    exact ⟨rfl, (HS.out.now).2.2.2.2.2.2⟩
  case neg =>
    obtain ⟨ki, hiE, hyi, hoki, hno⟩ := hpos hx1
    have hy1 : y ≠ -1 := by omega
    obtain rfl : xb = true := by rw [← hxb]; exact decide_eq_true hx1
    obtain rfl : yb = true := by rw [← hyb]; exact decide_eq_true hy1
    rw [if_neg hx1] at hxv
    rw [if_neg hy1, hyi] at hyv
    subst hxv hyv
    have HNO := Lib.hid hno
    have HOK := Lib.hid hoki
    have HFX := Lib.hid (And.intro hfA hfB)
    have hi2 : ki < n2 := by rw [← he.out]; exact hiE
    have hx0 : 0 ≤ x := by omega
    clear hxb hyb hxk hneg hpos hfA hfB hno hoki hy1 hyi HMT HBT hiE hx1 hxl
    have HGV := Lib.hid (Ev.gv ((HS.out.now).2.2.2.1))
    have HCR := Lib.hid (Ev.rd ((HS.out.now).1))
    have HBG := Lib.hid (Ev.blk ((HS.out.now).2.1))
    have hxA : (webFrom G hmay (k : Int) (shutL n2 sh)).m = n2 := he.out
    have hxB : (webTo G hmay (vk : Int) (shutL n2 sh)).m = n2 := he.out
    have HXM := Lib.hid (And.intro hxA hxB)
    clear hxA hxB
    go_upto_region 12 with fail
    go_cut [18, 19] from 81 to 88 (fun av bv wx => RMtD G hmay k (vk : Int) (shutL n2 sh) n2 wc av bv wx)
    case first =>
      go_region_with (first
        | (go_at_call 15
           refine (r4from_any G hmay _ a1 n1 d1 a2 n2 d2 a3 n3 d3 (HGV.out.at (by first | exact Mod.refl _ _ | exact Mod.drew _ _)) (k : Int) (some ⟨rb, 0, none⟩) n2 n2 (shutL n2 sh) (shutL_len n2 sh) (HCR.out.at (by first | exact Mod.refl _ _ | exact Mod.drew _ _))).mono ?_
           rintro e w9 hp
           obtain ⟨_, q, rfl, ⟨ra, gA, rfl, hoA, hfA⟩, hmA⟩ := hp.resolve_right (fun h => h.1 ⟨by omega, by have := HKE.out; omega⟩)
           rw [HXM.out.1] at hoA ⊢
           have hm9 : Mod (fun _ => False) wc w9 := Mod.of2 (by first | exact Mod.refl _ _ | exact Mod.drew _ _) hmA
           have HM9 := Lib.hid hm9
           have HOA := Lib.hid (And.intro hoA hfA)
           have hb9 := HBG.out.at hm9
           have q09 := hb9.cell 0 rfl
           have q19 := hb9.cell 1 rfl
           have q29 := hb9.cell 2 rfl
           clear hoA hfA hmA hm9 hp hb9)
        | (go_at_call 16
           refine (r4to_any G hmay _ a1 n1 d1 a2 n2 d2 a3 n3 d3 (HGV.out.at (HM9.out.of2 (by first | exact Mod.refl _ _ | exact Mod.drew _ _))) (vk : Int) (some ⟨rb, 0, none⟩) n2 n2 (shutL n2 sh) (shutL_len n2 sh) (HCR.out.at (HM9.out.of2 (by first | exact Mod.refl _ _ | exact Mod.drew _ _)))).mono ?_
           rintro e w10 hp
           obtain ⟨_, q, rfl, ⟨ra2, gB, rfl, hoB, hfB⟩, hmB⟩ := hp.resolve_right (fun h => h.1 HVN.out)
           rw [HXM.out.2] at hoB ⊢
           have hm10 : Mod (fun _ => False) w9 w10 := Mod.of2 (by first | exact Mod.refl _ _ | exact Mod.drew _ _) hmB
           have HM10 := Lib.hid hm10
           have HOB := Lib.hid (And.intro hoB hfB)
           clear hoB hfB hmB hm10 hp))
      all_goals
        (try go_wp2_with fail)
        go_meet
        exact ⟨_, _, gA, _, _, gB, rfl, rfl, by have := HOA.out.1.1; simpa using this, by have := HOB.out.1.1; simpa using this, Rd.ofOwn (Own.keep HOA.out.1 HM10.out (fun _ _ e => e)), Rd.ofOwn HOB.out.1, HOA.out.2, HOB.out.2, HM9.out.of2 HM10.out⟩
    case rest =>
      clear qbg_0 qbg_1 qbg_2 lbg
      obtain ⟨ax, cx, gA, ay, cy, gB, rfl, rfl, hlA, hlB, hrA, hrB, hfA, hfB, hmc⟩ := hcut
      skip
      obtain ⟨wx, hwx⟩ : ∃ q : World, q = wc := ⟨_, rfl⟩
      subst hwx
      replace HS := Lib.hid (HS.out.step hmc)
      replace HS := Lib.hid ((Ev.rd hrA).and HS.out)
      replace HS := Lib.hid ((Ev.rd hrB).and HS.out)
      obtain rfl := hfA.uniq HFX.out.1
      obtain rfl := hfB.uniq HFX.out.2
      have HLL := Lib.hid (And.intro hlA hlB)
      have HTP := Lib.hid (And.intro (from_top G hmay (k : Int) (shutL n2 sh) hfA) (And.intro (to_top G hmay (vk : Int) (shutL n2 sh) hfB) (And.intro hfA.low hfB.low)))
      clear hrA hrB hfA hfB hlA hlB hmc HGV HCR HBG HFX
      have hbbg := (HS.out.now).2.2.2.1
      have qbg_0 := hbbg.cell 0 rfl
      have qbg_1 := hbbg.cell 1 rfl
      have qbg_2 := hbbg.cell 2 rfl
      have lbg := hbbg.lt
      clear hbbg
      have hxa : ki < gA.length := by rw [HLL.out.1]; exact hi2
      have hxb : ki < gB.length := by rw [HLL.out.2]; exact hi2
      obtain ⟨ga, HGA0⟩ : ∃ qz, gA[ki] = qz := ⟨_, rfl⟩
      have HGA := Lib.hid HGA0
      clear HGA0
      obtain ⟨gb, HGB0⟩ : ∃ qz, gB[ki] = qz := ⟨_, rfl⟩
      have HGB := Lib.hid HGB0
      clear HGB0
      have b1 := HTP.out.1 ki
      have b2 := HTP.out.2.1 ki
      have b3 := HTP.out.2.2.1 ki
      have b4 := HTP.out.2.2.2 ki
      rw [dAt_eq gA ki hxa, HGA.out] at b1 b3
      rw [dAt_eq gB ki hxb, HGB.out] at b2 b4
      obtain ⟨fb, fo, hpl, e0⟩ := rd1 (HS.out.now).2.1 ki hxa
      have hix := fun wx => run_indexS (P := Try.prog) wx 22 3 iI 1 Try.underlying22 hiI hsI ax n2 cx ki hi2 ((HS.out.now).2.1.some_ (by have := hi2; omega))
      rw [hpl] at hix
      have HIf := Lib.hid hix
      clear hix hpl
      rw [HGA.out] at e0
      replace HS := Lib.hid ((Ev.cell e0).and HS.out)
      clear e0
      obtain ⟨zb, zo, hpl, e0⟩ := rd1 (HS.out.now).2.1 ki hxb
      have hix := fun wx => run_indexS (P := Try.prog) wx 22 3 iI 1 Try.underlying22 hiI hsI ay n2 cy ki hi2 ((HS.out.now).2.1.some_ (by have := hi2; omega))
      rw [hpl] at hix
      have HIz := Lib.hid hix
      clear hix hpl
      rw [HGB.out] at e0
      replace HS := Lib.hid ((Ev.cell e0).and HS.out)
      clear e0
      have hok := HOK.out
      unfold okM at hok
      rw [dAt_eq gA ki hxa, dAt_eq gB ki hxb, HGA.out, HGB.out] at hok
      have o1 := hok.1
      have o2 := hok.2.1
      have o3 := hok.2.2
      clear hok
      have ZA := Lib.hid (show decide (ga < 0) = false from by simp; omega)
      have ZB := Lib.hid (show decide (gb < 0) = false from by simp; omega)
      have ZS := Lib.hid (show (x != x) = false from by simp)
      have HEI := Lib.hid (show decide (0 ≤ (ki : Int) ∧ (ki : Int) < (G.E.length : Int)) = true from decide_eq_true ⟨by omega, by have := he.out; omega⟩)
      go_upto_region 13 with fail
      clear qbg_0 qbg_1 qbg_2 lbg
      have HSd := Lib.hid HS.out.drew
      refine wp_region_inv3 (act := ?actdm_r13_0) (Mod (fun _ => False)) (fun i => (dm_r13_0_F ki x ga gb a1 a2 a3 n1 d1 n2 d2 n3 d3 ax ay cx cy fb fo zb zo).getD i (fun _ _ => True)) (fun i => dm_r13_0_D.getD i []) (by kernel_rfl) (by kernel_rfl) (by kernel_rfl) (by kernel_rfl) (fun _ => Mod.refl _ _)
        (fun _ _ _ h k => h.trans k (fun _ _ e => e) (fun _ _ e => e)) ?hactdm_r13_0 (stable_list ?_) ?_ ?_
      case hactdm_r13_0 => intro vs; simp only [putAll, Nat.zero_add, Nat.reduceAdd, Act.put, List.setIfInBounds_toArray, List.set_cons_succ, List.set_cons_zero]; exact rfl
      · unfold dm_r13_0_F
        exact stable_cons (stable_val _) <| stable_cons (stable_val _) <| stable_cons (stable_val _) <| stable_cons (stable_val _) <| stable_cons (stable_val _) <| stable_cons (stable_val _) <| stable_cons (stable_val _) <| stable_cons (stable_val _) <| stable_cons (stable_val _) <| stable_cons (stable_val _) <| stable_cons (stable_val _) <| stable_cons (stable_val _) <| stable_cons (stable_val _) <| stable_cons (stable_val _) <| stable_cons (stable_val _) <| stable_cons (stable_val _) <| stable_cons (stable_val _) <| stable_cons (stable_val _) <| stable_cons (stable_val _) <| stable_cons (stable_val _) <| stable_cons (stable_val _) <| stable_cons (stable_val _) <| stable_cons (stable_val _) <| stable_cons (stable_val _) <| stable_cons (stable_val _) <| stable_cons (stable_val _) <| stable_cons (stable_val _) <| stable_cons (stable_val _) <| stable_cons (stable_val _) <| stable_cons (stable_val _) <| stable_cons (stable_val _) <| stable_cons (stable_val _) <| stable_cons (stable_val _) <| stable_cons (stable_val _) <| stable_cons (stable_val _) <| stable_nil
      · refine opsOkA_cons ?_ ?_
        · intro K vs W hR hD hK
          clear hD
          try dsimp only at hK ⊢
          simp only [Act.put, List.setIfInBounds_toArray, List.set_cons_succ, List.set_cons_zero] at hK
          go_wp2
          exact hK _ _ rfl (Mod.refl _ _)
        refine opsOkA_cons ?_ ?_
        · intro K vs W hR hD hK
          have dq0 : vs 0 = .bool true := hD 0 (by decide)
          clear hD
          try dsimp only at hK ⊢
          simp only [Act.put, List.setIfInBounds_toArray, List.set_cons_succ, List.set_cons_zero] at hK
          generalize vs 0 = vq0 at hK dq0 ⊢
          subst vq0
          go_wp2
          exact hK _ _ rfl (Mod.refl _ _)
        refine opsOkA_cons ?_ ?_
        · intro K vs W hR hD hK
          have dq1 : vs 1 = .bool false := hD 1 (by decide)
          clear hD
          try dsimp only at hK ⊢
          simp only [Act.put, List.setIfInBounds_toArray, List.set_cons_succ, List.set_cons_zero] at hK
          generalize vs 1 = vq1 at hK dq1 ⊢
          subst vq1
          go_wp2
          exact hK _ _ rfl (Mod.refl _ _)
        refine opsOkA_cons ?_ ?_
        · intro K vs W hR hD hK
          have dq2 : vs 2 = .bool false := hD 2 (by decide)
          clear hD
          try dsimp only at hK ⊢
          simp only [Act.put, List.setIfInBounds_toArray, List.set_cons_succ, List.set_cons_zero] at hK
          generalize vs 2 = vq2 at hK dq2 ⊢
          subst vq2
          have hbx := (HSd.out.at (hR)).2.2.2.2.2.1
          have q0 := hbx.cell 0 rfl
          have q1 := hbx.cell 1 rfl
          have q2 := hbx.cell 2 rfl
          go_wp2
          exact hK _ _ rfl (Mod.refl _ _)
        refine opsOkA_cons ?_ ?_
        · intro K vs W hR hD hK
          have dq2 : vs 2 = .bool false := hD 2 (by decide)
          clear hD
          try dsimp only at hK ⊢
          simp only [Act.put, List.setIfInBounds_toArray, List.set_cons_succ, List.set_cons_zero] at hK
          generalize vs 2 = vq2 at hK dq2 ⊢
          subst vq2
          go_wp2
          exact hK _ _ rfl (Mod.refl _ _)
        refine opsOkA_cons ?_ ?_
        · intro K vs W hR hD hK
          have dq2 : vs 2 = .bool false := hD 2 (by decide)
          have dq3 : vs 3 = .agg #[.slice a1 n1 d1, .slice a2 n2 d2, .slice a3 n3 d3] := hD 3 (by decide)
          have dq4 : vs 4 = .int .i64 (ki : Int) := hD 4 (by decide)
          clear hD
          try dsimp only at hK ⊢
          simp only [Act.put, List.setIfInBounds_toArray, List.set_cons_succ, List.set_cons_zero] at hK
          generalize vs 2 = vq2 at hK dq2 ⊢
          subst vq2
          generalize vs 3 = vq3 at hK dq3 ⊢
          subst vq3
          generalize vs 4 = vq4 at hK dq4 ⊢
          subst vq4
          go_wp2_with (go_at_call 17; refine (r4edge_any G W a1 n1 d1 a2 n2 d2 a3 n3 d3 ((HSd.out.at (hR)).2.2.2.2.2.2.2.1) (by omega) (ki : Int)).mono ?_; rintro e' w' ⟨rfl, hm'⟩; rw [HEI.out])
          exact hK _ _ rfl hm'
        refine opsOkA_cons ?_ ?_
        · intro K vs W hR hD hK
          have dq2 : vs 2 = .bool false := hD 2 (by decide)
          have dq5 : vs 5 = .bool true := hD 5 (by decide)
          clear hD
          try dsimp only at hK ⊢
          simp only [Act.put, List.setIfInBounds_toArray, List.set_cons_succ, List.set_cons_zero] at hK
          generalize vs 2 = vq2 at hK dq2 ⊢
          subst vq2
          generalize vs 5 = vq5 at hK dq5 ⊢
          subst vq5
          go_wp2
          exact hK _ _ rfl (Mod.refl _ _)
        refine opsOkA_cons ?_ ?_
        · intro K vs W hR hD hK
          have dq2 : vs 2 = .bool false := hD 2 (by decide)
          have dq6 : vs 6 = .bool false := hD 6 (by decide)
          clear hD
          try dsimp only at hK ⊢
          simp only [Act.put, List.setIfInBounds_toArray, List.set_cons_succ, List.set_cons_zero] at hK
          generalize vs 2 = vq2 at hK dq2 ⊢
          subst vq2
          generalize vs 6 = vq6 at hK dq6 ⊢
          subst vq6
          go_wp2
          exact hK _ _ rfl (Mod.refl _ _)
        refine opsOkA_cons ?_ ?_
        · intro K vs W hR hD hK
          have dq7 : vs 7 = .bool false := hD 7 (by decide)
          clear hD
          try dsimp only at hK ⊢
          simp only [Act.put, List.setIfInBounds_toArray, List.set_cons_succ, List.set_cons_zero] at hK
          generalize vs 7 = vq7 at hK dq7 ⊢
          subst vq7
          go_wp2
          exact hK _ _ rfl (Mod.refl _ _)
        refine opsOkA_cons ?_ ?_
        · intro K vs W hR hD hK
          have dq8 : vs 8 = .bool false := hD 8 (by decide)
          clear hD
          try dsimp only at hK ⊢
          simp only [Act.put, List.setIfInBounds_toArray, List.set_cons_succ, List.set_cons_zero] at hK
          generalize vs 8 = vq8 at hK dq8 ⊢
          subst vq8
          go_wp2
          exact hK _ _ rfl (Mod.refl _ _)
        refine opsOkA_cons ?_ ?_
        · intro K vs W hR hD hK
          have dq8 : vs 8 = .bool false := hD 8 (by decide)
          clear hD
          try dsimp only at hK ⊢
          simp only [Act.put, List.setIfInBounds_toArray, List.set_cons_succ, List.set_cons_zero] at hK
          generalize vs 8 = vq8 at hK dq8 ⊢
          subst vq8
          go_wp2
          exact hK _ _ rfl (Mod.refl _ _)
        refine opsOkA_cons ?_ ?_
        · intro K vs W hR hD hK
          have dq8 : vs 8 = .bool false := hD 8 (by decide)
          have dq9 : vs 9 = .slice ax n2 cx := hD 9 (by decide)
          have dq10 : vs 10 = .int .i64 (ki : Int) := hD 10 (by decide)
          clear hD
          try dsimp only at hK ⊢
          simp only [Act.put, List.setIfInBounds_toArray, List.set_cons_succ, List.set_cons_zero] at hK
          generalize vs 8 = vq8 at hK dq8 ⊢
          subst vq8
          generalize vs 9 = vq9 at hK dq9 ⊢
          subst vq9
          generalize vs 10 = vq10 at hK dq10 ⊢
          subst vq10
          have hix := HIf.out
          go_wp2_with fail
          exact hK _ _ rfl (Mod.refl _ _)
        refine opsOkA_cons ?_ ?_
        · intro K vs W hR hD hK
          have dq8 : vs 8 = .bool false := hD 8 (by decide)
          have dq11 : vs 11 = .pointer (some ⟨fb, fo, none⟩) := hD 11 (by decide)
          clear hD
          try dsimp only at hK ⊢
          simp only [Act.put, List.setIfInBounds_toArray, List.set_cons_succ, List.set_cons_zero] at hK
          generalize vs 8 = vq8 at hK dq8 ⊢
          subst vq8
          generalize vs 11 = vq11 at hK dq11 ⊢
          subst vq11
          have c0 := (HSd.out.at (hR)).2.1
          go_wp2
          exact hK _ _ rfl (Mod.refl _ _)
        refine opsOkA_cons ?_ ?_
        · intro K vs W hR hD hK
          have dq8 : vs 8 = .bool false := hD 8 (by decide)
          have dq12 : vs 12 = .int .i64 ga := hD 12 (by decide)
          clear hD
          try dsimp only at hK ⊢
          simp only [Act.put, List.setIfInBounds_toArray, List.set_cons_succ, List.set_cons_zero] at hK
          generalize vs 8 = vq8 at hK dq8 ⊢
          subst vq8
          generalize vs 12 = vq12 at hK dq12 ⊢
          subst vq12
          have zz := ZA.out
          go_wp2
          exact hK _ _ rfl (Mod.refl _ _)
        refine opsOkA_cons ?_ ?_
        · intro K vs W hR hD hK
          have dq8 : vs 8 = .bool false := hD 8 (by decide)
          have dq13 : vs 13 = .bool false := hD 13 (by decide)
          clear hD
          try dsimp only at hK ⊢
          simp only [Act.put, List.setIfInBounds_toArray, List.set_cons_succ, List.set_cons_zero] at hK
          generalize vs 8 = vq8 at hK dq8 ⊢
          subst vq8
          generalize vs 13 = vq13 at hK dq13 ⊢
          subst vq13
          go_wp2
          exact hK _ _ rfl (Mod.refl _ _)
        refine opsOkA_cons ?_ ?_
        · intro K vs W hR hD hK
          have dq14 : vs 14 = .bool false := hD 14 (by decide)
          clear hD
          try dsimp only at hK ⊢
          simp only [Act.put, List.setIfInBounds_toArray, List.set_cons_succ, List.set_cons_zero] at hK
          generalize vs 14 = vq14 at hK dq14 ⊢
          subst vq14
          go_wp2
          exact hK _ _ rfl (Mod.refl _ _)
        refine opsOkA_cons ?_ ?_
        · intro K vs W hR hD hK
          have dq15 : vs 15 = .bool false := hD 15 (by decide)
          clear hD
          try dsimp only at hK ⊢
          simp only [Act.put, List.setIfInBounds_toArray, List.set_cons_succ, List.set_cons_zero] at hK
          generalize vs 15 = vq15 at hK dq15 ⊢
          subst vq15
          go_wp2
          exact hK _ _ rfl (Mod.refl _ _)
        refine opsOkA_cons ?_ ?_
        · intro K vs W hR hD hK
          have dq15 : vs 15 = .bool false := hD 15 (by decide)
          clear hD
          try dsimp only at hK ⊢
          simp only [Act.put, List.setIfInBounds_toArray, List.set_cons_succ, List.set_cons_zero] at hK
          generalize vs 15 = vq15 at hK dq15 ⊢
          subst vq15
          go_wp2
          exact hK _ _ rfl (Mod.refl _ _)
        refine opsOkA_cons ?_ ?_
        · intro K vs W hR hD hK
          have dq15 : vs 15 = .bool false := hD 15 (by decide)
          have dq16 : vs 16 = .slice ay n2 cy := hD 16 (by decide)
          have dq17 : vs 17 = .int .i64 (ki : Int) := hD 17 (by decide)
          clear hD
          try dsimp only at hK ⊢
          simp only [Act.put, List.setIfInBounds_toArray, List.set_cons_succ, List.set_cons_zero] at hK
          generalize vs 15 = vq15 at hK dq15 ⊢
          subst vq15
          generalize vs 16 = vq16 at hK dq16 ⊢
          subst vq16
          generalize vs 17 = vq17 at hK dq17 ⊢
          subst vq17
          have hix := HIz.out
          go_wp2_with fail
          exact hK _ _ rfl (Mod.refl _ _)
        refine opsOkA_cons ?_ ?_
        · intro K vs W hR hD hK
          have dq15 : vs 15 = .bool false := hD 15 (by decide)
          have dq18 : vs 18 = .pointer (some ⟨zb, zo, none⟩) := hD 18 (by decide)
          clear hD
          try dsimp only at hK ⊢
          simp only [Act.put, List.setIfInBounds_toArray, List.set_cons_succ, List.set_cons_zero] at hK
          generalize vs 15 = vq15 at hK dq15 ⊢
          subst vq15
          generalize vs 18 = vq18 at hK dq18 ⊢
          subst vq18
          have c0 := (HSd.out.at (hR)).1
          go_wp2
          exact hK _ _ rfl (Mod.refl _ _)
        refine opsOkA_cons ?_ ?_
        · intro K vs W hR hD hK
          have dq15 : vs 15 = .bool false := hD 15 (by decide)
          have dq19 : vs 19 = .int .i64 gb := hD 19 (by decide)
          clear hD
          try dsimp only at hK ⊢
          simp only [Act.put, List.setIfInBounds_toArray, List.set_cons_succ, List.set_cons_zero] at hK
          generalize vs 15 = vq15 at hK dq15 ⊢
          subst vq15
          generalize vs 19 = vq19 at hK dq19 ⊢
          subst vq19
          have zz := ZB.out
          go_wp2
          exact hK _ _ rfl (Mod.refl _ _)
        refine opsOkA_cons ?_ ?_
        · intro K vs W hR hD hK
          have dq15 : vs 15 = .bool false := hD 15 (by decide)
          have dq20 : vs 20 = .bool false := hD 20 (by decide)
          clear hD
          try dsimp only at hK ⊢
          simp only [Act.put, List.setIfInBounds_toArray, List.set_cons_succ, List.set_cons_zero] at hK
          generalize vs 15 = vq15 at hK dq15 ⊢
          subst vq15
          generalize vs 20 = vq20 at hK dq20 ⊢
          subst vq20
          go_wp2
          exact hK _ _ rfl (Mod.refl _ _)
        refine opsOkA_cons ?_ ?_
        · intro K vs W hR hD hK
          have dq21 : vs 21 = .bool false := hD 21 (by decide)
          clear hD
          try dsimp only at hK ⊢
          simp only [Act.put, List.setIfInBounds_toArray, List.set_cons_succ, List.set_cons_zero] at hK
          generalize vs 21 = vq21 at hK dq21 ⊢
          subst vq21
          go_wp2
          exact hK _ _ rfl (Mod.refl _ _)
        refine opsOkA_cons ?_ ?_
        · intro K vs W hR hD hK
          have dq22 : vs 22 = .bool false := hD 22 (by decide)
          clear hD
          try dsimp only at hK ⊢
          simp only [Act.put, List.setIfInBounds_toArray, List.set_cons_succ, List.set_cons_zero] at hK
          generalize vs 22 = vq22 at hK dq22 ⊢
          subst vq22
          go_wp2
          exact hK _ _ rfl (Mod.refl _ _)
        refine opsOkA_cons ?_ ?_
        · intro K vs W hR hD hK
          have dq22 : vs 22 = .bool false := hD 22 (by decide)
          clear hD
          try dsimp only at hK ⊢
          simp only [Act.put, List.setIfInBounds_toArray, List.set_cons_succ, List.set_cons_zero] at hK
          generalize vs 22 = vq22 at hK dq22 ⊢
          subst vq22
          go_wp2
          exact hK _ _ rfl (Mod.refl _ _)
        refine opsOkA_cons ?_ ?_
        · intro K vs W hR hD hK
          have dq22 : vs 22 = .bool false := hD 22 (by decide)
          have dq23 : vs 23 = .slice ax n2 cx := hD 23 (by decide)
          have dq24 : vs 24 = .int .i64 (ki : Int) := hD 24 (by decide)
          clear hD
          try dsimp only at hK ⊢
          simp only [Act.put, List.setIfInBounds_toArray, List.set_cons_succ, List.set_cons_zero] at hK
          generalize vs 22 = vq22 at hK dq22 ⊢
          subst vq22
          generalize vs 23 = vq23 at hK dq23 ⊢
          subst vq23
          generalize vs 24 = vq24 at hK dq24 ⊢
          subst vq24
          have hix := HIf.out
          go_wp2_with fail
          exact hK _ _ rfl (Mod.refl _ _)
        refine opsOkA_cons ?_ ?_
        · intro K vs W hR hD hK
          have dq22 : vs 22 = .bool false := hD 22 (by decide)
          have dq25 : vs 25 = .pointer (some ⟨fb, fo, none⟩) := hD 25 (by decide)
          clear hD
          try dsimp only at hK ⊢
          simp only [Act.put, List.setIfInBounds_toArray, List.set_cons_succ, List.set_cons_zero] at hK
          generalize vs 22 = vq22 at hK dq22 ⊢
          subst vq22
          generalize vs 25 = vq25 at hK dq25 ⊢
          subst vq25
          have c0 := (HSd.out.at (hR)).2.1
          go_wp2
          exact hK _ _ rfl (Mod.refl _ _)
        refine opsOkA_cons ?_ ?_
        · intro K vs W hR hD hK
          have dq22 : vs 22 = .bool false := hD 22 (by decide)
          clear hD
          try dsimp only at hK ⊢
          simp only [Act.put, List.setIfInBounds_toArray, List.set_cons_succ, List.set_cons_zero] at hK
          generalize vs 22 = vq22 at hK dq22 ⊢
          subst vq22
          go_wp2
          exact hK _ _ rfl (Mod.refl _ _)
        refine opsOkA_cons ?_ ?_
        · intro K vs W hR hD hK
          have dq22 : vs 22 = .bool false := hD 22 (by decide)
          clear hD
          try dsimp only at hK ⊢
          simp only [Act.put, List.setIfInBounds_toArray, List.set_cons_succ, List.set_cons_zero] at hK
          generalize vs 22 = vq22 at hK dq22 ⊢
          subst vq22
          go_wp2
          exact hK _ _ rfl (Mod.refl _ _)
        refine opsOkA_cons ?_ ?_
        · intro K vs W hR hD hK
          have dq22 : vs 22 = .bool false := hD 22 (by decide)
          have dq27 : vs 27 = .slice ay n2 cy := hD 27 (by decide)
          have dq28 : vs 28 = .int .i64 (ki : Int) := hD 28 (by decide)
          clear hD
          try dsimp only at hK ⊢
          simp only [Act.put, List.setIfInBounds_toArray, List.set_cons_succ, List.set_cons_zero] at hK
          generalize vs 22 = vq22 at hK dq22 ⊢
          subst vq22
          generalize vs 27 = vq27 at hK dq27 ⊢
          subst vq27
          generalize vs 28 = vq28 at hK dq28 ⊢
          subst vq28
          have hix := HIz.out
          go_wp2_with fail
          exact hK _ _ rfl (Mod.refl _ _)
        refine opsOkA_cons ?_ ?_
        · intro K vs W hR hD hK
          have dq22 : vs 22 = .bool false := hD 22 (by decide)
          have dq29 : vs 29 = .pointer (some ⟨zb, zo, none⟩) := hD 29 (by decide)
          clear hD
          try dsimp only at hK ⊢
          simp only [Act.put, List.setIfInBounds_toArray, List.set_cons_succ, List.set_cons_zero] at hK
          generalize vs 22 = vq22 at hK dq22 ⊢
          subst vq22
          generalize vs 29 = vq29 at hK dq29 ⊢
          subst vq29
          have c0 := (HSd.out.at (hR)).1
          go_wp2
          exact hK _ _ rfl (Mod.refl _ _)
        refine opsOkA_cons ?_ ?_
        · intro K vs W hR hD hK
          have dq22 : vs 22 = .bool false := hD 22 (by decide)
          have dq26 : vs 26 = .int .i64 ga := hD 26 (by decide)
          have dq30 : vs 30 = .int .i64 gb := hD 30 (by decide)
          clear hD
          try dsimp only at hK ⊢
          simp only [Act.put, List.setIfInBounds_toArray, List.set_cons_succ, List.set_cons_zero] at hK
          generalize vs 22 = vq22 at hK dq22 ⊢
          subst vq22
          generalize vs 26 = vq26 at hK dq26 ⊢
          subst vq26
          generalize vs 30 = vq30 at hK dq30 ⊢
          subst vq30
          go_wp2
          exact hK _ _ rfl (Mod.refl _ _)
        refine opsOkA_cons ?_ ?_
        · intro K vs W hR hD hK
          have dq22 : vs 22 = .bool false := hD 22 (by decide)
          clear hD
          try dsimp only at hK ⊢
          simp only [Act.put, List.setIfInBounds_toArray, List.set_cons_succ, List.set_cons_zero] at hK
          generalize vs 22 = vq22 at hK dq22 ⊢
          subst vq22
          go_wp2
          exact hK _ _ rfl (Mod.refl _ _)
        refine opsOkA_cons ?_ ?_
        · intro K vs W hR hD hK
          have dq22 : vs 22 = .bool false := hD 22 (by decide)
          have dq31 : vs 31 = .int .i64 x := hD 31 (by decide)
          have dq32 : vs 32 = .int .i64 x := hD 32 (by decide)
          clear hD
          try dsimp only at hK ⊢
          simp only [Act.put, List.setIfInBounds_toArray, List.set_cons_succ, List.set_cons_zero] at hK
          generalize vs 22 = vq22 at hK dq22 ⊢
          subst vq22
          generalize vs 31 = vq31 at hK dq31 ⊢
          subst vq31
          generalize vs 32 = vq32 at hK dq32 ⊢
          subst vq32
          have zz := ZS.out
          go_wp2
          exact hK _ _ rfl (Mod.refl _ _)
        refine opsOkA_cons ?_ ?_
        · intro K vs W hR hD hK
          have dq22 : vs 22 = .bool false := hD 22 (by decide)
          have dq33 : vs 33 = .bool false := hD 33 (by decide)
          clear hD
          try dsimp only at hK ⊢
          simp only [Act.put, List.setIfInBounds_toArray, List.set_cons_succ, List.set_cons_zero] at hK
          generalize vs 22 = vq22 at hK dq22 ⊢
          subst vq22
          generalize vs 33 = vq33 at hK dq33 ⊢
          subst vq33
          go_wp2
          exact hK _ _ rfl (Mod.refl _ _)
        exact opsOkA_nil
      · intro vs wq6 hR hF
        have dq34 : vs 34 = .bool false := hF 34 (by decide)
        clear hF
        try dsimp only
        generalize vs 34 = vq34 at dq34 ⊢
        subst dq34
        replace HS := Lib.hid (HSd.out.step hR)
        clear HSd hR
        have hbbg := (HS.out.now).2.2.2.2.2.1
        have qbg_0 := hbbg.cell 0 rfl
        have qbg_1 := hbbg.cell 1 rfl
        have qbg_2 := hbbg.cell 2 rfl
        have lbg := hbbg.lt
        clear hbbg
        clear ZA ZB ZS HEI o1 o2 o3 b1 b2 b3 b4 hxa hxb HGA HGB HIf HIz
        go_wp2_with fail
        clear qbg_0 qbg_1 qbg_2 lbg
        replace HS := Lib.hid ((Ev.mod wq6).and HS.out)
        go_loopw [20] (fun iv wr => ∃ j : Nat, j ≤ ki ∧ iv = .int .i64 j ∧ Mod (fun _ => False) wq6 wr) (fun iv _ => ki - (intOf iv).toNat)
        case atStart => exact ⟨0, by omega, rfl, Mod.refl _ _⟩
        case round =>
          obtain ⟨j, hj, rfl, hmr⟩ := hrel
          obtain ⟨wo, hwo⟩ : ∃ x : World, x = wr := ⟨_, rfl⟩
          subst hwo
          replace HS := Lib.hid (HS.out.step hmr)
          clear hmr
          have hbbg := (HS.out.now).2.2.2.2.2.2.1
          have qbg_0 := hbbg.cell 0 rfl
          have qbg_1 := hbbg.cell 1 rfl
          have qbg_2 := hbbg.cell 2 rfl
          have lbg := hbbg.lt
          clear hbbg
          by_cases hlj : j < ki
          case pos =>
            have z0 : decide ((j : Int) < (ki : Int)) = true := by simp; omega
            have hj2 : j < n2 := by omega
            have hxa : j < gA.length := by rw [HLL.out.1]; exact hj2
            have hxb : j < gB.length := by rw [HLL.out.2]; exact hj2
            obtain ⟨ga, HGA0⟩ : ∃ qz, gA[j] = qz := ⟨_, rfl⟩
            have HGA := Lib.hid HGA0
            clear HGA0
            obtain ⟨gb, HGB0⟩ : ∃ qz, gB[j] = qz := ⟨_, rfl⟩
            have HGB := Lib.hid HGB0
            clear HGB0
            have b1 := HTP.out.1 j
            have b2 := HTP.out.2.1 j
            have b3 := HTP.out.2.2.1 j
            have b4 := HTP.out.2.2.2 j
            rw [dAt_eq gA j hxa, HGA.out] at b1 b3
            rw [dAt_eq gB j hxb, HGB.out] at b2 b4
            obtain ⟨ub, uo, hpl, e0⟩ := rd1 (HS.out.now).2.2.2.2.1 j hxa
            have hix := fun wx => run_indexS (P := Try.prog) wx 22 3 iI 1 Try.underlying22 hiI hsI ax n2 cx j hj2 ((HS.out.now).2.2.2.2.1.some_ (by have := hj2; omega))
            rw [hpl] at hix
            have HIu := Lib.hid hix
            clear hix hpl
            rw [HGA.out] at e0
            replace HS := Lib.hid ((Ev.cell e0).and HS.out)
            clear e0
            obtain ⟨vb, vo, hpl, e0⟩ := rd1 (HS.out.now).2.2.2.2.1 j hxb
            have hix := fun wx => run_indexS (P := Try.prog) wx 22 3 iI 1 Try.underlying22 hiI hsI ay n2 cy j hj2 ((HS.out.now).2.2.2.2.1.some_ (by have := hj2; omega))
            rw [hpl] at hix
            have HIv := Lib.hid hix
            clear hix hpl
            rw [HGB.out] at e0
            replace HS := Lib.hid ((Ev.cell e0).and HS.out)
            clear e0
            have hno := HNO.out j hlj
            rw [dAt_eq gA j hxa, dAt_eq gB j hxb, HGA.out, HGB.out] at hno
            have qu := (HS.out.now).2.1
            have qv := (HS.out.now).1
            have hiu := HIu.out
            have hiv := HIv.out
            by_cases c1 : 0 ≤ ga
            case neg =>
              have zz : decide (0 ≤ ga) = false := decide_eq_false c1
              clear hno
              go_upto_region 18 with fail
              go_quiet (fail)
              go_wp2_with fail
              go_roundw
              case rel => exact ⟨j + 1, hlj, by go_num, ((HS.out.now).2.2.1).of2 (Mod.drewN _ _ _)⟩
              case measure => simp [intOf]; omega
            case pos =>
              have z1 : decide (0 ≤ ga) = true := decide_eq_true c1
              by_cases c2 : 0 ≤ gb
              case neg =>
                have zz : decide (0 ≤ gb) = false := decide_eq_false c2
                clear hno
                go_upto_region 18 with fail
                go_quiet (fail)
                go_wp2_with fail
                go_roundw
                case rel => exact ⟨j + 1, hlj, by go_num, ((HS.out.now).2.2.1).of2 (Mod.drewN _ _ _)⟩
                case measure => simp [intOf]; omega
              case pos =>
                have z2 : decide (0 ≤ gb) = true := decide_eq_true c2
                have hno2 := hno c1 c2
                have z3 : decide (ga + gb ≤ x) = false := decide_eq_false (by omega)
                clear hno
                go_upto_region 18 with fail
                go_quiet (fail)
                go_wp2_with fail
                go_roundw
                case rel => exact ⟨j + 1, hlj, by go_num, ((HS.out.now).2.2.1).of2 (Mod.drewN _ _ _)⟩
                case measure => simp [intOf]; omega
          case neg =>
            obtain rfl : ki = j := by omega
            have z0 : decide ((ki : Int) < (ki : Int)) = false := by simp
            go_wp2_with fail
            refine (awake19_any _).mono ?_
            rintro e wq7 ⟨rfl, hmz⟩
            replace HS := Lib.hid (HS.out.step hmz)
            clear hmz
            clear qbg_0 qbg_1 qbg_2 lbg
            have hbbg := (HS.out.now).2.2.2.2.2.2.1
            have qbg_0 := hbbg.cell 0 rfl
            have qbg_1 := hbbg.cell 1 rfl
            have qbg_2 := hbbg.cell 2 rfl
            have lbg := hbbg.lt
            clear hbbg
            go_wp2_with fail
            go_ret
            exact ⟨rfl, (HS.out.now).2.2.2.2.2.2.2.2.2.2.2⟩
theorem dmeets19_law (w : World) (a0 : Option Addr) (m c0 : Nat) (l : List Int) (ok : (encSlice (encInt .i64)).ok w (.slice a0 m c0, l)) (a4 : Option Addr) (n4 d4 : Nat) (sh : List Int) (ok4 : (encSlice (encInt .i64)).ok w (.slice a4 n4 d4, sh)) (ev : Int) (_ : (Lit.int .i64 ev).wf = true) (nv : Int) (_ : (Lit.int .i64 nv).wf = true) :
    Calls Try.prog 4 #[.slice a0 m c0, .slice a4 n4 d4, .int .i64 ev, .int .i64 nv] w fun e w' => e = .returned (.bool true) ∧ Below w.heap.size w w' := by
  obtain ⟨hn, hr, _⟩ := ok_ints ok
  obtain ⟨hn4, hr4, _⟩ := ok_ints ok4
  exact (dmeets19_all w a0 m c0 l hn hr a4 n4 d4 sh hn4 hr4 ev nv).mono fun e w' h => ⟨h.1, h.2.below (Nat.le_refl _) (fun _ e => e.elim)⟩
end Go.Proofs.Ytbjdjafkpldbnaa
