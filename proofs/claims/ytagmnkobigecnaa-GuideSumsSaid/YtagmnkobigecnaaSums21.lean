/- GuideSums walked. -/
import Derived.Test.YtagmnkobigecnaaKGuide
import Derived.Test.YtagmnkobigecnaaSumsP
import Derived.Test.YtagmnkobigecnaaKStroll
import Derived.Test.YtagmnkobigecnaaRWalkA
import Derived.Test.YtagmnkobigecnaaRound
import Derived.Test.YtagmnkobigecnaaOpens
import Derived.Deep.DeepCutAuto
import Derived.Deep.CutBlock
namespace Go.Proofs.Ytagmnkobigecnaa
open Go.RowKit Mile
set_option maxRecDepth 100000
/-- What each operation of the statement leaves. -/
def gs_r19_0_F (a1 : Option Addr) (a2 : Option Addr) (a3 : Option Addr) (n1 : Nat) (d1 : Nat) (n2 : Nat) (d2 : Nat) (n3 : Nat) (d3 : Nat) (al : Option Addr) (nl : Nat) (cl : Nat) (k : Nat) (k1 : Nat) (bh : Nat) (c1 : Int) (c2 : Int) (c4 : Int) (e4 : Int) (fb : Nat) (fo : Nat) : List (Value → World → Prop) :=
  [IsV (.pointer (some ⟨bh, 0, none⟩)),
   IsV (.int .i64 c1),
   IsV (.bool false),
   IsV (.bool false),
   IsV (.agg #[.slice a1 n1 d1, .slice a2 n2 d2, .slice a3 n3 d3]),
   IsV (.pointer (some ⟨bh, 1, none⟩)),
   IsV (.int .i64 c2),
   IsV (.bool true),
   IsV (.bool false),
   IsV (.bool false),
   IsV (.bool false),
   IsV (.slice al nl cl),
   IsV (.int .i64 (k : Int)),
   IsV (.int .i64 (k1 : Int)),
   IsV (.pointer (some ⟨fb, fo, none⟩)),
   IsV (.pointer (some ⟨fb, fo + 3, none⟩)),
   IsV (.int .i64 e4),
   IsV (.pointer (some ⟨bh, 3, none⟩)),
   IsV (.int .i64 c4),
   IsV (.bool false),
   IsV (.bool false)]
def gs_r19_0_D : List (List Nat) := [[], [0], [1], [2], [3], [3], [3, 5], [3, 4, 6], [3, 7], [3, 8], [9], [10], [10], [10, 12], [10, 11, 13], [10, 14], [10, 15], [10], [10, 17], [10, 16, 18], [10, 19]]

set_option maxHeartbeats 64000000 in
theorem gsums_all (w : World) (a0 : Option Addr) (m c0 : Nat) (l : List Int) (hm : l.length = m) (hr : Rd w 1 (.slice a0 m c0) m (l.map (Value.int .i64))) (at_ : Int) (a4 : Option Addr) (n4 d4 : Nat) (st : List Int) (hn4 : st.length = n4) (hr4 : Rd w 1 (.slice a4 n4 d4) n4 (st.map (Value.int .i64))) :
    Calls Try.prog 6 #[.slice a0 m c0, .int .i64 at_, .slice a4 n4 d4] w fun e w' => e = .returned (.bool true) ∧ Mod (fun _ => False) w w' := by
  obtain ⟨iE, hiE, hzE, hsE, hbE⟩ := info_parts GR.infoE
  obtain ⟨iH, hiH, hzH, hsH, hbH⟩ := info_parts infoHi
  have HN4 := Lib.hid hn4
  clear hn4
  by_cases hlen0 : m ≤ 100
  case neg =>
    have HS : Hid (Ev (Mod (fun _ => False) w) w) := Lib.hid (Ev.mod w)
    have z0 : decide (100 < (m : Int)) = true := by simp; omega
    have z1 : decide (100 < m) = true := by simp; omega
    go_enter Try.func6, Try.ntmps6
    go_wp2_with fail
    refine (awake21_any _).mono ?_
    rintro e wq1 ⟨rfl, hm⟩
    replace HS := Lib.hid (HS.out.step hm)
    clear hm
    go_wp2_with fail
    go_ret
    exact ⟨rfl, HS.out.now⟩
  by_cases hlen1 : n4 ≤ 40
  case neg =>
    have HS : Hid (Ev (Mod (fun _ => False) w) w) := Lib.hid (Ev.mod w)
    have y0 : decide (100 < (m : Int)) = false := by simp; omega
    have z0 : decide (40 < (n4 : Int)) = true := by simp; omega
    have z1 : decide (40 < n4) = true := by simp; omega
    go_enter Try.func6, Try.ntmps6
    go_wp2_with fail
    refine (awake21_any _).mono ?_
    rintro e wq2 ⟨rfl, hm⟩
    replace HS := Lib.hid (HS.out.step hm)
    clear hm
    go_wp2_with fail
    go_ret
    exact ⟨rfl, HS.out.now⟩
  have HS : Hid (Ev (Mod (fun _ => False) w) w) := Lib.hid (Ev.mod w)
  have y0 : decide (100 < (m : Int)) = false := by simp; omega
  have y1 : decide (40 < (n4 : Int)) = false := by simp; omega
  replace HS := Lib.hid ((Ev.rd hr).and HS.out)
  replace HS := Lib.hid ((Ev.rd hr4).and HS.out)
  clear hr hr4
  go_enter Try.func6, Try.ntmps6
  go_wp2_with fail
  refine (made21_any _ a0 m c0 l hm ((HS.out.now).2.1)).mono ?_
  rintro e wq3 ⟨a1, n1, d1, a2, n2, d2, a3, n3, d3, t, p, B, C, rfl, hg, hto, hmm⟩
  replace HS := Lib.hid (HS.out.step hmm)
  clear hmm
  replace HS := Lib.hid ((Ev.gv hg).and HS.out)
  replace HS := Lib.hid ((Ev.to hto).and HS.out)
  clear hg hto y0 y1
  have hmay := Lib.hid (town_may l)
  have hfew := Lib.hid (town_few l)
  obtain ⟨G, hG⟩ : ∃ G, townG l = G := ⟨_, rfl⟩
  rw [hG] at hmay hfew
  rw [hG] at HS
  clear hG
  have hn := Lib.hid ((HS.out.now).2.1.n)
  have he := Lib.hid ((HS.out.now).2.1.e)
  have hb := Lib.hid ((HS.out.now).2.1.b)
  have h1n : n1 ≤ 16 := by have := hfew.out.1.2; have := hn.out; omega
  have h2n : n2 ≤ 67 := by have := hfew.out.2.1.2; have := he.out; omega
  have h2p : 1 ≤ n2 := by have := hfew.out.2.1.1; have := he.out; omega
  have h3n : n3 ≤ 469 := by have := hfew.out.2.2; have := hb.out; omega
  go_wp2_with fail
  obtain ⟨bg, hbg⟩ : ∃ b, wq3.heap.size = b := ⟨_, rfl⟩
  obtain ⟨wq4, hwq4⟩ : ∃ W, World.alloc wq3 (.cells #[.slice a1 n1 d1, .slice a2 n2 d2, .slice a3 n3 d3] 28) = W := ⟨_, rfl⟩
  have hBbg : Blk wq4 bg 28 [.slice a1 n1 d1, .slice a2 n2 d2, .slice a3 n3 d3] := by rw [← hwq4, ← hbg]; exact Blk.new _ 28 [.slice a1 n1 d1, .slice a2 n2 d2, .slice a3 n3 d3]
  have hzbg : wq4.heap.size = bg + 1 := by rw [← hwq4, ← hbg]; exact heap_size_alloc _ _
  replace HS := Lib.hid (HS.out.step (w' := wq4) (by rw [← hwq4]; exact Mod.alloc _ _ _))
  replace HS := Lib.hid ((Ev.blk hBbg).and HS.out)
  try rw [hwq4]
  try rw [hbg]
  clear hzbg hBbg hbg hwq4
  have hbbg := (HS.out.now).1
  have qbg_0 := hbbg.cell 0 rfl
  have qbg_1 := hbbg.cell 1 rfl
  have qbg_2 := hbbg.cell 2 rfl
  have lbg := hbbg.lt
  clear hbbg
  go_wp2_with fail
  refine (round_any at_ (n2 : Int) _ (by omega) (by omega)).mono ?_
  rintro e w' ⟨rfl, rfl⟩
  have hr0 := Int.emod_nonneg (at_) (b := (n2 : Int)) (by omega)
  have hr1 := Int.emod_lt_of_pos (at_) (b := (n2 : Int)) (by omega)
  obtain ⟨er, hr2⟩ := Int.eq_ofNat_of_zero_le hr0
  rw [hr2] at hr1 ⊢
  have HE0 := Lib.hid hr2
  have HE0b := hr1
  clear hr0 hr1 hr2
  go_wp2_with fail
  refine (stroll_any G _ a1 n1 d1 a2 n2 d2 a3 n3 d3 ((HS.out.now).2.2.1) (by omega) (by omega) (er : Int) a4 n4 d4 st HN4.out ((HS.out.now).2.2.2.1) (by omega)).mono ?_
  rintro e wq5 ⟨v', rfl, ⟨aw, cw, rfl, hx'⟩, hmm⟩
  replace HS := Lib.hid (HS.out.step hmm)
  clear hmm
  replace HS := Lib.hid ((Ev.rd hx').and HS.out)
  clear hx'
  clear qbg_0 qbg_1 qbg_2 lbg
  have hbbg := (HS.out.now).2.1
  have qbg_0 := hbbg.cell 0 rfl
  have qbg_1 := hbbg.cell 1 rfl
  have qbg_2 := hbbg.cell 2 rfl
  have lbg := hbbg.lt
  clear hbbg
  obtain ⟨ws, hws⟩ : ∃ l, strollL G (er : Int) st = l := ⟨_, rfl⟩
  have hwk := stroll_wlk G (er : Int) st
  have hwl := stroll_len G (er : Int) st
  rw [hws] at HS hwk hwl ⊢
  have HWS := Lib.hid hws
  have HWK := Lib.hid hwk
  clear hws hwk
  obtain ⟨lw, hlw⟩ : ∃ n, ws.length = n := ⟨_, rfl⟩
  rw [hlw] at HS hwl ⊢
  have HLW := Lib.hid hlw
  have hl4 : lw ≤ 40 := by have := HN4.out; omega
  clear hlw hwl
  have hcw : lw ≤ cw := rd_cap ((HS.out.now).1)
  have hed : edB G (er : Int) = true := decide_eq_true ⟨by omega, by have := he.out; omega⟩
  have hal : allE G ws = true := wlk_all G _ _ HWK.out
  have V1 : Hid (validB G (er : Int) ws = true) := Lib.hid (by unfold validB; rw [hed, HWK.out]; rfl)
  have WT : Hid (wtN G ws = wE G ws) := Lib.hid (by unfold wtN; rw [if_pos hal, wE_all G ws hal])
  have HAL := Lib.hid hal
  clear hed hal
  go_wp2_with fail
  refine (gall_any t p B C G hmay.out _ ((HS.out.now).2.2.1) (er : Int) aw lw cw ws HLW.out ((HS.out.now).1) (by omega)).mono ?_
  rintro e wq6 ⟨v', rfl, ⟨al, cl, rfl, hx'⟩, hmm⟩
  replace HS := Lib.hid (HS.out.step hmm)
  clear hmm
  rw [V1.out, if_pos rfl, WT.out] at hx' ⊢
  obtain ⟨L, hL⟩ : ∃ L, hintsL G (lw + 1) (er : Int) ws (wE G ws) = L := ⟨_, rfl⟩
  rw [hL] at hx' ⊢
  have hst0 := sum_start G lw (er : Int) ws (Nat.le_of_eq HLW.out) HAL.out
  have hnl := hintsL_len G (lw + 1) (er : Int) ws (wE G ws)
  rw [hL] at hst0 hnl
  obtain ⟨nl, hln⟩ : ∃ n, L.length = n := ⟨_, rfl⟩
  rw [hln] at hx' hnl ⊢
  have HLN := Lib.hid hln
  replace HS := Lib.hid ((Ev.rd hx').and HS.out)
  clear hx'
  clear qbg_0 qbg_1 qbg_2 lbg
  have hbbg := (HS.out.now).2.2.1
  have qbg_0 := hbbg.cell 0 rfl
  have qbg_1 := hbbg.cell 1 rfl
  have qbg_2 := hbbg.cell 2 rfl
  have lbg := hbbg.lt
  clear hbbg
  obtain ⟨W0, hW0⟩ : ∃ x, wE G ws = x := ⟨_, rfl⟩
  have hwb := wE_le G hmay.out ws
  rw [hW0] at hst0 hwb
  rw [HLW.out] at hwb
  have hw1 : 0 ≤ W0 := hwb.1
  have hw2 : W0 ≤ 2700000 := by have := hwb.2; omega
  have HW0 := Lib.hid hW0
  have ALL : Hid (wtN G ws = W0) := Lib.hid (by rw [WT.out, hW0])
  clear hwb hL hW0
  obtain ⟨hk0, h04, hx0⟩ := sum_step G hmay.out L 0 W0 hst0
  clear hx0
  rw [hln] at hk0
  have HST0 := Lib.hid hst0
  clear hst0
  go_wp2_with fail
  refine (r4weight_any G hmay.out _ a1 n1 d1 a2 n2 d2 a3 n3 d3 ((HS.out.now).2.2.2.2.1) (by omega) (by omega) aw lw cw ws HLW.out ((HS.out.now).2.1) (by omega)).mono ?_
  rintro e wq7 ⟨rfl, hmm⟩
  replace HS := Lib.hid (HS.out.step hmm)
  clear hmm
  clear qbg_0 qbg_1 qbg_2 lbg
  have hbbg := (HS.out.now).2.2.1
  have qbg_0 := hbbg.cell 0 rfl
  have qbg_1 := hbbg.cell 1 rfl
  have qbg_2 := hbbg.cell 2 rfl
  have lbg := hbbg.lt
  clear hbbg
  rw [ALL.out, HAL.out]
  obtain ⟨zb, zo, hpl, k0, k1, k2, k3⟩ := rd4h ((HS.out.now).1) 0 (by omega)
  rw [h04] at k3
  have hix := fun wx => run_indexS (P := Try.prog) wx 61 56 iH 4 Try.underlying61 hiH hsH al nl cl 0 (by omega) (((HS.out.now).1).some_ (by omega))
  rw [hpl] at hix
  have hix0 : ∀ wx : World, (Instr.indexAt 61 (.slice al nl cl) (.int .i64 0)).run Try.prog wx = .ok (.pointer (some ⟨zb, zo, none⟩)) wx := hix
  clear hix
  clear k0 k1 k2 hpl h04 hln
  have z0 : ((nl : Int) == 0) = false := by simp; omega
  have zz : (W0 != W0) = false := by simp
  go_upto_region 12 with fail
  clear hix0 k3 z0 zz
  go_wp2_with fail
  replace HS := Lib.hid ((Ev.mod wq7).and HS.out)
  go_loopw [12, 14] (fun s i wr => ∃ (k : Nat) (W1 : Int), k ≤ nl ∧ i = .int .i64 k ∧ s = .int .i64 W1 ∧ SumSt G L k W1 ∧ 0 ≤ W1 ∧ W1 ≤ 2700000 ∧ Mod (fun _ => False) wq7 wr) (fun s i _ => nl - (intOf i).toNat)
  case atStart => exact ⟨0, W0, by omega, rfl, rfl, HST0.out, hw1, hw2, Mod.refl _ _⟩
  case round =>
    obtain ⟨k, W1, hk, rfl, rfl, hs, hv1, hv2, hmr⟩ := hrel
    obtain ⟨wo, hwo⟩ : ∃ x : World, x = wr := ⟨_, rfl⟩
    subst hwo
    replace HS := Lib.hid (HS.out.step hmr)
    clear hmr
    clear qbg_0 qbg_1 qbg_2 lbg
    have hbbg := (HS.out.now).2.2.2.1
    have qbg_0 := hbbg.cell 0 rfl
    have qbg_1 := hbbg.cell 1 rfl
    have qbg_2 := hbbg.cell 2 rfl
    have lbg := hbbg.lt
    clear hbbg
    obtain ⟨hkl, h4, h3, hor⟩ := sum_step G hmay.out L k W1 hs
    have hkn : k < nl := by have := HLN.out; omega
    clear hs hk0 hw1 hw2
    obtain ⟨c1, Hc10⟩ : ∃ qz, (L[k]).1 = qz := ⟨_, rfl⟩
    have Hc1 := Lib.hid Hc10
    clear Hc10
    obtain ⟨c2, Hc20⟩ : ∃ qz, (L[k]).2.1 = qz := ⟨_, rfl⟩
    have Hc2 := Lib.hid Hc20
    clear Hc20
    obtain ⟨c3, Hc30⟩ : ∃ qz, (L[k]).2.2.1 = qz := ⟨_, rfl⟩
    have Hc3 := Lib.hid Hc30
    clear Hc30
    obtain ⟨c4, Hc40⟩ : ∃ qz, (L[k]).2.2.2 = qz := ⟨_, rfl⟩
    have Hc4 := Lib.hid Hc40
    clear Hc40
    rw [Hc4.out] at h4
    rw [Hc3.out] at h3
    rw [Hc1.out, Hc2.out, Hc3.out] at hor
    have HOR := Lib.hid hor
    clear hor
    obtain ⟨eb, eo, hpl, e0, e1, e2, e3⟩ := rd4h (HS.out.now).2.1 k hkl
    have hix := fun wx => run_indexS (P := Try.prog) wx 61 56 iH 4 Try.underlying61 hiH hsH al nl cl k hkn ((HS.out.now).2.1.some_ (by have := hkn; omega))
    rw [hpl] at hix
    have HIe := Lib.hid hix
    clear hix hpl
    rw [Hc1.out] at e0
    replace HS := Lib.hid ((Ev.cell e0).and HS.out)
    clear e0
    rw [Hc2.out] at e1
    replace HS := Lib.hid ((Ev.cell e1).and HS.out)
    clear e1
    rw [Hc3.out] at e2
    replace HS := Lib.hid ((Ev.cell e2).and HS.out)
    clear e2
    rw [Hc4.out] at e3
    replace HS := Lib.hid ((Ev.cell e3).and HS.out)
    clear e3
    have qe0 := (HS.out.now).2.2.2.1
    have qe1 := (HS.out.now).2.2.1
    have qe2 := (HS.out.now).2.1
    have qe3 := (HS.out.now).1
    have hix := HIe.out
    have z0 : decide ((k : Int) < (nl : Int)) = true := by simp; omega
    have y3 : 0 ≤ c3 ∧ c3 ≤ 2700000 := by refine ⟨h3, ?_⟩; rcases HOR.out with h | h <;> omega
    have y3a := y3.1
    have y3b := y3.2
    clear y3
    have HC4 := Lib.hid h4
    clear h4 h3
    go_upto_region 16 with fail
    clear hix qe0 qe1 qe2 qe3 z0
    obtain ⟨bh, hbh⟩ : ∃ b, wo.heap.size = b := ⟨_, rfl⟩
    obtain ⟨wq8, hwq8⟩ : ∃ W, World.alloc wo (.cells #[.int .i64 c1, .int .i64 c2, .int .i64 c3, .int .i64 c4] 56) = W := ⟨_, rfl⟩
    have hBbh : Blk wq8 bh 56 [.int .i64 c1, .int .i64 c2, .int .i64 c3, .int .i64 c4] := by rw [← hwq8, ← hbh]; exact Blk.new _ 56 [.int .i64 c1, .int .i64 c2, .int .i64 c3, .int .i64 c4]
    have hzbh : wq8.heap.size = bh + 1 := by rw [← hwq8, ← hbh]; exact heap_size_alloc _ _
    replace HS := Lib.hid (HS.out.step (w' := wq8) (by rw [← hwq8]; exact Mod.alloc _ _ _))
    replace HS := Lib.hid ((Ev.blk hBbh).and HS.out)
    try rw [hwq8]
    try rw [hbh]
    clear hzbh hBbh hbh hwq8
    clear qbg_0 qbg_1 qbg_2 lbg
    have hbbg := (HS.out.now).2.2.2.2.2.2.2.2.1
    have qbg_0 := hbbg.cell 0 rfl
    have qbg_1 := hbbg.cell 1 rfl
    have qbg_2 := hbbg.cell 2 rfl
    have lbg := hbbg.lt
    clear hbbg
    have hbbh := (HS.out.now).1
    have qbh_0 := hbbh.cell 0 rfl
    have qbh_1 := hbbh.cell 1 rfl
    have qbh_2 := hbbh.cell 2 rfl
    have qbh_3 := hbbh.cell 3 rfl
    have lbh := hbbh.lt
    clear hbbh
    by_cases h9 : c1 = 9
    case pos =>
      obtain ⟨_, r2, r3, r4⟩ := HOR.out.resolve_right (fun h => h.1 h9)
      rw [HLN.out] at r4
      have z1 : ((k : Int) == (nl : Int) - 1) = true := by rw [r4]; simp
      have z2 : (c1 == 9) = true := by rw [h9]; rfl
      have z3 : (c2 == -1) = true := by rw [r2]; rfl
      have z4 : (c4 == c3) = true := by rw [HC4.out, r3]; simp
      have z5 : (W1 - c3 == 0) = true := by rw [r3]; simp
      clear r2 r3 r4 h9
      go_wp2_with fail
      refine (awake21_any _).mono ?_
      rintro e wq9 ⟨rfl, hmm⟩
      replace HS := Lib.hid (HS.out.step hmm)
      clear hmm
      clear qbg_0 qbg_1 qbg_2 lbg qbh_0 qbh_1 qbh_2 qbh_3 lbh
      have hbbg := (HS.out.now).2.2.2.2.2.2.2.2.1
      have qbg_0 := hbbg.cell 0 rfl
      have qbg_1 := hbbg.cell 1 rfl
      have qbg_2 := hbbg.cell 2 rfl
      have lbg := hbbg.lt
      clear hbbg
      have hbbh := (HS.out.now).1
      have qbh_0 := hbbh.cell 0 rfl
      have qbh_1 := hbbh.cell 1 rfl
      have qbh_2 := hbbh.cell 2 rfl
      have qbh_3 := hbbh.cell 3 rfl
      have lbh := hbbh.lt
      clear hbbh
      go_wp2_with fail
      go_ret
      exact ⟨rfl, (HS.out.now).2.2.2.2.2.2.2.2.2.2.2.2.2⟩
    case neg =>
      obtain ⟨_, r2, r3, r4, r5, r6⟩ := HOR.out.resolve_left (fun h => h9 h.1)
      have hr2 := of_decide_eq_true r2
      obtain ⟨xe, hxe⟩ := Int.eq_ofNat_of_zero_le hr2.1
      obtain ⟨hk1, h14, hx1⟩ := sum_step G hmay.out L (k + 1) _ r5
      clear hx1
      have hkn1 : k + 1 < nl := by have := HLN.out; omega
      have hxl : xe < G.E.length := by omega
      have hxn : xe < n2 := by have := he.out; omega
      have hwx : wtE G c2 = (G.E[xe]).2.2 := by rw [wtE_in G r2, hxe, eAt_eq G xe hxl]
      obtain ⟨x0, Hx00⟩ : ∃ qz, (G.E[xe]).1 = qz := ⟨_, rfl⟩
      have Hx0 := Lib.hid Hx00
      clear Hx00
      obtain ⟨y0, Hy00⟩ : ∃ qz, (G.E[xe]).2.1 = qz := ⟨_, rfl⟩
      have Hy0 := Lib.hid Hy00
      clear Hy00
      obtain ⟨z0v, Hz0v0⟩ : ∃ qz, (G.E[xe]).2.2 = qz := ⟨_, rfl⟩
      have Hz0v := Lib.hid Hz0v0
      clear Hz0v0
      rw [Hz0v.out] at hwx
      rw [hwx] at r3 r4 r5 r6 h14
      have HST1 := Lib.hid r5
      clear r5 hr2 r2 hwx
      obtain ⟨k1, hk1e⟩ : ∃ q, k + 1 = q := ⟨_, rfl⟩
      have hsucc : (k : Int) + 1 = (k1 : Int) := by omega
      have HL1 : Hid (∃ h : k1 < L.length, (L[k1]).2.2.2 = W1 - c3 - z0v) := Lib.hid (by subst hk1e; exact ⟨hk1, h14⟩)
      have HS1 : Hid (SumSt G L k1 (W1 - c3 - z0v)) := Lib.hid (by rw [← hk1e]; exact HST1.out)
      rw [hk1e] at hkn1
      have HK1 := Lib.hid hk1e
      clear hk1 h14 hk1e HST1
      obtain ⟨hkl1, h14⟩ := HL1.out
      obtain ⟨e4, He40⟩ : ∃ qz, (L[k1]).2.2.2 = qz := ⟨_, rfl⟩
      have He4 := Lib.hid He40
      clear He40
      rw [He4.out] at h14
      obtain ⟨fb, fo, hpl, _, _, _, k3⟩ := rd4h ((HS.out.now).2.2.2.2.2.2.1) k1 hkl1
      have hix := fun wx => run_indexS (P := Try.prog) wx 61 56 iH 4 Try.underlying61 hiH hsH al nl cl k1 hkn1 (((HS.out.now).2.2.2.2.2.2.1).some_ (by omega))
      rw [hpl] at hix
      rw [He4.out] at k3
      have HIf := Lib.hid hix
      clear hix hpl
      replace HS := Lib.hid ((Ev.cell k3).and HS.out)
      clear k3
      obtain ⟨gb, go, hpl, e0, e1, e2⟩ := rd3 (HS.out.now).2.2.2.2.2.2.2.2.2.2.2.1.re xe hxl
      have hix := fun wx => run_indexS (P := Try.prog) wx 25 41 iE 3 Try.underlying25 hiE hsE a2 n2 d2 xe hxn ((HS.out.now).2.2.2.2.2.2.2.2.2.2.2.1.re.some_ (by have := hxn; omega))
      rw [hpl] at hix
      have HIg := Lib.hid hix
      clear hix hpl
      rw [Hx0.out] at e0
      replace HS := Lib.hid ((Ev.cell e0).and HS.out)
      clear e0
      rw [Hy0.out] at e1
      replace HS := Lib.hid ((Ev.cell e1).and HS.out)
      clear e1
      rw [Hz0v.out] at e2
      replace HS := Lib.hid ((Ev.cell e2).and HS.out)
      clear e2
      have z9 : (c1 == 9) = false := by simpa using h9
      have y1 : 0 ≤ e4 ∧ e4 ≤ 2700000 ∧ e4 < c4 ∧ e4 = W1 - c3 - z0v := by have := HC4.out; omega
      have ye1 := y1.1
      have ye2 := y1.2.1
      have ye3 : decide (c4 ≤ e4) = false := by have := y1.2.2.1; simp; omega
      have HE4 := Lib.hid y1.2.2.2
      have yz1 : 1 ≤ z0v := r3
      have yz2 : z0v ≤ 65535 := r4
      clear y1 r3 r4 r6 h14
      have HXE := Lib.hid hxe
      clear hxe
      have z1 : ((k : Int) == (nl : Int) - 1) = false := by rw [beq_eq_false_iff_ne]; omega
      go_upto_region 19 with fail
      clear z1
      have HED : Hid (decide (0 ≤ c2 ∧ c2 < (G.E.length : Int)) = true) := Lib.hid (by rw [HXE.out]; exact decide_eq_true ⟨by omega, by omega⟩)
      clear qbg_0 qbg_1 qbg_2 lbg qbh_0 qbh_1 qbh_2 qbh_3 lbh
      have HSd := Lib.hid HS.out.drew
      refine wp_region_inv3 (act := ?actgs_r19_0) (Mod (fun _ => False)) (fun i => (gs_r19_0_F a1 a2 a3 n1 d1 n2 d2 n3 d3 al nl cl k k1 bh c1 c2 c4 e4 fb fo).getD i (fun _ _ => True)) (fun i => gs_r19_0_D.getD i []) (by kernel_rfl) (by kernel_rfl) (by kernel_rfl) (by kernel_rfl) (fun _ => Mod.refl _ _)
        (fun _ _ _ h k => h.trans k (fun _ _ e => e) (fun _ _ e => e)) ?hactgs_r19_0 (stable_list ?_) ?_ ?_
      case hactgs_r19_0 => intro vs; simp only [putAll, Nat.zero_add, Nat.reduceAdd, Act.put, List.setIfInBounds_toArray, List.set_cons_succ, List.set_cons_zero]; exact rfl
      · unfold gs_r19_0_F
        exact stable_cons (stable_val _) <| stable_cons (stable_val _) <| stable_cons (stable_val _) <| stable_cons (stable_val _) <| stable_cons (stable_val _) <| stable_cons (stable_val _) <| stable_cons (stable_val _) <| stable_cons (stable_val _) <| stable_cons (stable_val _) <| stable_cons (stable_val _) <| stable_cons (stable_val _) <| stable_cons (stable_val _) <| stable_cons (stable_val _) <| stable_cons (stable_val _) <| stable_cons (stable_val _) <| stable_cons (stable_val _) <| stable_cons (stable_val _) <| stable_cons (stable_val _) <| stable_cons (stable_val _) <| stable_cons (stable_val _) <| stable_cons (stable_val _) <| stable_nil
      · refine opsOkA_cons ?_ ?_
        · intro K vs W hR hD hK
          clear hD
          try dsimp only at hK ⊢
          simp only [Act.put, List.setIfInBounds_toArray, List.set_cons_succ, List.set_cons_zero] at hK
          go_wp2
          exact hK _ _ rfl (Mod.refl _ _)
        refine opsOkA_cons ?_ ?_
        · intro K vs W hR hD hK
          have dq0 : vs 0 = .pointer (some ⟨bh, 0, none⟩) := hD 0 (by decide)
          clear hD
          try dsimp only at hK ⊢
          simp only [Act.put, List.setIfInBounds_toArray, List.set_cons_succ, List.set_cons_zero] at hK
          generalize vs 0 = vq0 at hK dq0 ⊢
          subst vq0
          have q0 := ((HSd.out.at (hR)).2.2.2.2.1).cell 0 rfl
          go_wp2
          exact hK _ _ rfl (Mod.refl _ _)
        refine opsOkA_cons ?_ ?_
        · intro K vs W hR hD hK
          have dq1 : vs 1 = .int .i64 c1 := hD 1 (by decide)
          clear hD
          try dsimp only at hK ⊢
          simp only [Act.put, List.setIfInBounds_toArray, List.set_cons_succ, List.set_cons_zero] at hK
          generalize vs 1 = vq1 at hK dq1 ⊢
          subst vq1
          have z9 := z9
          go_wp2
          exact hK _ _ rfl (Mod.refl _ _)
        refine opsOkA_cons ?_ ?_
        · intro K vs W hR hD hK
          have dq2 : vs 2 = .bool false := hD 2 (by decide)
          clear hD
          try dsimp only at hK ⊢
          simp only [Act.put, List.setIfInBounds_toArray, List.set_cons_succ, List.set_cons_zero] at hK
          generalize vs 2 = vq2 at hK dq2 ⊢
          subst vq2
          go_wp2
          exact hK _ _ rfl (Mod.refl _ _)
        refine opsOkA_cons ?_ ?_
        · intro K vs W hR hD hK
          have dq3 : vs 3 = .bool false := hD 3 (by decide)
          clear hD
          try dsimp only at hK ⊢
          simp only [Act.put, List.setIfInBounds_toArray, List.set_cons_succ, List.set_cons_zero] at hK
          generalize vs 3 = vq3 at hK dq3 ⊢
          subst vq3
          have hbx := (HSd.out.at (hR)).2.2.2.2.2.2.2.2.2.2.2.2.1
          have q0 := hbx.cell 0 rfl
          have q1 := hbx.cell 1 rfl
          have q2 := hbx.cell 2 rfl
          go_wp2
          exact hK _ _ rfl (Mod.refl _ _)
        refine opsOkA_cons ?_ ?_
        · intro K vs W hR hD hK
          have dq3 : vs 3 = .bool false := hD 3 (by decide)
          clear hD
          try dsimp only at hK ⊢
          simp only [Act.put, List.setIfInBounds_toArray, List.set_cons_succ, List.set_cons_zero] at hK
          generalize vs 3 = vq3 at hK dq3 ⊢
          subst vq3
          go_wp2
          exact hK _ _ rfl (Mod.refl _ _)
        refine opsOkA_cons ?_ ?_
        · intro K vs W hR hD hK
          have dq3 : vs 3 = .bool false := hD 3 (by decide)
          have dq5 : vs 5 = .pointer (some ⟨bh, 1, none⟩) := hD 5 (by decide)
          clear hD
          try dsimp only at hK ⊢
          simp only [Act.put, List.setIfInBounds_toArray, List.set_cons_succ, List.set_cons_zero] at hK
          generalize vs 3 = vq3 at hK dq3 ⊢
          subst vq3
          generalize vs 5 = vq5 at hK dq5 ⊢
          subst vq5
          have q0 := ((HSd.out.at (hR)).2.2.2.2.1).cell 1 rfl
          go_wp2
          exact hK _ _ rfl (Mod.refl _ _)
        refine opsOkA_cons ?_ ?_
        · intro K vs W hR hD hK
          have dq3 : vs 3 = .bool false := hD 3 (by decide)
          have dq4 : vs 4 = .agg #[.slice a1 n1 d1, .slice a2 n2 d2, .slice a3 n3 d3] := hD 4 (by decide)
          have dq6 : vs 6 = .int .i64 c2 := hD 6 (by decide)
          clear hD
          try dsimp only at hK ⊢
          simp only [Act.put, List.setIfInBounds_toArray, List.set_cons_succ, List.set_cons_zero] at hK
          generalize vs 3 = vq3 at hK dq3 ⊢
          subst vq3
          generalize vs 4 = vq4 at hK dq4 ⊢
          subst vq4
          generalize vs 6 = vq6 at hK dq6 ⊢
          subst vq6
          go_wp2_with (go_at_call 35; refine (r4edge_any G W a1 n1 d1 a2 n2 d2 a3 n3 d3 ((HSd.out.at (hR)).2.2.2.2.2.2.2.2.2.2.2.2.2.2.1) (by omega) c2).mono ?_; rintro e' w' ⟨rfl, hm'⟩; rw [HED.out])
          exact hK _ _ rfl hm'
        refine opsOkA_cons ?_ ?_
        · intro K vs W hR hD hK
          have dq3 : vs 3 = .bool false := hD 3 (by decide)
          have dq7 : vs 7 = .bool true := hD 7 (by decide)
          clear hD
          try dsimp only at hK ⊢
          simp only [Act.put, List.setIfInBounds_toArray, List.set_cons_succ, List.set_cons_zero] at hK
          generalize vs 3 = vq3 at hK dq3 ⊢
          subst vq3
          generalize vs 7 = vq7 at hK dq7 ⊢
          subst vq7
          go_wp2
          exact hK _ _ rfl (Mod.refl _ _)
        refine opsOkA_cons ?_ ?_
        · intro K vs W hR hD hK
          have dq3 : vs 3 = .bool false := hD 3 (by decide)
          have dq8 : vs 8 = .bool false := hD 8 (by decide)
          clear hD
          try dsimp only at hK ⊢
          simp only [Act.put, List.setIfInBounds_toArray, List.set_cons_succ, List.set_cons_zero] at hK
          generalize vs 3 = vq3 at hK dq3 ⊢
          subst vq3
          generalize vs 8 = vq8 at hK dq8 ⊢
          subst vq8
          go_wp2
          exact hK _ _ rfl (Mod.refl _ _)
        refine opsOkA_cons ?_ ?_
        · intro K vs W hR hD hK
          have dq9 : vs 9 = .bool false := hD 9 (by decide)
          clear hD
          try dsimp only at hK ⊢
          simp only [Act.put, List.setIfInBounds_toArray, List.set_cons_succ, List.set_cons_zero] at hK
          generalize vs 9 = vq9 at hK dq9 ⊢
          subst vq9
          go_wp2
          exact hK _ _ rfl (Mod.refl _ _)
        refine opsOkA_cons ?_ ?_
        · intro K vs W hR hD hK
          have dq10 : vs 10 = .bool false := hD 10 (by decide)
          clear hD
          try dsimp only at hK ⊢
          simp only [Act.put, List.setIfInBounds_toArray, List.set_cons_succ, List.set_cons_zero] at hK
          generalize vs 10 = vq10 at hK dq10 ⊢
          subst vq10
          go_wp2
          exact hK _ _ rfl (Mod.refl _ _)
        refine opsOkA_cons ?_ ?_
        · intro K vs W hR hD hK
          have dq10 : vs 10 = .bool false := hD 10 (by decide)
          clear hD
          try dsimp only at hK ⊢
          simp only [Act.put, List.setIfInBounds_toArray, List.set_cons_succ, List.set_cons_zero] at hK
          generalize vs 10 = vq10 at hK dq10 ⊢
          subst vq10
          go_wp2
          exact hK _ _ rfl (Mod.refl _ _)
        refine opsOkA_cons ?_ ?_
        · intro K vs W hR hD hK
          have dq10 : vs 10 = .bool false := hD 10 (by decide)
          have dq12 : vs 12 = .int .i64 (k : Int) := hD 12 (by decide)
          clear hD
          try dsimp only at hK ⊢
          simp only [Act.put, List.setIfInBounds_toArray, List.set_cons_succ, List.set_cons_zero] at hK
          generalize vs 10 = vq10 at hK dq10 ⊢
          subst vq10
          generalize vs 12 = vq12 at hK dq12 ⊢
          subst vq12
          have hsucc := hsucc
          go_wp2
          exact hK _ _ rfl (Mod.refl _ _)
        refine opsOkA_cons ?_ ?_
        · intro K vs W hR hD hK
          have dq10 : vs 10 = .bool false := hD 10 (by decide)
          have dq11 : vs 11 = .slice al nl cl := hD 11 (by decide)
          have dq13 : vs 13 = .int .i64 (k1 : Int) := hD 13 (by decide)
          clear hD
          try dsimp only at hK ⊢
          simp only [Act.put, List.setIfInBounds_toArray, List.set_cons_succ, List.set_cons_zero] at hK
          generalize vs 10 = vq10 at hK dq10 ⊢
          subst vq10
          generalize vs 11 = vq11 at hK dq11 ⊢
          subst vq11
          generalize vs 13 = vq13 at hK dq13 ⊢
          subst vq13
          have hix := HIf.out
          go_wp2_with fail
          exact hK _ _ rfl (Mod.refl _ _)
        refine opsOkA_cons ?_ ?_
        · intro K vs W hR hD hK
          have dq10 : vs 10 = .bool false := hD 10 (by decide)
          have dq14 : vs 14 = .pointer (some ⟨fb, fo, none⟩) := hD 14 (by decide)
          clear hD
          try dsimp only at hK ⊢
          simp only [Act.put, List.setIfInBounds_toArray, List.set_cons_succ, List.set_cons_zero] at hK
          generalize vs 10 = vq10 at hK dq10 ⊢
          subst vq10
          generalize vs 14 = vq14 at hK dq14 ⊢
          subst vq14
          go_wp2
          exact hK _ _ rfl (Mod.refl _ _)
        refine opsOkA_cons ?_ ?_
        · intro K vs W hR hD hK
          have dq10 : vs 10 = .bool false := hD 10 (by decide)
          have dq15 : vs 15 = .pointer (some ⟨fb, fo + 3, none⟩) := hD 15 (by decide)
          clear hD
          try dsimp only at hK ⊢
          simp only [Act.put, List.setIfInBounds_toArray, List.set_cons_succ, List.set_cons_zero] at hK
          generalize vs 10 = vq10 at hK dq10 ⊢
          subst vq10
          generalize vs 15 = vq15 at hK dq15 ⊢
          subst vq15
          have cq3 := (HSd.out.at (hR)).2.2.2.1
          go_wp2
          exact hK _ _ rfl (Mod.refl _ _)
        refine opsOkA_cons ?_ ?_
        · intro K vs W hR hD hK
          have dq10 : vs 10 = .bool false := hD 10 (by decide)
          clear hD
          try dsimp only at hK ⊢
          simp only [Act.put, List.setIfInBounds_toArray, List.set_cons_succ, List.set_cons_zero] at hK
          generalize vs 10 = vq10 at hK dq10 ⊢
          subst vq10
          go_wp2
          exact hK _ _ rfl (Mod.refl _ _)
        refine opsOkA_cons ?_ ?_
        · intro K vs W hR hD hK
          have dq10 : vs 10 = .bool false := hD 10 (by decide)
          have dq17 : vs 17 = .pointer (some ⟨bh, 3, none⟩) := hD 17 (by decide)
          clear hD
          try dsimp only at hK ⊢
          simp only [Act.put, List.setIfInBounds_toArray, List.set_cons_succ, List.set_cons_zero] at hK
          generalize vs 10 = vq10 at hK dq10 ⊢
          subst vq10
          generalize vs 17 = vq17 at hK dq17 ⊢
          subst vq17
          have q0 := ((HSd.out.at (hR)).2.2.2.2.1).cell 3 rfl
          go_wp2
          exact hK _ _ rfl (Mod.refl _ _)
        refine opsOkA_cons ?_ ?_
        · intro K vs W hR hD hK
          have dq10 : vs 10 = .bool false := hD 10 (by decide)
          have dq16 : vs 16 = .int .i64 e4 := hD 16 (by decide)
          have dq18 : vs 18 = .int .i64 c4 := hD 18 (by decide)
          clear hD
          try dsimp only at hK ⊢
          simp only [Act.put, List.setIfInBounds_toArray, List.set_cons_succ, List.set_cons_zero] at hK
          generalize vs 10 = vq10 at hK dq10 ⊢
          subst vq10
          generalize vs 16 = vq16 at hK dq16 ⊢
          subst vq16
          generalize vs 18 = vq18 at hK dq18 ⊢
          subst vq18
          have ye3 := ye3
          go_wp2
          exact hK _ _ rfl (Mod.refl _ _)
        refine opsOkA_cons ?_ ?_
        · intro K vs W hR hD hK
          have dq10 : vs 10 = .bool false := hD 10 (by decide)
          have dq19 : vs 19 = .bool false := hD 19 (by decide)
          clear hD
          try dsimp only at hK ⊢
          simp only [Act.put, List.setIfInBounds_toArray, List.set_cons_succ, List.set_cons_zero] at hK
          generalize vs 10 = vq10 at hK dq10 ⊢
          subst vq10
          generalize vs 19 = vq19 at hK dq19 ⊢
          subst vq19
          go_wp2
          exact hK _ _ rfl (Mod.refl _ _)
        exact opsOkA_nil
      · intro vs wq10 hR hF
        have dq20 : vs 20 = .bool false := hF 20 (by decide)
        clear hF
        try dsimp only
        generalize vs 20 = vq20 at dq20 ⊢
        subst dq20
        replace HS := Lib.hid (HSd.out.step hR)
        clear HSd hR
        have hbbg := (HS.out.now).2.2.2.2.2.2.2.2.2.2.2.2.1
        have qbg_0 := hbbg.cell 0 rfl
        have qbg_1 := hbbg.cell 1 rfl
        have qbg_2 := hbbg.cell 2 rfl
        have lbg := hbbg.lt
        clear hbbg
        have hbbh := (HS.out.now).2.2.2.2.1
        have qbh_0 := hbbh.cell 0 rfl
        have qbh_1 := hbbh.cell 1 rfl
        have qbh_2 := hbbh.cell 2 rfl
        have qbh_3 := hbbh.cell 3 rfl
        have lbh := hbbh.lt
        clear hbbh
        have hix := HIg.out
        have hxe := HXE.out
        subst hxe
        have qg0 := (HS.out.now).2.2.1
        have qg1 := (HS.out.now).2.1
        have qg2 := (HS.out.now).1
        go_upto_region 22 with fail
        clear hix qg0 qg1 qg2
        have z6 : (e4 != W1 - c3 - z0v) = false := by rw [← HE4.out]; simp
        have hix : ∀ wx : World, (Instr.indexAt 61 (.slice al nl cl) (.int .i64 (k1 : Int))).run Try.prog wx = .ok (.pointer (some ⟨fb, fo, none⟩)) wx := HIf.out
        have q3 := (HS.out.now).2.2.2.1
        go_wp2_with fail
        go_roundw
        case rel => exact ⟨k1, W1 - c3 - z0v, by omega, rfl, rfl, HS1.out, by have := HE4.out; omega, by have := HE4.out; omega, (HS.out.now).2.2.2.2.2.2.2.2.2.1⟩
        case measure => have := HK1.out; simp [intOf]; omega
theorem gsums_law (w : World) (a0 : Option Addr) (m c0 : Nat) (l : List Int) (ok : (encSlice (encInt .i64)).ok w (.slice a0 m c0, l)) (at_ : Int) (_ : (Lit.int .i64 at_).wf = true) (a4 : Option Addr) (n4 d4 : Nat) (st : List Int) (ok4 : (encSlice (encInt .i64)).ok w (.slice a4 n4 d4, st)) :
    Calls Try.prog 6 #[.slice a0 m c0, .int .i64 at_, .slice a4 n4 d4] w fun e w' => e = .returned (.bool true) ∧ Below w.heap.size w w' := by
  obtain ⟨hn, hr, _⟩ := ok_ints ok
  obtain ⟨hn4, hr4, _⟩ := ok_ints ok4
  exact (gsums_all w a0 m c0 l hn hr at_ a4 n4 d4 st hn4 hr4).mono fun e w' h => ⟨h.1, h.2.below (Nat.le_refl _) (fun _ e => e.elim)⟩
end Go.Proofs.Ytagmnkobigecnaa
