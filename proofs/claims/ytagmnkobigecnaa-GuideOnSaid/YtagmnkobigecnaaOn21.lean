/- GuideOn walked. -/
import Derived.Test.YtagmnkobigecnaaKGuide
import Derived.Test.YtagmnkobigecnaaKStroll
import Derived.Test.YtagmnkobigecnaaKReg
import Derived.Test.YtagmnkobigecnaaRound
import Derived.Test.YtagmnkobigecnaaOpens
import Derived.Deep.DeepCutAuto
import Derived.Deep.CutBlock
namespace Go.Proofs.Ytagmnkobigecnaa
open Go.RowKit Mile
set_option maxRecDepth 100000
/-- One edge on: the hint's numbers. -/
theorem on_step (G : GD) (W W' : Int) (f x : Int) (zs : List Int) (c e : H4) (h : (nextL G W f (x :: zs) 0 0).1 = c) (k : (nextL G W' x zs 0 0).1 = e) : c.2.2.1 = 0 ∨ (c.1 = e.1 ∧ c.2.1 = e.2.1 ∧ c.2.2.1 = wtE G x + e.2.2.1) := by
  rw [nextL] at h
  by_cases hd : decB G f = true
  · rw [if_pos hd] at h; subst h; exact .inl rfl
  · rw [if_neg hd, nextL_shift G W W'] at h
    subst h; subst k
    exact .inr ⟨rfl, rfl, by simp⟩
theorem next_far (G : GD) (hm : May G) (W f : Int) (xs : List Int) : 0 ≤ (nextL G W f xs 0 0).1.2.2.1 ∧ (nextL G W f xs 0 0).1.2.2.1 ≤ 65535 * (xs.length : Int) ∧ (nextL G W f xs 0 0).1.2.2.2 = W := by
  rcases nextL_form G W xs f 0 0 with h | ⟨a, b, e, h1, _, h2⟩
  · rw [h]; have := wE_le G hm xs; exact ⟨by simpa using this.1, by simpa using this.2, rfl⟩
  · rw [h2]; have := wE_le G hm a; have hl := congrArg List.length h1; rw [List.length_append, List.length_cons] at hl; exact ⟨by simpa using this.1, by simp; omega, rfl⟩
/-- What each operation of the statement leaves. -/
def on_r12_0_F (a2 : Option Addr) (n2 : Nat) (d2 : Nat) (bg : Nat) (z0v : Int) (la : Option Addr) (lc : Nat) (kl : Nat) (xe : Nat) (eb : Nat) (eo : Nat) (fb : Nat) (fo : Nat) : List (Value → World → Prop) :=
  [IsV (.pointer (some ⟨bg, 1, none⟩)),
   IsV (.slice a2 n2 d2),
   IsV (.slice la kl lc),
   IsV (.pointer (some ⟨fb, fo, none⟩)),
   IsV (.int .i64 (xe : Int)),
   IsV (.pointer (some ⟨eb, eo, none⟩)),
   IsV (.pointer (some ⟨eb, eo + 2, none⟩)),
   IsV (.int .i64 z0v),
   IsV (.int .i64 z0v)]
def on_r12_0_D : List (List Nat) := [[], [0], [], [2], [3], [1, 4], [5], [6], [7]]

/-- What each operation of the statement leaves. -/
def on_r13_1_V (t : Nat) (e1 : Int) (e2 : Int) (e3 : Int) (e4 : Int) (la : Option Addr) (lc : Nat) (kl : Nat) (xe : Nat) (fb : Nat) (fo : Nat) : List Value :=
  [.pointer (some ⟨t, 0, none⟩),
   .slice la kl lc,
   .pointer (some ⟨fb, fo, none⟩),
   .int .i64 (xe : Int),
   .slice la kl lc,
   .slice (dropA la lc 1 1) (kl - 1) (lc - 1),
   .tuple #[.agg #[.int .i64 e1, .int .i64 e2, .int .i64 e3, .int .i64 e4], .bool true],
   .tuple #[.agg #[.int .i64 e1, .int .i64 e2, .int .i64 e3, .int .i64 e4], .bool true],
   .agg #[.int .i64 e1, .int .i64 e2, .int .i64 e3, .int .i64 e4],
   .bool true,
   undef,
   undef,
   .bool true]
def on_r13_1_D : List (List Nat) := [[], [], [1], [2], [], [4], [0, 3, 5], [6], [7], [7], [], [8, 10], [9]]

set_option maxHeartbeats 64000000 in
theorem gon_all (w : World) (a0 : Option Addr) (m c0 : Nat) (l : List Int) (hm : l.length = m) (hr : Rd w 1 (.slice a0 m c0) m (l.map (Value.int .i64))) (at_ : Int) (a4 : Option Addr) (n4 d4 : Nat) (st : List Int) (hn4 : st.length = n4) (hr4 : Rd w 1 (.slice a4 n4 d4) n4 (st.map (Value.int .i64))) :
    Calls Try.prog 8 #[.slice a0 m c0, .int .i64 at_, .slice a4 n4 d4] w fun e w' => e = .returned (.bool true) ∧ Mod (fun _ => False) w w' := by
  obtain ⟨iI, hiI, hzI, hsI, hbI⟩ := info_parts GR.infoI
  obtain ⟨iE, hiE, hzE, hsE, hbE⟩ := info_parts GR.infoE
  have HN4 := Lib.hid hn4
  clear hn4
  by_cases hlen0 : m ≤ 100
  case neg =>
    have HS : Hid (Ev (Mod (fun _ => False) w) w) := Lib.hid (Ev.mod w)
    have z0 : decide (100 < (m : Int)) = true := by simp; omega
    have z1 : decide (100 < m) = true := by simp; omega
    go_enter Try.func8, Try.ntmps8
    go_wp2_with fail
    refine (awake21_any _).mono ?_
    rintro e wq1 ⟨rfl, hm⟩
    replace HS := Lib.hid (HS.out.step hm)
    clear hm
    go_wp2_with fail
    go_ret
    exact ⟨rfl, HS.out.now⟩
  by_cases hlen1 : n4 ≤ 40
  case neg =>
    have HS : Hid (Ev (Mod (fun _ => False) w) w) := Lib.hid (Ev.mod w)
    have y0 : decide (100 < (m : Int)) = false := by simp; omega
    have z0 : decide (40 < (n4 : Int)) = true := by simp; omega
    have z1 : decide (40 < n4) = true := by simp; omega
    go_enter Try.func8, Try.ntmps8
    go_wp2_with fail
    refine (awake21_any _).mono ?_
    rintro e wq2 ⟨rfl, hm⟩
    replace HS := Lib.hid (HS.out.step hm)
    clear hm
    go_wp2_with fail
    go_ret
    exact ⟨rfl, HS.out.now⟩
  have HS : Hid (Ev (Mod (fun _ => False) w) w) := Lib.hid (Ev.mod w)
  have y0 : decide (100 < (m : Int)) = false := by simp; omega
  have y1 : decide (40 < (n4 : Int)) = false := by simp; omega
  replace HS := Lib.hid ((Ev.rd hr).and HS.out)
  replace HS := Lib.hid ((Ev.rd hr4).and HS.out)
  clear hr hr4
  go_enter Try.func8, Try.ntmps8
  go_wp2_with fail
  refine (made21_any _ a0 m c0 l hm ((HS.out.now).2.1)).mono ?_
  rintro e wq3 ⟨a1, n1, d1, a2, n2, d2, a3, n3, d3, t, p, B, C, rfl, hg, hto, hmm⟩
  replace HS := Lib.hid (HS.out.step hmm)
  clear hmm
  replace HS := Lib.hid ((Ev.gv hg).and HS.out)
  replace HS := Lib.hid ((Ev.to hto).and HS.out)
  clear hg hto y0 y1
  have hmay := Lib.hid (town_may l)
  have hfew := Lib.hid (town_few l)
  obtain ⟨G, hG⟩ : ∃ G, townG l = G := ⟨_, rfl⟩
  rw [hG] at hmay hfew
  rw [hG] at HS
  clear hG
  have hn := Lib.hid ((HS.out.now).2.1.n)
  have he := Lib.hid ((HS.out.now).2.1.e)
  have hb := Lib.hid ((HS.out.now).2.1.b)
  have h1n : n1 ≤ 16 := by have := hfew.out.1.2; have := hn.out; omega
  have h2n : n2 ≤ 67 := by have := hfew.out.2.1.2; have := he.out; omega
  have h2p : 1 ≤ n2 := by have := hfew.out.2.1.1; have := he.out; omega
  have h3n : n3 ≤ 469 := by have := hfew.out.2.2; have := hb.out; omega
  go_wp2_with fail
  obtain ⟨bg, hbg⟩ : ∃ b, wq3.heap.size = b := ⟨_, rfl⟩
  obtain ⟨wq4, hwq4⟩ : ∃ W, World.alloc wq3 (.cells #[.slice a1 n1 d1, .slice a2 n2 d2, .slice a3 n3 d3] 28) = W := ⟨_, rfl⟩
  have hBbg : Blk wq4 bg 28 [.slice a1 n1 d1, .slice a2 n2 d2, .slice a3 n3 d3] := by rw [← hwq4, ← hbg]; exact Blk.new _ 28 [.slice a1 n1 d1, .slice a2 n2 d2, .slice a3 n3 d3]
  have hzbg : wq4.heap.size = bg + 1 := by rw [← hwq4, ← hbg]; exact heap_size_alloc _ _
  replace HS := Lib.hid (HS.out.step (w' := wq4) (by rw [← hwq4]; exact Mod.alloc _ _ _))
  replace HS := Lib.hid ((Ev.blk hBbg).and HS.out)
  try rw [hwq4]
  try rw [hbg]
  clear hzbg hBbg hbg hwq4
  have hbbg := (HS.out.now).1
  have qbg_0 := hbbg.cell 0 rfl
  have qbg_1 := hbbg.cell 1 rfl
  have qbg_2 := hbbg.cell 2 rfl
  have lbg := hbbg.lt
  clear hbbg
  go_wp2_with fail
  refine (round_any at_ (n2 : Int) _ (by omega) (by omega)).mono ?_
  rintro e w' ⟨rfl, rfl⟩
  have hr0 := Int.emod_nonneg (at_) (b := (n2 : Int)) (by omega)
  have hr1 := Int.emod_lt_of_pos (at_) (b := (n2 : Int)) (by omega)
  obtain ⟨er, hr2⟩ := Int.eq_ofNat_of_zero_le hr0
  rw [hr2] at hr1 ⊢
  have HE0 := Lib.hid hr2
  have HE0b := hr1
  clear hr0 hr1 hr2
  go_wp2_with fail
  refine (stroll_any G _ a1 n1 d1 a2 n2 d2 a3 n3 d3 ((HS.out.now).2.2.1) (by omega) (by omega) (er : Int) a4 n4 d4 st HN4.out ((HS.out.now).2.2.2.1) (by omega)).mono ?_
  rintro e wq5 ⟨v', rfl, ⟨aw, cw, rfl, hx'⟩, hmm⟩
  replace HS := Lib.hid (HS.out.step hmm)
  clear hmm
  replace HS := Lib.hid ((Ev.rd hx').and HS.out)
  clear hx'
  clear qbg_0 qbg_1 qbg_2 lbg
  have hbbg := (HS.out.now).2.1
  have qbg_0 := hbbg.cell 0 rfl
  have qbg_1 := hbbg.cell 1 rfl
  have qbg_2 := hbbg.cell 2 rfl
  have lbg := hbbg.lt
  clear hbbg
  obtain ⟨ws, hws⟩ : ∃ l, strollL G (er : Int) st = l := ⟨_, rfl⟩
  have hwk := stroll_wlk G (er : Int) st
  have hwl := stroll_len G (er : Int) st
  rw [hws] at HS hwk hwl ⊢
  have HWS := Lib.hid hws
  have HWK := Lib.hid hwk
  clear hws hwk
  obtain ⟨lw, hlw⟩ : ∃ n, ws.length = n := ⟨_, rfl⟩
  rw [hlw] at HS hwl ⊢
  have HLW := Lib.hid hlw
  have hl4 : lw ≤ 40 := by have := HN4.out; omega
  clear hlw hwl
  have hcw : lw ≤ cw := rd_cap ((HS.out.now).1)
  have hed : edB G (er : Int) = true := decide_eq_true ⟨by omega, by have := he.out; omega⟩
  have hal : allE G ws = true := wlk_all G _ _ HWK.out
  have V1 : Hid (validB G (er : Int) ws = true) := Lib.hid (by unfold validB; rw [hed, HWK.out]; rfl)
  have WT : Hid (wtN G ws = wE G ws) := Lib.hid (by unfold wtN; rw [if_pos hal, wE_all G ws hal])
  have HED := Lib.hid hed
  clear hed hal
  obtain ⟨c1, c2, c3, c4, hc⟩ : ∃ (c1 c2 c3 c4 : Int), (nextL G (wE G ws) (er : Int) ws 0 0).1 = (c1, c2, c3, c4) := ⟨_, _, _, _, rfl⟩
  have HC := Lib.hid hc
  clear hc
  go_wp2_with fail
  refine (ghint_any t p B C G hmay.out _ ((HS.out.now).2.2.1) (er : Int) aw lw cw ws HLW.out ((HS.out.now).1) (by omega)).mono ?_
  rintro e wq6 ⟨rfl, hmm⟩
  replace HS := Lib.hid (HS.out.step hmm)
  clear hmm
  clear qbg_0 qbg_1 qbg_2 lbg
  have hbbg := (HS.out.now).2.1
  have qbg_0 := hbbg.cell 0 rfl
  have qbg_1 := hbbg.cell 1 rfl
  have qbg_2 := hbbg.cell 2 rfl
  have lbg := hbbg.lt
  clear hbbg
  rw [V1.out, WT.out, show hintV (if true = true then (nextL G (wE G ws) (er : Int) ws 0 0).1 else (0, 0, 0, 0)) = .agg #[.int .i64 c1, .int .i64 c2, .int .i64 c3, .int .i64 c4] from by rw [if_pos rfl, HC.out]; rfl]
  go_upto_region 9 with fail
  obtain ⟨wb, hwb⟩ : ∃ x : World, wq6 = x := ⟨_, rfl⟩
  rw [hwb] at HS ⊢
  clear hwb
  clear qbg_0 qbg_1 qbg_2 lbg
  have HRW : Hid (∀ W, Mod (fun _ => False) wb W → Rd W 1 (.slice aw lw cw) lw (ws.map (Value.int .i64))) := Lib.hid (fun W m => (HS.out.at m).1)
  obtain ⟨bh, hbh⟩ : ∃ b, wb.heap.size = b := ⟨_, rfl⟩
  obtain ⟨wc, hwc⟩ : ∃ W, World.alloc wb (.cells #[.int .i64 c1, .int .i64 c2, .int .i64 c3, .int .i64 c4] 56) = W := ⟨_, rfl⟩
  have hBH : Blk wc bh 56 [.int .i64 c1, .int .i64 c2, .int .i64 c3, .int .i64 c4] := by rw [← hwc, ← hbh]; exact Blk.new wb 56 [.int .i64 c1, .int .i64 c2, .int .i64 c3, .int .i64 c4]
  have hmc : Mod (fun _ => False) wb wc := by rw [← hwc]; exact Mod.alloc _ _ _
  try rw [hwc]
  try rw [hbh]
  have HBB : Hid (wb.heap.size ≤ bh) := Lib.hid (by omega)
  clear hwc hbh
  go_wp2_with fail
  go_loopw [10] (fun wv wr => ∃ (d : Nat) (f0 c1 c2 c3 c4 : Int) (la : Option Addr) (lc : Nat), d ≤ lw ∧ wv = .slice la (lw - d) lc ∧ (nextL G (wE G (ws.drop d)) f0 (ws.drop d) 0 0).1 = (c1, c2, c3, c4) ∧ (edB G f0 = true ∧ wlk G f0 (ws.drop d) = true) ∧ (∀ W, Mod (fun _ => False) wb W → Rd W 1 (.slice la (lw - d) lc) (lw - d) ((ws.drop d).map (Value.int .i64))) ∧ Blk wr bh 56 [.int .i64 c1, .int .i64 c2, .int .i64 c3, .int .i64 c4] ∧ Mod (fun _ => False) wb wr) (fun wv _ => match wv with | .slice _ k _ => k | _ => 0)
  case atStart => exact ⟨0, er, c1, c2, c3, c4, aw, cw, by omega, rfl, HC.out, ⟨HED.out, HWK.out⟩, HRW.out, hBH, hmc⟩
  case round =>
    clear hBH hmc HRW HC HED
    obtain ⟨d, f0, c1, c2, c3, c4, la, lc, hd, rfl, hc, hinv, hrf, hbl, hmr⟩ := hrel
    obtain ⟨wo, hwo⟩ : ∃ x : World, x = wr := ⟨_, rfl⟩
    subst hwo
    replace HS := Lib.hid (HS.out.step hmr)
    have HMB := Lib.hid hmr
    have HC := Lib.hid hc
    have HINV := Lib.hid hinv
    have HBL := Lib.hid hbl
    obtain ⟨kl, hkl⟩ : ∃ k, lw - d = k := ⟨_, rfl⟩
    rw [hkl] at hrf ⊢
    have HKL := Lib.hid hkl
    have HRF := Lib.hid hrf
    have hkl40 : kl ≤ 40 := by omega
    clear hmr hc hinv hbl hkl hrf
    by_cases hk0 : kl = 0
    case pos =>
      have hdr : ws.drop d = [] := List.eq_nil_of_length_eq_zero (by rw [List.length_drop, HLW.out, HKL.out]; exact hk0)
      have hc2 := HC.out
      rw [hdr] at hc2
      have hc3 : ((9 : Int), (-1 : Int), (0 : Int), (0 : Int)) = (c1, c2, c3, c4) := hc2
      simp only [Prod.mk.injEq] at hc3
      obtain ⟨rfl, rfl, rfl, rfl⟩ := hc3
      subst hk0
      clear hc2 hdr
      have hB := HBL.out
      have qb0 := hB.cell 0 rfl
      have qb1 := hB.cell 1 rfl
      have qb2 := hB.cell 2 rfl
      have qb3 := hB.cell 3 rfl
      have lb := hB.lt
      clear hB
      go_wp2_with fail
      refine (awake21_any _).mono ?_
      rintro e wq7 ⟨rfl, hmm⟩
      replace HS := Lib.hid (HS.out.step hmm)
      clear hmm
      go_wp2_with fail
      go_ret
      exact ⟨rfl, (HS.out.now).2.2.2.2.2.2⟩
    case neg =>
      have z0 : decide (0 < (kl : Int)) = true := by simp; omega
      have hdl : d < ws.length := by rw [HLW.out]; have := HKL.out; omega
      have hdc : ws.drop d = ws[d] :: ws.drop (d + 1) := List.drop_eq_getElem_cons hdl
      obtain ⟨zs, hzs⟩ : ∃ z, ws.drop (d + 1) = z := ⟨_, rfl⟩
      obtain ⟨x, hx⟩ : ∃ x, ws[d] = x := ⟨_, rfl⟩
      rw [hzs, hx] at hdc
      have HZS := Lib.hid hzs
      have HDC := Lib.hid hdc
      have hzl : zs.length = kl - 1 := by rw [← hzs, List.length_drop, HLW.out]; have := HKL.out; omega
      have HZL := Lib.hid hzl
      clear hzs hx hdc hzl
      have hin := HINV.out
      rw [HDC.out] at hin
      obtain ⟨hi1, hi2⟩ := hin
      have hi3 : turnB G f0 x = true ∧ wlk G x zs = true := by rw [wlk] at hi2; exact Bool.and_eq_true_iff.1 hi2
      have hex := turn_ed2 G f0 x hi3.1
      have HEX := Lib.hid hex
      have HWZ := Lib.hid hi3.2
      have hxr := of_decide_eq_true hex
      obtain ⟨xe, hxe⟩ := Int.eq_ofNat_of_zero_le hxr.1
      have hxl : xe < G.E.length := by omega
      have hxn : xe < n2 := by have := he.out; omega
      have HXE := Lib.hid hxe
      clear hi1 hi2 hi3 hex hxr
      have hwx : wtE G x = (G.E[xe]).2.2 := by rw [wtE_in G HEX.out, hxe, eAt_eq G xe hxl]
      clear hxe
      obtain ⟨x0, Hx00⟩ : ∃ qz, (G.E[xe]).1 = qz := ⟨_, rfl⟩
      have Hx0 := Lib.hid Hx00
      clear Hx00
      obtain ⟨y0, Hy00⟩ : ∃ qz, (G.E[xe]).2.1 = qz := ⟨_, rfl⟩
      have Hy0 := Lib.hid Hy00
      clear Hy00
      obtain ⟨z0v, Hz0v0⟩ : ∃ qz, (G.E[xe]).2.2 = qz := ⟨_, rfl⟩
      have Hz0v := Lib.hid Hz0v0
      clear Hz0v0
      rw [Hz0v.out] at hwx
      have hwl := wtE_le G hmay.out x
      rw [hwx] at hwl
      have hw1 := hwl.1
      have hw2 := hwl.2
      have HWX := Lib.hid hwx
      clear hwx hwl
      obtain ⟨eb, eo, hpl, e0, e1, e2⟩ := rd3 (HS.out.now).2.2.2.1.re xe hxl
      have hix := fun wx => run_indexS (P := Try.prog) wx 25 41 iE 3 Try.underlying25 hiE hsE a2 n2 d2 xe hxn ((HS.out.now).2.2.2.1.re.some_ (by have := hxn; omega))
      rw [hpl] at hix
      have HIe := Lib.hid hix
      clear hix hpl
      rw [Hx0.out] at e0
      replace HS := Lib.hid ((Ev.cell e0).and HS.out)
      clear e0
      rw [Hy0.out] at e1
      replace HS := Lib.hid ((Ev.cell e1).and HS.out)
      clear e1
      rw [Hz0v.out] at e2
      replace HS := Lib.hid ((Ev.cell e2).and HS.out)
      clear e2
      replace HS := Lib.hid (((show Ev (fun W => Rd W 1 (.slice la kl lc) kl ((x :: zs).map (Value.int .i64))) wo from fun W mW => by have h := HRF.out W (HMB.out.of2 mW); rw [HDC.out] at h; exact h)).and HS.out)
      replace HS := Lib.hid ((Ev.blk HBL.out).and HS.out)
      obtain ⟨fb, fo, hpl, k0⟩ := rd1 ((HS.out.now).2.1) 0 (by simp)
      have hix := fun wx => run_indexS (P := Try.prog) wx 22 3 iI 1 Try.underlying22 hiI hsI la kl lc 0 (by omega) (((HS.out.now).2.1).some_ (by omega))
      rw [hpl] at hix
      have HIf := Lib.hid hix
      clear hix hpl
      have k1 : wo.cell? ⟨fb, fo, none⟩ = some (.int .i64 (xe : Int)) := by rw [k0]; show some (Value.int .i64 x) = _; rw [HXE.out]
      replace HS := Lib.hid ((Ev.cell k1).and HS.out)
      clear k0 k1
      have HDK : Hid (∀ wx : World, (Instr.slice 22 (.slice la kl lc) (some (.int .i64 1)) none none).run Try.prog wx = .ok (.slice (dropA la lc 1 1) (kl - 1) (lc - 1)) wx) := Lib.hid (fun wx => run_dropS (P := Try.prog) wx 22 3 iI 1 Try.underlying22 hiI hsI la kl lc 1 (by omega))
      replace HS := Lib.hid (((show Ev (fun W => Rd W 1 (.slice (dropA la lc 1 1) (kl - 1) (lc - 1)) (kl - 1) (zs.map (Value.int .i64))) wo from fun W mW => by have h := rd_drop (HRF.out W (HMB.out.of2 mW)) (k := 1) (by omega); rw [HDC.out] at h; exact h)).and HS.out)
      replace HS := Lib.hid ((Ev.mod wo).and HS.out)
      have hB := HBL.out
      have qb0 := hB.cell 0 rfl
      have qb1 := hB.cell 1 rfl
      have qb2 := hB.cell 2 rfl
      have qb3 := hB.cell 3 rfl
      have lb := hB.lt
      clear hB
      have hbbg := (HS.out.now).2.2.2.2.2.2.2.2.2.1
      have qbg_0 := hbbg.cell 0 rfl
      have qbg_1 := hbbg.cell 1 rfl
      have qbg_2 := hbbg.cell 2 rfl
      have lbg := hbbg.lt
      clear hbbg
      go_upto_region 12 with fail
      have z0n : decide (0 < kl) = true := by simp; omega
      try rw [z0n]
      try rw [z0]
      have HK0 := Lib.hid hk0
      clear z0 z0n hk0
      clear qb0 qb1 qb2 qb3 lb
      clear qbg_0 qbg_1 qbg_2 lbg
      have HSd := Lib.hid HS.out.drew
      refine wp_region_inv3 (act := ?acton_r12_0) (Mod (fun _ => False)) (fun i => (on_r12_0_F a2 n2 d2 bg z0v la lc kl xe eb eo fb fo).getD i (fun _ _ => True)) (fun i => on_r12_0_D.getD i []) (by kernel_rfl) (by kernel_rfl) (by kernel_rfl) (by kernel_rfl) (fun _ => Mod.refl _ _)
        (fun _ _ _ h k => h.trans k (fun _ _ e => e) (fun _ _ e => e)) ?hacton_r12_0 (stable_list ?_) ?_ ?_
      case hacton_r12_0 => intro vs; simp only [putAll, Nat.zero_add, Nat.reduceAdd, Act.put, List.setIfInBounds_toArray, List.set_cons_succ, List.set_cons_zero]; exact rfl
      · unfold on_r12_0_F
        exact stable_cons (stable_val _) <| stable_cons (stable_val _) <| stable_cons (stable_val _) <| stable_cons (stable_val _) <| stable_cons (stable_val _) <| stable_cons (stable_val _) <| stable_cons (stable_val _) <| stable_cons (stable_val _) <| stable_cons (stable_val _) <| stable_nil
      · refine opsOkA_cons ?_ ?_
        · intro K vs W hR hD hK
          clear hD
          try dsimp only at hK ⊢
          simp only [Act.put, List.setIfInBounds_toArray, List.set_cons_succ, List.set_cons_zero] at hK
          go_wp2
          exact hK _ _ rfl (Mod.refl _ _)
        refine opsOkA_cons ?_ ?_
        · intro K vs W hR hD hK
          have dq0 : vs 0 = .pointer (some ⟨bg, 1, none⟩) := hD 0 (by decide)
          clear hD
          try dsimp only at hK ⊢
          simp only [Act.put, List.setIfInBounds_toArray, List.set_cons_succ, List.set_cons_zero] at hK
          generalize vs 0 = vq0 at hK dq0 ⊢
          subst vq0
          have q0 := ((HSd.out.at (hR)).2.2.2.2.2.2.2.2.2.1).cell 1 rfl
          go_wp2
          exact hK _ _ rfl (Mod.refl _ _)
        refine opsOkA_cons ?_ ?_
        · intro K vs W hR hD hK
          clear hD
          try dsimp only at hK ⊢
          simp only [Act.put, List.setIfInBounds_toArray, List.set_cons_succ, List.set_cons_zero] at hK
          go_wp2
          exact hK _ _ rfl (Mod.refl _ _)
        refine opsOkA_cons ?_ ?_
        · intro K vs W hR hD hK
          have dq2 : vs 2 = .slice la kl lc := hD 2 (by decide)
          clear hD
          try dsimp only at hK ⊢
          simp only [Act.put, List.setIfInBounds_toArray, List.set_cons_succ, List.set_cons_zero] at hK
          generalize vs 2 = vq2 at hK dq2 ⊢
          subst vq2
          have hix : ∀ wx : World, (Instr.indexAt 22 (.slice la kl lc) (.int .i64 0)).run Try.prog wx = .ok (.pointer (some ⟨fb, fo, none⟩)) wx := HIf.out
          go_wp2_with fail
          exact hK _ _ rfl (Mod.refl _ _)
        refine opsOkA_cons ?_ ?_
        · intro K vs W hR hD hK
          have dq3 : vs 3 = .pointer (some ⟨fb, fo, none⟩) := hD 3 (by decide)
          clear hD
          try dsimp only at hK ⊢
          simp only [Act.put, List.setIfInBounds_toArray, List.set_cons_succ, List.set_cons_zero] at hK
          generalize vs 3 = vq3 at hK dq3 ⊢
          subst vq3
          have c0 := (HSd.out.at (hR)).2.2.1
          go_wp2
          exact hK _ _ rfl (Mod.refl _ _)
        refine opsOkA_cons ?_ ?_
        · intro K vs W hR hD hK
          have dq1 : vs 1 = .slice a2 n2 d2 := hD 1 (by decide)
          have dq4 : vs 4 = .int .i64 (xe : Int) := hD 4 (by decide)
          clear hD
          try dsimp only at hK ⊢
          simp only [Act.put, List.setIfInBounds_toArray, List.set_cons_succ, List.set_cons_zero] at hK
          generalize vs 1 = vq1 at hK dq1 ⊢
          subst vq1
          generalize vs 4 = vq4 at hK dq4 ⊢
          subst vq4
          have hix := HIe.out
          go_wp2_with fail
          exact hK _ _ rfl (Mod.refl _ _)
        refine opsOkA_cons ?_ ?_
        · intro K vs W hR hD hK
          have dq5 : vs 5 = .pointer (some ⟨eb, eo, none⟩) := hD 5 (by decide)
          clear hD
          try dsimp only at hK ⊢
          simp only [Act.put, List.setIfInBounds_toArray, List.set_cons_succ, List.set_cons_zero] at hK
          generalize vs 5 = vq5 at hK dq5 ⊢
          subst vq5
          go_wp2
          exact hK _ _ rfl (Mod.refl _ _)
        refine opsOkA_cons ?_ ?_
        · intro K vs W hR hD hK
          have dq6 : vs 6 = .pointer (some ⟨eb, eo + 2, none⟩) := hD 6 (by decide)
          clear hD
          try dsimp only at hK ⊢
          simp only [Act.put, List.setIfInBounds_toArray, List.set_cons_succ, List.set_cons_zero] at hK
          generalize vs 6 = vq6 at hK dq6 ⊢
          subst vq6
          have c2 := (HSd.out.at (hR)).2.2.2.2.2.1
          go_wp2
          exact hK _ _ rfl (Mod.refl _ _)
        refine opsOkA_cons ?_ ?_
        · intro K vs W hR hD hK
          have dq7 : vs 7 = .int .i64 z0v := hD 7 (by decide)
          clear hD
          try dsimp only at hK ⊢
          simp only [Act.put, List.setIfInBounds_toArray, List.set_cons_succ, List.set_cons_zero] at hK
          generalize vs 7 = vq7 at hK dq7 ⊢
          subst vq7
          go_wp2
          exact hK _ _ rfl (Mod.refl _ _)
        exact opsOkA_nil
      · intro vs wq8 hR hF
        have dq8 : vs 8 = .int .i64 z0v := hF 8 (by decide)
        clear hF
        try dsimp only
        generalize vs 8 = vq8 at dq8 ⊢
        subst dq8
        replace HS := Lib.hid (HSd.out.step hR)
        clear HSd hR
        have hbbg := (HS.out.now).2.2.2.2.2.2.2.2.2.1
        have qbg_0 := hbbg.cell 0 rfl
        have qbg_1 := hbbg.cell 1 rfl
        have qbg_2 := hbbg.cell 2 rfl
        have lbg := hbbg.lt
        clear hbbg
        obtain ⟨e1, e2, e3, e4, he4⟩ : ∃ (e1 e2 e3 e4 : Int), (nextL G (wE G zs) x zs 0 0).1 = (e1, e2, e3, e4) := ⟨_, _, _, _, rfl⟩
        have HE := Lib.hid he4
        clear he4
        have V3 : Hid (validB G (xe : Int) zs = true) := Lib.hid (by rw [← HXE.out]; unfold validB; rw [HEX.out, HWZ.out]; rfl)
        have W3 : Hid (wtN G zs = wE G zs) := Lib.hid (by have h := wlk_all G _ _ HWZ.out; unfold wtN; rw [if_pos h, wE_all G zs h])
        have H3 : Hid (hintV (if validB G (xe : Int) zs = true then (nextL G (wtN G zs) (xe : Int) zs 0 0).1 else (0, 0, 0, 0)) = .agg #[.int .i64 e1, .int .i64 e2, .int .i64 e3, .int .i64 e4]) := Lib.hid (by rw [V3.out, if_pos rfl, W3.out, ← HXE.out, HE.out]; rfl)
        go_upto_region 13 with fail
        clear qbg_0 qbg_1 qbg_2 lbg
        obtain ⟨B0, hB0⟩ : ∃ n, wq8.heap.size = n := ⟨_, rfl⟩
        have HB0 := Lib.hid hB0
        clear hB0
        have HSd := Lib.hid HS.out.drew
        refine wp_region_box (act := ?acton_r13_1) B0 56 [.int .i64 0, .int .i64 0, .int .i64 0, .int .i64 0] [.int .i64 e1, .int .i64 e2, .int .i64 e3, .int .i64 e4] 10 11 (on_r13_1_V t e1 e2 e3 e4 la lc kl xe fb fo) (fun i => on_r13_1_D.getD i []) (by decide) (by kernel_rfl) (by kernel_rfl) (by kernel_rfl) (by kernel_rfl) ?hacton_r13_1 ?_ ?_
        case hacton_r13_1 => intro vs; simp only [putAll, Nat.zero_add, Nat.reduceAdd, Act.put, List.setIfInBounds_toArray, List.set_cons_succ, List.set_cons_zero]; exact rfl
        · refine opsOkV_cons ?_ ?_
          · intro K vs W hR hD hK
            clear hD
            try dsimp only at hK ⊢
            simp only [Act.put, List.setIfInBounds_toArray, List.set_cons_succ, List.set_cons_zero] at hK
            go_wp2
            exact hK _ _ (boxF_of (by decide) (by decide) rfl) (BoxR.refl _ _ _ _ _)
          refine opsOkV_cons ?_ ?_
          · intro K vs W hR hD hK
            clear hD
            try dsimp only at hK ⊢
            simp only [Act.put, List.setIfInBounds_toArray, List.set_cons_succ, List.set_cons_zero] at hK
            go_wp2
            exact hK _ _ (boxF_of (by decide) (by decide) rfl) (BoxR.refl _ _ _ _ _)
          refine opsOkV_cons ?_ ?_
          · intro K vs W hR hD hK
            have dq1 : vs 1 = .slice la kl lc := boxF_val (by decide) (by decide) (hD 1 (by decide))
            clear hD
            try dsimp only at hK ⊢
            simp only [Act.put, List.setIfInBounds_toArray, List.set_cons_succ, List.set_cons_zero] at hK
            generalize vs 1 = vq1 at hK dq1 ⊢
            subst vq1
            have hix : ∀ wx : World, (Instr.indexAt 22 (.slice la kl lc) (.int .i64 0)).run Try.prog wx = .ok (.pointer (some ⟨fb, fo, none⟩)) wx := HIf.out
            go_wp2_with fail
            exact hK _ _ (boxF_of (by decide) (by decide) rfl) (BoxR.refl _ _ _ _ _)
          refine opsOkV_cons ?_ ?_
          · intro K vs W hR hD hK
            have dq2 : vs 2 = .pointer (some ⟨fb, fo, none⟩) := boxF_val (by decide) (by decide) (hD 2 (by decide))
            clear hD
            try dsimp only at hK ⊢
            simp only [Act.put, List.setIfInBounds_toArray, List.set_cons_succ, List.set_cons_zero] at hK
            generalize vs 2 = vq2 at hK dq2 ⊢
            subst vq2
            have c0 := (HSd.out.at ((hR.mod.mono (fun k hk e => by have h := HB0.out; simp at hk; omega)))).2.2.1
            go_wp2
            exact hK _ _ (boxF_of (by decide) (by decide) rfl) (BoxR.refl _ _ _ _ _)
          refine opsOkV_cons ?_ ?_
          · intro K vs W hR hD hK
            clear hD
            try dsimp only at hK ⊢
            simp only [Act.put, List.setIfInBounds_toArray, List.set_cons_succ, List.set_cons_zero] at hK
            go_wp2
            exact hK _ _ (boxF_of (by decide) (by decide) rfl) (BoxR.refl _ _ _ _ _)
          refine opsOkV_cons ?_ ?_
          · intro K vs W hR hD hK
            have dq4 : vs 4 = .slice la kl lc := boxF_val (by decide) (by decide) (hD 4 (by decide))
            clear hD
            try dsimp only at hK ⊢
            simp only [Act.put, List.setIfInBounds_toArray, List.set_cons_succ, List.set_cons_zero] at hK
            generalize vs 4 = vq4 at hK dq4 ⊢
            subst vq4
            have hdk := HDK.out
            go_wp2_with fail
            exact hK _ _ (boxF_of (by decide) (by decide) rfl) (BoxR.refl _ _ _ _ _)
          refine opsOkV_cons ?_ ?_
          · intro K vs W hR hD hK
            have dq0 : vs 0 = .pointer (some ⟨t, 0, none⟩) := boxF_val (by decide) (by decide) (hD 0 (by decide))
            have dq3 : vs 3 = .int .i64 (xe : Int) := boxF_val (by decide) (by decide) (hD 3 (by decide))
            have dq5 : vs 5 = .slice (dropA la lc 1 1) (kl - 1) (lc - 1) := boxF_val (by decide) (by decide) (hD 5 (by decide))
            clear hD
            try dsimp only at hK ⊢
            simp only [Act.put, List.setIfInBounds_toArray, List.set_cons_succ, List.set_cons_zero] at hK
            generalize vs 0 = vq0 at hK dq0 ⊢
            subst vq0
            generalize vs 3 = vq3 at hK dq3 ⊢
            subst vq3
            generalize vs 5 = vq5 at hK dq5 ⊢
            subst vq5
            go_wp2_with (go_at_call 29; refine (ghint_any t p B C G hmay.out W ((HSd.out.at ((hR.mod.mono (fun k hk e => by have h := HB0.out; simp at hk; omega)))).2.2.2.2.2.2.2.2.2.2.1) (xe : Int) (dropA la lc 1 1) (kl - 1) (lc - 1) zs HZL.out ((HSd.out.at ((hR.mod.mono (fun k hk e => by have h := HB0.out; simp at hk; omega)))).2.1) (by omega)).mono ?_; rintro e' w' ⟨rfl, hm'⟩; rw [H3.out, V3.out])
            exact hK _ _ (boxF_of (by decide) (by decide) rfl) (BoxR.of hm')
          refine opsOkV_cons ?_ ?_
          · intro K vs W hR hD hK
            have dq6 : vs 6 = .tuple #[.agg #[.int .i64 e1, .int .i64 e2, .int .i64 e3, .int .i64 e4], .bool true] := boxF_val (by decide) (by decide) (hD 6 (by decide))
            clear hD
            try dsimp only at hK ⊢
            simp only [Act.put, List.setIfInBounds_toArray, List.set_cons_succ, List.set_cons_zero] at hK
            generalize vs 6 = vq6 at hK dq6 ⊢
            subst vq6
            go_wp2
            exact hK _ _ (boxF_of (by decide) (by decide) rfl) (BoxR.refl _ _ _ _ _)
          refine opsOkV_cons ?_ ?_
          · intro K vs W hR hD hK
            have dq7 : vs 7 = .tuple #[.agg #[.int .i64 e1, .int .i64 e2, .int .i64 e3, .int .i64 e4], .bool true] := boxF_val (by decide) (by decide) (hD 7 (by decide))
            clear hD
            try dsimp only at hK ⊢
            simp only [Act.put, List.setIfInBounds_toArray, List.set_cons_succ, List.set_cons_zero] at hK
            generalize vs 7 = vq7 at hK dq7 ⊢
            subst vq7
            go_wp2
            exact hK _ _ (boxF_of (by decide) (by decide) rfl) (BoxR.refl _ _ _ _ _)
          refine opsOkV_cons ?_ ?_
          · intro K vs W hR hD hK
            have dq7 : vs 7 = .tuple #[.agg #[.int .i64 e1, .int .i64 e2, .int .i64 e3, .int .i64 e4], .bool true] := boxF_val (by decide) (by decide) (hD 7 (by decide))
            clear hD
            try dsimp only at hK ⊢
            simp only [Act.put, List.setIfInBounds_toArray, List.set_cons_succ, List.set_cons_zero] at hK
            generalize vs 7 = vq7 at hK dq7 ⊢
            subst vq7
            go_wp2
            exact hK _ _ (boxF_of (by decide) (by decide) rfl) (BoxR.refl _ _ _ _ _)
          refine opsOkV_cons ?_ ?_
          · intro K vs W hR hD hK
            clear hD
            try dsimp only at hK ⊢
            simp only [Act.put, List.setIfInBounds_toArray, List.set_cons_succ, List.set_cons_zero] at hK
            have hz : B0 ≤ W.heap.size := by have h := HB0.out; have h2 := hR.mod.size; simp at h2; omega
            go_wp2
            exact hK _ _ (boxF_of_var hz (Blk.new W 56 [.int .i64 0, .int .i64 0, .int .i64 0, .int .i64 0])) (BoxR.of (Mod.alloc _ _ _))
          refine opsOkV_cons ?_ ?_
          · intro K vs W hR hD hK
            obtain ⟨bb, hvb, hB, hbl⟩ := boxF_var (hD 10 (by decide))
            have dq8 : vs 8 = .agg #[.int .i64 e1, .int .i64 e2, .int .i64 e3, .int .i64 e4] := boxF_val (by decide) (by decide) (hD 8 (by decide))
            clear hD
            try dsimp only at hK ⊢
            simp only [Act.put, List.setIfInBounds_toArray, List.set_cons_succ, List.set_cons_zero] at hK
            generalize vs 8 = vq8 at hK dq8 ⊢
            subst vq8
            rw [hvb] at hK ⊢
            rcases hbl with hbl | hbl
            all_goals
              have c0 := hbl.cell 0 rfl
              have c1 := hbl.cell 1 rfl
              have c2 := hbl.cell 2 rfl
              have c3 := hbl.cell 3 rfl
              have f0 := hbl.free 0
              have f1 := hbl.free 1
              have f2 := hbl.free 2
              have f3 := hbl.free 3
              go_wp2
              exact hK undef _ (boxF_of_fill (by decide) hvb hB ((((hbl.set 0 (.int .i64 e1)).set 1 (.int .i64 e2)).set 2 (.int .i64 e3)).set 3 (.int .i64 e4))) (BoxR.fill hB ((((Mod.setCell (F := fun k => k = bb) (W) ⟨bb, 0, none⟩ (.int .i64 e1) rfl).trans (Mod.setCell (F := fun k => k = bb) (World.setCell (W) ⟨bb, 0, none⟩ (.int .i64 e1)) ⟨bb, 1, none⟩ (.int .i64 e2) rfl) (fun _ _ e => e) (fun _ _ e => e)).trans (Mod.setCell (F := fun k => k = bb) (World.setCell (World.setCell (W) ⟨bb, 0, none⟩ (.int .i64 e1)) ⟨bb, 1, none⟩ (.int .i64 e2)) ⟨bb, 2, none⟩ (.int .i64 e3) rfl) (fun _ _ e => e) (fun _ _ e => e)).trans (Mod.setCell (F := fun k => k = bb) (World.setCell (World.setCell (World.setCell (W) ⟨bb, 0, none⟩ (.int .i64 e1)) ⟨bb, 1, none⟩ (.int .i64 e2)) ⟨bb, 2, none⟩ (.int .i64 e3)) ⟨bb, 3, none⟩ (.int .i64 e4) rfl) (fun _ _ e => e) (fun _ _ e => e)) ((((hbl.set 0 (.int .i64 e1)).set 1 (.int .i64 e2)).set 2 (.int .i64 e3)).set 3 (.int .i64 e4)))
          refine opsOkV_cons ?_ ?_
          · intro K vs W hR hD hK
            have dq9 : vs 9 = .bool true := boxF_val (by decide) (by decide) (hD 9 (by decide))
            clear hD
            try dsimp only at hK ⊢
            simp only [Act.put, List.setIfInBounds_toArray, List.set_cons_succ, List.set_cons_zero] at hK
            generalize vs 9 = vq9 at hK dq9 ⊢
            subst vq9
            go_wp2
            exact hK _ _ (boxF_of (by decide) (by decide) rfl) (BoxR.refl _ _ _ _ _)
          exact opsOkV_nil
        · intro vs wq9 hR hF
          obtain ⟨bo, hvb, _, hbl⟩ := boxF_fill (by decide) (hF 11 (by decide))
          have dq12 : vs 12 = .bool true := boxF_val (by decide) (by decide) (hF 12 (by decide))
          clear hF
          try dsimp only
          rw [hvb]
          generalize vs 12 = vq12 at dq12 ⊢
          subst dq12
          replace HS := Lib.hid (HSd.out.step (hR.mod.mono (fun k hk e => by have h := HB0.out; simp at hk; omega)))
          clear HSd hR hvb
          replace HS := Lib.hid ((Ev.blk hbl).and HS.out)
          clear hbl
          have hbbg := (HS.out.now).2.2.2.2.2.2.2.2.2.2.1
          have qbg_0 := hbbg.cell 0 rfl
          have qbg_1 := hbbg.cell 1 rfl
          have qbg_2 := hbbg.cell 2 rfl
          have lbg := hbbg.lt
          clear hbbg
          have hbbo := (HS.out.now).1
          have qbo_0 := hbbo.cell 0 rfl
          have qbo_1 := hbbo.cell 1 rfl
          have qbo_2 := hbbo.cell 2 rfl
          have qbo_3 := hbbo.cell 3 rfl
          have lbo := hbbo.lt
          clear hbbo
          have hO := (HS.out.now).1
          have hC2 := HC.out
          rw [HDC.out] at hC2
          have hst := on_step G _ _ f0 x zs _ _ hC2 HE.out
          have hf1 := next_far G hmay.out (wE G (x :: zs)) f0 (x :: zs)
          have hf2 := next_far G hmay.out (wE G zs) x zs
          rw [hC2] at hf1
          rw [HE.out] at hf2
          simp only [List.length_cons, HZL.out] at hst hf1 hf2
          have hwe : wE G (x :: zs) = wtE G x + wE G zs := rfl
          have hwb2 := wE_le G hmay.out zs
          rw [HZL.out] at hwb2
          rw [HWX.out] at hst hwe
          have b1 : 0 ≤ c3 ∧ c3 ≤ 10000000 := by omega
          have b2 : 0 ≤ e3 ∧ e3 ≤ 10000000 := by omega
          have b3 : 0 ≤ e4 ∧ e4 ≤ 10000000 := by omega
          have b4 : c4 = z0v + e4 := by omega
          have hst2 : c3 = 0 ∨ (c1 = e1 ∧ c2 = e2 ∧ c3 = z0v + e3) := hst
          clear hst hf1 hf2 hwe hwb2 hC2
          have b1a := b1.1
          have b1b := b1.2
          have b2a := b2.1
          have b2b := b2.2
          have b3a := b3.1
          have b3b := b3.2
          clear b1 b2 b3
          have zl : (e4 != c4 - z0v) = false := by rw [show c4 - z0v = e4 by omega]; simp
          have b4b : 0 ≤ c4 ∧ c4 ≤ 20000000 := by omega
          have b4c := b4b.1
          have b4d := b4b.2
          have HB4 := Lib.hid b4
          clear b4 b4b
          clear qbg_0 qbg_1 qbg_2 lbg qbo_0 qbo_1 qbo_2 qbo_3 lbo
          have qo0 := hO.cell 0 rfl
          have qo1 := hO.cell 1 rfl
          have qo2 := hO.cell 2 rfl
          have qo3 := hO.cell 3 rfl
          have lo := hO.lt
          have hB := (HS.out.now).2.2.2.2.1
          have HBM := Lib.hid hB
          have qb0 := hB.cell 0 rfl
          have qb1 := hB.cell 1 rfl
          have qb2 := hB.cell 2 rfl
          have qb3 := hB.cell 3 rfl
          have fb0 := hB.free 0
          have fb1 := hB.free 1
          have fb2 := hB.free 2
          have fb3 := hB.free 3
          have lb := hB.lt
          clear hB hO
          have HM1 := Lib.hid (HMB.out.of2 ((HS.out.now).2.1))
          go_upto_region 16 with fail
          have HST := Lib.hid hst2
          clear hst2 zl
          go_cut [107] (fun cv wx => cv = .bool false ∧ wq9 = wx)
          case first =>
            by_cases hc3 : 0 < c3
            case pos =>
              have z1 : decide (0 < c3) = true := by simpa using hc3
              obtain ⟨r1, r2, r3⟩ := HST.out.resolve_left (by omega)
              have y1 : (e3 != c3 - z0v) = false := by rw [show c3 - z0v = e3 by omega]; simp
              have y2 : (e1 != c1) = false := by rw [r1]; simp
              have y3 : (e2 != c2) = false := by rw [r2]; simp
              clear r1 r2 r3 hc3
              go_wp2_with fail
              go_meet
              exact ⟨rfl, rfl⟩
            case neg =>
              have z1 : decide (0 < c3) = false := by simpa using hc3
              go_wp2_with fail
              go_meet
              exact ⟨rfl, rfl⟩
          case rest =>
            obtain ⟨hcv, hwx2⟩ := hcut
            subst hwx2
            subst hcv
            go_upto_region 19 with fail
            obtain ⟨wz, hws⟩ : ∃ W, World.setCell (World.setCell (World.setCell (World.setCell (wq9) ⟨bh, 0, none⟩ (.int .i64 e1)) ⟨bh, 1, none⟩ (.int .i64 e2)) ⟨bh, 2, none⟩ (.int .i64 e3)) ⟨bh, 3, none⟩ (.int .i64 e4) = W := ⟨_, rfl⟩
            have hbs : Blk wz bh 56 [.int .i64 e1, .int .i64 e2, .int .i64 e3, .int .i64 e4] := by rw [← hws]; exact ((((HBM.out.set 0 (.int .i64 e1)).set 1 (.int .i64 e2)).set 2 (.int .i64 e3)).set 3 (.int .i64 e4))
            have hms : Mod (fun k => k = bh) wq9 wz := by rw [← hws]; exact ((((Mod.refl (fun k => k = bh) wq9).ofFx (Mod.setCell (F := fun k => k = bh) _ ⟨bh, 0, none⟩ (.int .i64 e1) rfl)).ofFx (Mod.setCell (F := fun k => k = bh) _ ⟨bh, 1, none⟩ (.int .i64 e2) rfl)).ofFx (Mod.setCell (F := fun k => k = bh) _ ⟨bh, 2, none⟩ (.int .i64 e3) rfl)).ofFx (Mod.setCell (F := fun k => k = bh) _ ⟨bh, 3, none⟩ (.int .i64 e4) rfl)
            rw [hws]
            clear hws qb0 fb0 qo0 qb1 fb1 qo1 qb2 fb2 qo2 qb3 fb3 qo3
            have HMZ := Lib.hid (HM1.out.old hms (fun i hi => by rw [hi]; exact HBB.out))
            have HBS := Lib.hid hbs
            clear hbs hms lo lb
            have hdk := HDK.out
            go_wp2_with fail
            go_roundw
            case rel =>
              have hk1 : kl - 1 = lw - (d + 1) := by have := HKL.out; omega
              refine ⟨d + 1, x, e1, e2, e3, e4, dropA la lc 1 1, lc - 1, by have := HKL.out; omega, by rw [hk1], by rw [HZS.out]; exact HE.out, ⟨HEX.out, by rw [HZS.out]; exact HWZ.out⟩, ?_, HBS.out, HMZ.out⟩
              intro W mW
              rw [HZS.out, ← hk1]
              have h := rd_drop (HRF.out W mW) (k := 1) (by omega)
              rw [HDC.out] at h
              exact h
            case measure => show kl - 1 < kl; omega
theorem gon_law (w : World) (a0 : Option Addr) (m c0 : Nat) (l : List Int) (ok : (encSlice (encInt .i64)).ok w (.slice a0 m c0, l)) (at_ : Int) (_ : (Lit.int .i64 at_).wf = true) (a4 : Option Addr) (n4 d4 : Nat) (st : List Int) (ok4 : (encSlice (encInt .i64)).ok w (.slice a4 n4 d4, st)) :
    Calls Try.prog 8 #[.slice a0 m c0, .int .i64 at_, .slice a4 n4 d4] w fun e w' => e = .returned (.bool true) ∧ Below w.heap.size w w' := by
  obtain ⟨hn, hr, _⟩ := ok_ints ok
  obtain ⟨hn4, hr4, _⟩ := ok_ints ok4
  exact (gon_all w a0 m c0 l hn hr at_ a4 n4 d4 st hn4 hr4).mono fun e w' h => ⟨h.1, h.2.below (Nat.le_refl _) (fun _ e => e.elim)⟩
end Go.Proofs.Ytagmnkobigecnaa
