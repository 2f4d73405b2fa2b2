/- GuideOnly walked. -/
import Derived.Test.YtagmnkobigecnaaKGuide
import Derived.Test.YtagmnkobigecnaaRBend
import Derived.Test.YtagmnkobigecnaaRNext
import Derived.Test.YtagmnkobigecnaaKStroll
import Derived.Test.YtagmnkobigecnaaRound
import Derived.Test.YtagmnkobigecnaaOpens
import Derived.Deep.DeepCutAuto
import Derived.Deep.CutBlock
namespace Go.Proofs.Ytagmnkobigecnaa
open Go.RowKit Mile
set_option maxRecDepth 100000
theorem next_ge (G : GD) (hm : May G) (W f far : Int) (xs : List Int) (i : Nat) : far ≤ (nextL G W f xs far i).1.2.2.1 := by
  rcases nextL_form G W xs f far i with h | ⟨a, b, e, h1, _, h2⟩
  · rw [h]; have := wE_le G hm xs; show far ≤ far + wE G xs; omega
  · rw [h2]; have := wE_le G hm a; show far ≤ far + wE G a; omega
theorem allE_at (G : GD) (xs : List Int) (h : allE G xs = true) (k : Nat) (hk : k < xs.length) : edB G xs[k] = true := List.all_eq_true.1 h _ (List.getElem_mem hk)
/-- What each operation of the statement leaves. -/
def go_r17_0_F (a1 : Option Addr) (a2 : Option Addr) (a3 : Option Addr) (n1 : Nat) (d1 : Nat) (n2 : Nat) (d2 : Nat) (n3 : Nat) (d3 : Nat) (lw : Nat) (cw : Nat) (aw : Option Addr) (c1 : Int) (c2 : Int) (x : Int) (f0 : Int) (k2 : Int) (k : Nat) (bh : Nat) (eb : Nat) (eo : Nat) : List (Value → World → Prop) :=
  [IsV (.pointer (some ⟨bh, 1, none⟩)),
   IsV (.int .i64 c2),
   IsV (.slice aw lw cw),
   IsV (.int .i64 (k : Int)),
   IsV (.pointer (some ⟨eb, eo, none⟩)),
   IsV (.int .i64 x),
   IsV (.bool true),
   IsV (.bool true),
   IsV (.pointer (some ⟨bh, 0, none⟩)),
   IsV (.int .i64 c1),
   IsV (.agg #[.slice a1 n1 d1, .slice a2 n2 d2, .slice a3 n3 d3]),
   IsV (.int .i64 f0),
   IsV (.slice aw lw cw),
   IsV (.int .i64 (k : Int)),
   IsV (.pointer (some ⟨eb, eo, none⟩)),
   IsV (.int .i64 x),
   IsV (.int .i64 k2),
   IsV (.bool true),
   IsV (.bool true),
   IsV (.bool true),
   IsV (.pointer (some ⟨bh, 0, none⟩)),
   IsV (.int .i64 c1),
   IsV (.bool true),
   IsV (.bool true),
   IsV (.bool true),
   IsV (.bool true),
   IsV (.bool true),
   IsV (.bool true)]
def go_r17_0_D : List (List Nat) := [[], [0], [], [], [2, 3], [4], [1, 5], [6], [7], [7, 8], [7], [7], [7], [7], [7, 12, 13], [7, 14], [7, 10, 11, 15], [7, 9, 16], [7, 17], [18], [19], [19, 20], [19, 21], [19, 22], [23], [24], [24, 25], [26]]

set_option maxHeartbeats 64000000 in
theorem gonly_all (w : World) (a0 : Option Addr) (m c0 : Nat) (l : List Int) (hm : l.length = m) (hr : Rd w 1 (.slice a0 m c0) m (l.map (Value.int .i64))) (at_ : Int) (a4 : Option Addr) (n4 d4 : Nat) (st : List Int) (hn4 : st.length = n4) (hr4 : Rd w 1 (.slice a4 n4 d4) n4 (st.map (Value.int .i64))) :
    Calls Try.prog 7 #[.slice a0 m c0, .int .i64 at_, .slice a4 n4 d4] w fun e w' => e = .returned (.bool true) ∧ Mod (fun _ => False) w w' := by
  obtain ⟨iI, hiI, hzI, hsI, hbI⟩ := info_parts GR.infoI
  obtain ⟨iE, hiE, hzE, hsE, hbE⟩ := info_parts GR.infoE
  have HN4 := Lib.hid hn4
  clear hn4
  by_cases hlen0 : m ≤ 100
  case neg =>
    have HS : Hid (Ev (Mod (fun _ => False) w) w) := Lib.hid (Ev.mod w)
    have z0 : decide (100 < (m : Int)) = true := by simp; omega
    have z1 : decide (100 < m) = true := by simp; omega
    go_enter Try.func7, Try.ntmps7
    go_wp2_with fail
    refine (awake21_any _).mono ?_
    rintro e wq1 ⟨rfl, hm⟩
    replace HS := Lib.hid (HS.out.step hm)
    clear hm
    go_wp2_with fail
    go_ret
    exact ⟨rfl, HS.out.now⟩
  by_cases hlen1 : n4 ≤ 40
  case neg =>
    have HS : Hid (Ev (Mod (fun _ => False) w) w) := Lib.hid (Ev.mod w)
    have y0 : decide (100 < (m : Int)) = false := by simp; omega
    have z0 : decide (40 < (n4 : Int)) = true := by simp; omega
    have z1 : decide (40 < n4) = true := by simp; omega
    go_enter Try.func7, Try.ntmps7
    go_wp2_with fail
    refine (awake21_any _).mono ?_
    rintro e wq2 ⟨rfl, hm⟩
    replace HS := Lib.hid (HS.out.step hm)
    clear hm
    go_wp2_with fail
    go_ret
    exact ⟨rfl, HS.out.now⟩
  have HS : Hid (Ev (Mod (fun _ => False) w) w) := Lib.hid (Ev.mod w)
  have y0 : decide (100 < (m : Int)) = false := by simp; omega
  have y1 : decide (40 < (n4 : Int)) = false := by simp; omega
  replace HS := Lib.hid ((Ev.rd hr).and HS.out)
  replace HS := Lib.hid ((Ev.rd hr4).and HS.out)
  clear hr hr4
  go_enter Try.func7, Try.ntmps7
  go_wp2_with fail
  refine (made21_any _ a0 m c0 l hm ((HS.out.now).2.1)).mono ?_
  rintro e wq3 ⟨a1, n1, d1, a2, n2, d2, a3, n3, d3, t, p, B, C, rfl, hg, hto, hmm⟩
  replace HS := Lib.hid (HS.out.step hmm)
  clear hmm
  replace HS := Lib.hid ((Ev.gv hg).and HS.out)
  replace HS := Lib.hid ((Ev.to hto).and HS.out)
  clear hg hto y0 y1
  have hmay := Lib.hid (town_may l)
  have hfew := Lib.hid (town_few l)
  obtain ⟨G, hG⟩ : ∃ G, townG l = G := ⟨_, rfl⟩
  rw [hG] at hmay hfew
  rw [hG] at HS
  clear hG
  have hn := Lib.hid ((HS.out.now).2.1.n)
  have he := Lib.hid ((HS.out.now).2.1.e)
  have hb := Lib.hid ((HS.out.now).2.1.b)
  have h1n : n1 ≤ 16 := by have := hfew.out.1.2; have := hn.out; omega
  have h2n : n2 ≤ 67 := by have := hfew.out.2.1.2; have := he.out; omega
  have h2p : 1 ≤ n2 := by have := hfew.out.2.1.1; have := he.out; omega
  have h3n : n3 ≤ 469 := by have := hfew.out.2.2; have := hb.out; omega
  go_wp2_with fail
  obtain ⟨bg, hbg⟩ : ∃ b, wq3.heap.size = b := ⟨_, rfl⟩
  obtain ⟨wq4, hwq4⟩ : ∃ W, World.alloc wq3 (.cells #[.slice a1 n1 d1, .slice a2 n2 d2, .slice a3 n3 d3] 28) = W := ⟨_, rfl⟩
  have hBbg : Blk wq4 bg 28 [.slice a1 n1 d1, .slice a2 n2 d2, .slice a3 n3 d3] := by rw [← hwq4, ← hbg]; exact Blk.new _ 28 [.slice a1 n1 d1, .slice a2 n2 d2, .slice a3 n3 d3]
  have hzbg : wq4.heap.size = bg + 1 := by rw [← hwq4, ← hbg]; exact heap_size_alloc _ _
  replace HS := Lib.hid (HS.out.step (w' := wq4) (by rw [← hwq4]; exact Mod.alloc _ _ _))
  replace HS := Lib.hid ((Ev.blk hBbg).and HS.out)
  try rw [hwq4]
  try rw [hbg]
  clear hzbg hBbg hbg hwq4
  have hbbg := (HS.out.now).1
  have qbg_0 := hbbg.cell 0 rfl
  have qbg_1 := hbbg.cell 1 rfl
  have qbg_2 := hbbg.cell 2 rfl
  have lbg := hbbg.lt
  clear hbbg
  go_wp2_with fail
  refine (round_any at_ (n2 : Int) _ (by omega) (by omega)).mono ?_
  rintro e w' ⟨rfl, rfl⟩
  have hr0 := Int.emod_nonneg (at_) (b := (n2 : Int)) (by omega)
  have hr1 := Int.emod_lt_of_pos (at_) (b := (n2 : Int)) (by omega)
  obtain ⟨er, hr2⟩ := Int.eq_ofNat_of_zero_le hr0
  rw [hr2] at hr1 ⊢
  have HE0 := Lib.hid hr2
  have HE0b := hr1
  clear hr0 hr1 hr2
  go_wp2_with fail
  refine (stroll_any G _ a1 n1 d1 a2 n2 d2 a3 n3 d3 ((HS.out.now).2.2.1) (by omega) (by omega) (er : Int) a4 n4 d4 st HN4.out ((HS.out.now).2.2.2.1) (by omega)).mono ?_
  rintro e wq5 ⟨v', rfl, ⟨aw, cw, rfl, hx'⟩, hmm⟩
  replace HS := Lib.hid (HS.out.step hmm)
  clear hmm
  replace HS := Lib.hid ((Ev.rd hx').and HS.out)
  clear hx'
  clear qbg_0 qbg_1 qbg_2 lbg
  have hbbg := (HS.out.now).2.1
  have qbg_0 := hbbg.cell 0 rfl
  have qbg_1 := hbbg.cell 1 rfl
  have qbg_2 := hbbg.cell 2 rfl
  have lbg := hbbg.lt
  clear hbbg
  obtain ⟨ws, hws⟩ : ∃ l, strollL G (er : Int) st = l := ⟨_, rfl⟩
  have hwk := stroll_wlk G (er : Int) st
  have hwl := stroll_len G (er : Int) st
  rw [hws] at HS hwk hwl ⊢
  have HWS := Lib.hid hws
  have HWK := Lib.hid hwk
  clear hws hwk
  obtain ⟨lw, hlw⟩ : ∃ n, ws.length = n := ⟨_, rfl⟩
  rw [hlw] at HS hwl ⊢
  have HLW := Lib.hid hlw
  have hl4 : lw ≤ 40 := by have := HN4.out; omega
  clear hlw hwl
  have hcw : lw ≤ cw := rd_cap ((HS.out.now).1)
  have hed : edB G (er : Int) = true := decide_eq_true ⟨by omega, by have := he.out; omega⟩
  have hal : allE G ws = true := wlk_all G _ _ HWK.out
  have V1 : Hid (validB G (er : Int) ws = true) := Lib.hid (by unfold validB; rw [hed, HWK.out]; rfl)
  have WT : Hid (wtN G ws = wE G ws) := Lib.hid (by unfold wtN; rw [if_pos hal, wE_all G ws hal])
  have HAL := Lib.hid hal
  clear hed hal
  obtain ⟨c1, c2, c3, c4, hc⟩ : ∃ (c1 c2 c3 c4 : Int), (nextL G (wE G ws) (er : Int) ws 0 0).1 = (c1, c2, c3, c4) := ⟨_, _, _, _, rfl⟩
  have HC := Lib.hid hc
  clear hc
  go_wp2_with fail
  refine (ghint_any t p B C G hmay.out _ ((HS.out.now).2.2.1) (er : Int) aw lw cw ws HLW.out ((HS.out.now).1) (by omega)).mono ?_
  rintro e wq6 ⟨rfl, hmm⟩
  replace HS := Lib.hid (HS.out.step hmm)
  clear hmm
  clear qbg_0 qbg_1 qbg_2 lbg
  have hbbg := (HS.out.now).2.1
  have qbg_0 := hbbg.cell 0 rfl
  have qbg_1 := hbbg.cell 1 rfl
  have qbg_2 := hbbg.cell 2 rfl
  have lbg := hbbg.lt
  clear hbbg
  rw [V1.out, WT.out, show hintV (if true = true then (nextL G (wE G ws) (er : Int) ws 0 0).1 else (0, 0, 0, 0)) = .agg #[.int .i64 c1, .int .i64 c2, .int .i64 c3, .int .i64 c4] from by rw [if_pos rfl, HC.out]; rfl]
  go_upto_region 9 with fail
  obtain ⟨bh, hbh⟩ : ∃ b, wq6.heap.size = b := ⟨_, rfl⟩
  obtain ⟨wq7, hwq7⟩ : ∃ W, World.alloc wq6 (.cells #[.int .i64 c1, .int .i64 c2, .int .i64 c3, .int .i64 c4] 56) = W := ⟨_, rfl⟩
  have hBbh : Blk wq7 bh 56 [.int .i64 c1, .int .i64 c2, .int .i64 c3, .int .i64 c4] := by rw [← hwq7, ← hbh]; exact Blk.new _ 56 [.int .i64 c1, .int .i64 c2, .int .i64 c3, .int .i64 c4]
  have hzbh : wq7.heap.size = bh + 1 := by rw [← hwq7, ← hbh]; exact heap_size_alloc _ _
  replace HS := Lib.hid (HS.out.step (w' := wq7) (by rw [← hwq7]; exact Mod.alloc _ _ _))
  replace HS := Lib.hid ((Ev.blk hBbh).and HS.out)
  try rw [hwq7]
  try rw [hbh]
  clear hzbh hBbh hbh hwq7
  clear qbg_0 qbg_1 qbg_2 lbg
  have hbbg := (HS.out.now).2.2.1
  have qbg_0 := hbbg.cell 0 rfl
  have qbg_1 := hbbg.cell 1 rfl
  have qbg_2 := hbbg.cell 2 rfl
  have lbg := hbbg.lt
  clear hbbg
  have hbbh := (HS.out.now).1
  have qbh_0 := hbbh.cell 0 rfl
  have qbh_1 := hbbh.cell 1 rfl
  have qbh_2 := hbbh.cell 2 rfl
  have qbh_3 := hbbh.cell 3 rfl
  have lbh := hbbh.lt
  clear hbbh
  go_wp2_with fail
  replace HS := Lib.hid ((Ev.mod wq7).and HS.out)
  go_loopw [9, 13, 14, 15] (fun f s i q wr => ∃ (k : Nat) (f0 far : Int), k ≤ lw ∧ i = .int .i64 k ∧ f = .int .i64 f0 ∧ s = .int .i64 far ∧ nextL G (wE G ws) (er : Int) ws 0 0 = nextL G (wE G ws) f0 (ws.drop k) far k ∧ (0 ≤ far ∧ far ≤ 65535 * (k : Int)) ∧ Mod (fun _ => False) wq7 wr) (fun f s i q _ => lw - (intOf i).toNat)
  case atStart => exact ⟨0, er, 0, by omega, rfl, rfl, rfl, rfl, ⟨by omega, by omega⟩, Mod.refl _ _⟩
  case round =>
    obtain ⟨k, f0, far, hk, rfl, rfl, rfl, hs, hfb, hmr⟩ := hrel
    obtain ⟨wo, hwo⟩ : ∃ x : World, x = wr := ⟨_, rfl⟩
    subst hwo
    replace HS := Lib.hid (HS.out.step hmr)
    clear hmr
    clear qbg_0 qbg_1 qbg_2 lbg qbh_0 qbh_1 qbh_2 qbh_3 lbh
    have hbbg := (HS.out.now).2.2.2.1
    have qbg_0 := hbbg.cell 0 rfl
    have qbg_1 := hbbg.cell 1 rfl
    have qbg_2 := hbbg.cell 2 rfl
    have lbg := hbbg.lt
    clear hbbg
    have hbbh := (HS.out.now).2.1
    have qbh_0 := hbbh.cell 0 rfl
    have qbh_1 := hbbh.cell 1 rfl
    have qbh_2 := hbbh.cell 2 rfl
    have qbh_3 := hbbh.cell 3 rfl
    have lbh := hbbh.lt
    clear hbbh
    have hcs := HC.out
    rw [hs] at hcs
    have HSUM := Lib.hid hs
    have HCS := Lib.hid hcs
    have hf1 := hfb.1
    have hf2 : far ≤ 2621400 := by have := hfb.2; omega
    have HFB := Lib.hid hfb
    clear hs hfb hcs
    by_cases hlt : k < lw
    case pos =>
      have hkl : k < ws.length := by rw [HLW.out]; exact hlt
      have HA := Lib.hid (nextL_at G (wE G ws) f0 ws k far hkl)
      have HO := Lib.hid (nextL_on G (wE G ws) f0 ws k far hkl)
      have HEX := Lib.hid (allE_at G ws HAL.out k hkl)
      obtain ⟨x, HX0⟩ : ∃ qz, ws[k] = qz := ⟨_, rfl⟩
      have HX := Lib.hid HX0
      clear HX0
      rw [HX.out] at HA HO HEX
      obtain ⟨eb, eo, hpl, e0⟩ := rd1 (HS.out.now).2.2.1 k hkl
      have hix := fun wx => run_indexS (P := Try.prog) wx 22 3 iI 1 Try.underlying22 hiI hsI aw lw cw k hlt ((HS.out.now).2.2.1.some_ (by have := hlt; omega))
      rw [hpl] at hix
      have HIe := Lib.hid hix
      clear hix hpl
      rw [HX.out] at e0
      replace HS := Lib.hid ((Ev.cell e0).and HS.out)
      clear e0
      have z0 : decide ((k : Int) < (lw : Int)) = true := by simp; omega
      obtain ⟨db, hdb⟩ : ∃ b, decB G f0 = b := ⟨_, rfl⟩
      have HDB := Lib.hid hdb
      clear hdb
      go_wp2_with fail
      refine (r4next_any G _ a1 n1 d1 a2 n2 d2 a3 n3 d3 ((HS.out.now).2.2.2.2.2.2.1) (by omega) (by omega) f0).mono ?_
      rintro e wq8 ⟨v', rfl, ⟨an, cn, rfl, hx'⟩, hmm⟩
      replace HS := Lib.hid (HS.out.step hmm)
      clear hmm
      clear hx'
      clear qbg_0 qbg_1 qbg_2 lbg qbh_0 qbh_1 qbh_2 qbh_3 lbh
      have hbbg := (HS.out.now).2.2.2.2.1
      have qbg_0 := hbbg.cell 0 rfl
      have qbg_1 := hbbg.cell 1 rfl
      have qbg_2 := hbbg.cell 2 rfl
      have lbg := hbbg.lt
      clear hbbg
      have hbbh := (HS.out.now).2.2.1
      have qbh_0 := hbbh.cell 0 rfl
      have qbh_1 := hbbh.cell 1 rfl
      have qbh_2 := hbbh.cell 2 rfl
      have qbh_3 := hbbh.cell 3 rfl
      have lbh := hbbh.lt
      clear hbbh
      obtain ⟨ln, hln⟩ : ∃ n, (nxtR G f0).length = n := ⟨_, rfl⟩
      rw [hln]
      have HDL : Hid (((ln : Int) != 1) = db) := Lib.hid (by rw [← hln]; exact HDB.out)
      clear hln z0
      cases db with
      | true =>
        obtain ⟨k2, HK20⟩ : ∃ qz, bendG G f0 x = qz := ⟨_, rfl⟩
        have HK2 := Lib.hid HK20
        clear HK20
        have heq := HA.out HDB.out
        have hcs := HCS.out
        rw [heq, HK2.out] at hcs
        have hc9 : k2 ≤ 8 := by rw [← HK2.out]; exact (bendG_range G f0 x).2
        simp only [Prod.mk.injEq] at hcs
        obtain ⟨g1, g2, g3, g4⟩ := hcs
        have z1 : (far == c3) = true := by rw [g3]; simp
        have z2 : ((ln : Int) != 1) = true := HDL.out
        have G1 : Hid ((c2 == x) = true) := Lib.hid (by rw [← g2]; simp)
        have G2 : Hid ((c1 == k2) = true) := Lib.hid (by rw [← g1]; simp)
        have G3 : Hid ((c1 != 9) = true) := Lib.hid (by rw [← g1]; simp; omega)
        clear heq g1 g2 g3 g4 hc9
        go_upto_region 17 with fail
        clear z1 z2
        clear qbg_0 qbg_1 qbg_2 lbg qbh_0 qbh_1 qbh_2 qbh_3 lbh
        have HSd := Lib.hid HS.out.drew
        refine wp_region_inv3 (act := ?actgo_r17_0) (Mod (fun _ => False)) (fun i => (go_r17_0_F a1 a2 a3 n1 d1 n2 d2 n3 d3 lw cw aw c1 c2 x f0 k2 k bh eb eo).getD i (fun _ _ => True)) (fun i => go_r17_0_D.getD i []) (by kernel_rfl) (by kernel_rfl) (by kernel_rfl) (by kernel_rfl) (fun _ => Mod.refl _ _)
          (fun _ _ _ h k => h.trans k (fun _ _ e => e) (fun _ _ e => e)) ?hactgo_r17_0 (stable_list ?_) ?_ ?_
        case hactgo_r17_0 => intro vs; simp only [putAll, Nat.zero_add, Nat.reduceAdd, Act.put, List.setIfInBounds_toArray, List.set_cons_succ, List.set_cons_zero]; exact rfl
        · unfold go_r17_0_F
          exact stable_cons (stable_val _) <| stable_cons (stable_val _) <| stable_cons (stable_val _) <| stable_cons (stable_val _) <| stable_cons (stable_val _) <| stable_cons (stable_val _) <| stable_cons (stable_val _) <| stable_cons (stable_val _) <| stable_cons (stable_val _) <| stable_cons (stable_val _) <| stable_cons (stable_val _) <| stable_cons (stable_val _) <| stable_cons (stable_val _) <| stable_cons (stable_val _) <| stable_cons (stable_val _) <| stable_cons (stable_val _) <| stable_cons (stable_val _) <| stable_cons (stable_val _) <| stable_cons (stable_val _) <| stable_cons (stable_val _) <| stable_cons (stable_val _) <| stable_cons (stable_val _) <| stable_cons (stable_val _) <| stable_cons (stable_val _) <| stable_cons (stable_val _) <| stable_cons (stable_val _) <| stable_cons (stable_val _) <| stable_cons (stable_val _) <| stable_nil
        · refine opsOkA_cons ?_ ?_
          · intro K vs W hR hD hK
            clear hD
            try dsimp only at hK ⊢
            simp only [Act.put, List.setIfInBounds_toArray, List.set_cons_succ, List.set_cons_zero] at hK
            go_wp2
            exact hK _ _ rfl (Mod.refl _ _)
          refine opsOkA_cons ?_ ?_
          · intro K vs W hR hD hK
            have dq0 : vs 0 = .pointer (some ⟨bh, 1, none⟩) := hD 0 (by decide)
            clear hD
            try dsimp only at hK ⊢
            simp only [Act.put, List.setIfInBounds_toArray, List.set_cons_succ, List.set_cons_zero] at hK
            generalize vs 0 = vq0 at hK dq0 ⊢
            subst vq0
            have q0 := ((HSd.out.at (hR)).2.2.1).cell 1 rfl
            go_wp2
            exact hK _ _ rfl (Mod.refl _ _)
          refine opsOkA_cons ?_ ?_
          · intro K vs W hR hD hK
            clear hD
            try dsimp only at hK ⊢
            simp only [Act.put, List.setIfInBounds_toArray, List.set_cons_succ, List.set_cons_zero] at hK
            go_wp2
            exact hK _ _ rfl (Mod.refl _ _)
          refine opsOkA_cons ?_ ?_
          · intro K vs W hR hD hK
            clear hD
            try dsimp only at hK ⊢
            simp only [Act.put, List.setIfInBounds_toArray, List.set_cons_succ, List.set_cons_zero] at hK
            go_wp2
            exact hK _ _ rfl (Mod.refl _ _)
          refine opsOkA_cons ?_ ?_
          · intro K vs W hR hD hK
            have dq2 : vs 2 = .slice aw lw cw := hD 2 (by decide)
            have dq3 : vs 3 = .int .i64 (k : Int) := hD 3 (by decide)
            clear hD
            try dsimp only at hK ⊢
            simp only [Act.put, List.setIfInBounds_toArray, List.set_cons_succ, List.set_cons_zero] at hK
            generalize vs 2 = vq2 at hK dq2 ⊢
            subst vq2
            generalize vs 3 = vq3 at hK dq3 ⊢
            subst vq3
            have hix := HIe.out
            go_wp2_with fail
            exact hK _ _ rfl (Mod.refl _ _)
          refine opsOkA_cons ?_ ?_
          · intro K vs W hR hD hK
            have dq4 : vs 4 = .pointer (some ⟨eb, eo, none⟩) := hD 4 (by decide)
            clear hD
            try dsimp only at hK ⊢
            simp only [Act.put, List.setIfInBounds_toArray, List.set_cons_succ, List.set_cons_zero] at hK
            generalize vs 4 = vq4 at hK dq4 ⊢
            subst vq4
            have c0 := (HSd.out.at (hR)).1
            go_wp2
            exact hK _ _ rfl (Mod.refl _ _)
          refine opsOkA_cons ?_ ?_
          · intro K vs W hR hD hK
            have dq1 : vs 1 = .int .i64 c2 := hD 1 (by decide)
            have dq5 : vs 5 = .int .i64 x := hD 5 (by decide)
            clear hD
            try dsimp only at hK ⊢
            simp only [Act.put, List.setIfInBounds_toArray, List.set_cons_succ, List.set_cons_zero] at hK
            generalize vs 1 = vq1 at hK dq1 ⊢
            subst vq1
            generalize vs 5 = vq5 at hK dq5 ⊢
            subst vq5
            have g1 := G1.out
            go_wp2
            exact hK _ _ rfl (Mod.refl _ _)
          refine opsOkA_cons ?_ ?_
          · intro K vs W hR hD hK
            have dq6 : vs 6 = .bool true := hD 6 (by decide)
            clear hD
            try dsimp only at hK ⊢
            simp only [Act.put, List.setIfInBounds_toArray, List.set_cons_succ, List.set_cons_zero] at hK
            generalize vs 6 = vq6 at hK dq6 ⊢
            subst vq6
            go_wp2
            exact hK _ _ rfl (Mod.refl _ _)
          refine opsOkA_cons ?_ ?_
          · intro K vs W hR hD hK
            have dq7 : vs 7 = .bool true := hD 7 (by decide)
            clear hD
            try dsimp only at hK ⊢
            simp only [Act.put, List.setIfInBounds_toArray, List.set_cons_succ, List.set_cons_zero] at hK
            generalize vs 7 = vq7 at hK dq7 ⊢
            subst vq7
            go_wp2
            exact hK _ _ rfl (Mod.refl _ _)
          refine opsOkA_cons ?_ ?_
          · intro K vs W hR hD hK
            have dq7 : vs 7 = .bool true := hD 7 (by decide)
            have dq8 : vs 8 = .pointer (some ⟨bh, 0, none⟩) := hD 8 (by decide)
            clear hD
            try dsimp only at hK ⊢
            simp only [Act.put, List.setIfInBounds_toArray, List.set_cons_succ, List.set_cons_zero] at hK
            generalize vs 7 = vq7 at hK dq7 ⊢
            subst vq7
            generalize vs 8 = vq8 at hK dq8 ⊢
            subst vq8
            have q0 := ((HSd.out.at (hR)).2.2.1).cell 0 rfl
            go_wp2
            exact hK _ _ rfl (Mod.refl _ _)
          refine opsOkA_cons ?_ ?_
          · intro K vs W hR hD hK
            have dq7 : vs 7 = .bool true := hD 7 (by decide)
            clear hD
            try dsimp only at hK ⊢
            simp only [Act.put, List.setIfInBounds_toArray, List.set_cons_succ, List.set_cons_zero] at hK
            generalize vs 7 = vq7 at hK dq7 ⊢
            subst vq7
            have hbx := (HSd.out.at (hR)).2.2.2.2.1
            have q0 := hbx.cell 0 rfl
            have q1 := hbx.cell 1 rfl
            have q2 := hbx.cell 2 rfl
            go_wp2
            exact hK _ _ rfl (Mod.refl _ _)
          refine opsOkA_cons ?_ ?_
          · intro K vs W hR hD hK
            have dq7 : vs 7 = .bool true := hD 7 (by decide)
            clear hD
            try dsimp only at hK ⊢
            simp only [Act.put, List.setIfInBounds_toArray, List.set_cons_succ, List.set_cons_zero] at hK
            generalize vs 7 = vq7 at hK dq7 ⊢
            subst vq7
            go_wp2
            exact hK _ _ rfl (Mod.refl _ _)
          refine opsOkA_cons ?_ ?_
          · intro K vs W hR hD hK
            have dq7 : vs 7 = .bool true := hD 7 (by decide)
            clear hD
            try dsimp only at hK ⊢
            simp only [Act.put, List.setIfInBounds_toArray, List.set_cons_succ, List.set_cons_zero] at hK
            generalize vs 7 = vq7 at hK dq7 ⊢
            subst vq7
            go_wp2
            exact hK _ _ rfl (Mod.refl _ _)
          refine opsOkA_cons ?_ ?_
          · intro K vs W hR hD hK
            have dq7 : vs 7 = .bool true := hD 7 (by decide)
            clear hD
            try dsimp only at hK ⊢
            simp only [Act.put, List.setIfInBounds_toArray, List.set_cons_succ, List.set_cons_zero] at hK
            generalize vs 7 = vq7 at hK dq7 ⊢
            subst vq7
            go_wp2
            exact hK _ _ rfl (Mod.refl _ _)
          refine opsOkA_cons ?_ ?_
          · intro K vs W hR hD hK
            have dq7 : vs 7 = .bool true := hD 7 (by decide)
            have dq12 : vs 12 = .slice aw lw cw := hD 12 (by decide)
            have dq13 : vs 13 = .int .i64 (k : Int) := hD 13 (by decide)
            clear hD
            try dsimp only at hK ⊢
            simp only [Act.put, List.setIfInBounds_toArray, List.set_cons_succ, List.set_cons_zero] at hK
            generalize vs 7 = vq7 at hK dq7 ⊢
            subst vq7
            generalize vs 12 = vq12 at hK dq12 ⊢
            subst vq12
            generalize vs 13 = vq13 at hK dq13 ⊢
            subst vq13
            have hix := HIe.out
            go_wp2_with fail
            exact hK _ _ rfl (Mod.refl _ _)
          refine opsOkA_cons ?_ ?_
          · intro K vs W hR hD hK
            have dq7 : vs 7 = .bool true := hD 7 (by decide)
            have dq14 : vs 14 = .pointer (some ⟨eb, eo, none⟩) := hD 14 (by decide)
            clear hD
            try dsimp only at hK ⊢
            simp only [Act.put, List.setIfInBounds_toArray, List.set_cons_succ, List.set_cons_zero] at hK
            generalize vs 7 = vq7 at hK dq7 ⊢
            subst vq7
            generalize vs 14 = vq14 at hK dq14 ⊢
            subst vq14
            have c0 := (HSd.out.at (hR)).1
            go_wp2
            exact hK _ _ rfl (Mod.refl _ _)
          refine opsOkA_cons ?_ ?_
          · intro K vs W hR hD hK
            have dq7 : vs 7 = .bool true := hD 7 (by decide)
            have dq10 : vs 10 = .agg #[.slice a1 n1 d1, .slice a2 n2 d2, .slice a3 n3 d3] := hD 10 (by decide)
            have dq11 : vs 11 = .int .i64 f0 := hD 11 (by decide)
            have dq15 : vs 15 = .int .i64 x := hD 15 (by decide)
            clear hD
            try dsimp only at hK ⊢
            simp only [Act.put, List.setIfInBounds_toArray, List.set_cons_succ, List.set_cons_zero] at hK
            generalize vs 7 = vq7 at hK dq7 ⊢
            subst vq7
            generalize vs 10 = vq10 at hK dq10 ⊢
            subst vq10
            generalize vs 11 = vq11 at hK dq11 ⊢
            subst vq11
            generalize vs 15 = vq15 at hK dq15 ⊢
            subst vq15
            go_wp2_with (go_at_call 23; refine (r4bend_any G hmay.out W a1 n1 d1 a2 n2 d2 a3 n3 d3 ((HSd.out.at (hR)).2.2.2.2.2.2.1) (by omega) (by omega) f0 x).mono ?_; rintro e' w' ⟨rfl, hm'⟩; rw [HK2.out])
            exact hK _ _ rfl hm'
          refine opsOkA_cons ?_ ?_
          · intro K vs W hR hD hK
            have dq7 : vs 7 = .bool true := hD 7 (by decide)
            have dq9 : vs 9 = .int .i64 c1 := hD 9 (by decide)
            have dq16 : vs 16 = .int .i64 k2 := hD 16 (by decide)
            clear hD
            try dsimp only at hK ⊢
            simp only [Act.put, List.setIfInBounds_toArray, List.set_cons_succ, List.set_cons_zero] at hK
            generalize vs 7 = vq7 at hK dq7 ⊢
            subst vq7
            generalize vs 9 = vq9 at hK dq9 ⊢
            subst vq9
            generalize vs 16 = vq16 at hK dq16 ⊢
            subst vq16
            have g2 := G2.out
            go_wp2
            exact hK _ _ rfl (Mod.refl _ _)
          refine opsOkA_cons ?_ ?_
          · intro K vs W hR hD hK
            have dq7 : vs 7 = .bool true := hD 7 (by decide)
            have dq17 : vs 17 = .bool true := hD 17 (by decide)
            clear hD
            try dsimp only at hK ⊢
            simp only [Act.put, List.setIfInBounds_toArray, List.set_cons_succ, List.set_cons_zero] at hK
            generalize vs 7 = vq7 at hK dq7 ⊢
            subst vq7
            generalize vs 17 = vq17 at hK dq17 ⊢
            subst vq17
            go_wp2
            exact hK _ _ rfl (Mod.refl _ _)
          refine opsOkA_cons ?_ ?_
          · intro K vs W hR hD hK
            have dq18 : vs 18 = .bool true := hD 18 (by decide)
            clear hD
            try dsimp only at hK ⊢
            simp only [Act.put, List.setIfInBounds_toArray, List.set_cons_succ, List.set_cons_zero] at hK
            generalize vs 18 = vq18 at hK dq18 ⊢
            subst vq18
            go_wp2
            exact hK _ _ rfl (Mod.refl _ _)
          refine opsOkA_cons ?_ ?_
          · intro K vs W hR hD hK
            have dq19 : vs 19 = .bool true := hD 19 (by decide)
            clear hD
            try dsimp only at hK ⊢
            simp only [Act.put, List.setIfInBounds_toArray, List.set_cons_succ, List.set_cons_zero] at hK
            generalize vs 19 = vq19 at hK dq19 ⊢
            subst vq19
            go_wp2
            exact hK _ _ rfl (Mod.refl _ _)
          refine opsOkA_cons ?_ ?_
          · intro K vs W hR hD hK
            have dq19 : vs 19 = .bool true := hD 19 (by decide)
            have dq20 : vs 20 = .pointer (some ⟨bh, 0, none⟩) := hD 20 (by decide)
            clear hD
            try dsimp only at hK ⊢
            simp only [Act.put, List.setIfInBounds_toArray, List.set_cons_succ, List.set_cons_zero] at hK
            generalize vs 19 = vq19 at hK dq19 ⊢
            subst vq19
            generalize vs 20 = vq20 at hK dq20 ⊢
            subst vq20
            have q0 := ((HSd.out.at (hR)).2.2.1).cell 0 rfl
            go_wp2
            exact hK _ _ rfl (Mod.refl _ _)
          refine opsOkA_cons ?_ ?_
          · intro K vs W hR hD hK
            have dq19 : vs 19 = .bool true := hD 19 (by decide)
            have dq21 : vs 21 = .int .i64 c1 := hD 21 (by decide)
            clear hD
            try dsimp only at hK ⊢
            simp only [Act.put, List.setIfInBounds_toArray, List.set_cons_succ, List.set_cons_zero] at hK
            generalize vs 19 = vq19 at hK dq19 ⊢
            subst vq19
            generalize vs 21 = vq21 at hK dq21 ⊢
            subst vq21
            have g3 := G3.out
            go_wp2
            exact hK _ _ rfl (Mod.refl _ _)
          refine opsOkA_cons ?_ ?_
          · intro K vs W hR hD hK
            have dq19 : vs 19 = .bool true := hD 19 (by decide)
            have dq22 : vs 22 = .bool true := hD 22 (by decide)
            clear hD
            try dsimp only at hK ⊢
            simp only [Act.put, List.setIfInBounds_toArray, List.set_cons_succ, List.set_cons_zero] at hK
            generalize vs 19 = vq19 at hK dq19 ⊢
            subst vq19
            generalize vs 22 = vq22 at hK dq22 ⊢
            subst vq22
            go_wp2
            exact hK _ _ rfl (Mod.refl _ _)
          refine opsOkA_cons ?_ ?_
          · intro K vs W hR hD hK
            have dq23 : vs 23 = .bool true := hD 23 (by decide)
            clear hD
            try dsimp only at hK ⊢
            simp only [Act.put, List.setIfInBounds_toArray, List.set_cons_succ, List.set_cons_zero] at hK
            generalize vs 23 = vq23 at hK dq23 ⊢
            subst vq23
            go_wp2
            exact hK _ _ rfl (Mod.refl _ _)
          refine opsOkA_cons ?_ ?_
          · intro K vs W hR hD hK
            have dq24 : vs 24 = .bool true := hD 24 (by decide)
            clear hD
            try dsimp only at hK ⊢
            simp only [Act.put, List.setIfInBounds_toArray, List.set_cons_succ, List.set_cons_zero] at hK
            generalize vs 24 = vq24 at hK dq24 ⊢
            subst vq24
            go_wp2_with (go_at_call 26; refine (awake21_any W).mono ?_; rintro e' w' ⟨rfl, hm'⟩)
            exact hK _ _ rfl hm'
          refine opsOkA_cons ?_ ?_
          · intro K vs W hR hD hK
            have dq24 : vs 24 = .bool true := hD 24 (by decide)
            have dq25 : vs 25 = .bool true := hD 25 (by decide)
            clear hD
            try dsimp only at hK ⊢
            simp only [Act.put, List.setIfInBounds_toArray, List.set_cons_succ, List.set_cons_zero] at hK
            generalize vs 24 = vq24 at hK dq24 ⊢
            subst vq24
            generalize vs 25 = vq25 at hK dq25 ⊢
            subst vq25
            go_wp2
            exact hK _ _ rfl (Mod.refl _ _)
          refine opsOkA_cons ?_ ?_
          · intro K vs W hR hD hK
            have dq26 : vs 26 = .bool true := hD 26 (by decide)
            clear hD
            try dsimp only at hK ⊢
            simp only [Act.put, List.setIfInBounds_toArray, List.set_cons_succ, List.set_cons_zero] at hK
            generalize vs 26 = vq26 at hK dq26 ⊢
            subst vq26
            go_wp2
            exact hK _ _ rfl (Mod.refl _ _)
          exact opsOkA_nil
        · intro vs wq9 hR hF
          have dq27 : vs 27 = .bool true := hF 27 (by decide)
          clear hF
          try dsimp only
          generalize vs 27 = vq27 at dq27 ⊢
          subst dq27
          replace HS := Lib.hid (HSd.out.step hR)
          clear HSd hR
          have hbbg := (HS.out.now).2.2.2.2.1
          have qbg_0 := hbbg.cell 0 rfl
          have qbg_1 := hbbg.cell 1 rfl
          have qbg_2 := hbbg.cell 2 rfl
          have lbg := hbbg.lt
          clear hbbg
          have hbbh := (HS.out.now).2.2.1
          have qbh_0 := hbbh.cell 0 rfl
          have qbh_1 := hbbh.cell 1 rfl
          have qbh_2 := hbbh.cell 2 rfl
          have qbh_3 := hbbh.cell 3 rfl
          have lbh := hbbh.lt
          clear hbbh
          go_wp2_with fail
          go_ret
          exact ⟨rfl, (HS.out.now).2.2.2.2.2.2.2.2.2⟩
      | false =>
        have heq := HO.out HDB.out
        have hcs := HCS.out
        rw [heq] at hcs
        have hge := next_ge G hmay.out (wE G ws) x (far + wtE G x) (ws.drop (k + 1)) (k + 1)
        rw [hcs] at hge
        replace hge : far + wtE G x ≤ c3 := hge
        have hwt := wt_le G hmay.out x HEX.out
        rw [← wtE_in G HEX.out] at hwt
        have z1 : (far == c3) = false := by rw [beq_eq_false_iff_ne]; omega
        have z2 : ((ln : Int) != 1) = false := HDL.out
        have hr2 := of_decide_eq_true HEX.out
        obtain ⟨xe, hxe⟩ := Int.eq_ofNat_of_zero_le hr2.1
        have hxl : xe < G.E.length := by omega
        have hxn : xe < n2 := by have := he.out; omega
        have hwx : wtE G x = (G.E[xe]).2.2 := by rw [wtE_in G HEX.out, hxe, eAt_eq G xe hxl]
        obtain ⟨x0, Hx00⟩ : ∃ qz, (G.E[xe]).1 = qz := ⟨_, rfl⟩
        have Hx0 := Lib.hid Hx00
        clear Hx00
        obtain ⟨y0, Hy00⟩ : ∃ qz, (G.E[xe]).2.1 = qz := ⟨_, rfl⟩
        have Hy0 := Lib.hid Hy00
        clear Hy00
        obtain ⟨z0v, Hz0v0⟩ : ∃ qz, (G.E[xe]).2.2 = qz := ⟨_, rfl⟩
        have Hz0v := Lib.hid Hz0v0
        clear Hz0v0
        rw [Hz0v.out] at hwx
        rw [hwx] at hwt hge
        have yz1 := hwt.1
        have yz2 := hwt.2
        have HNX : Hid (nextL G (wE G ws) (er : Int) ws 0 0 = nextL G (wE G ws) x (ws.drop (k + 1)) (far + z0v) (k + 1)) := Lib.hid (by rw [HSUM.out, heq, hwx])
        have HXE := Lib.hid hxe
        clear heq hcs hge hwt hr2 hwx hxe
        obtain ⟨gb, go, hpl, e0, e1, e2⟩ := rd3 (HS.out.now).2.2.2.2.2.2.1.re xe hxl
        have hix := fun wx => run_indexS (P := Try.prog) wx 25 41 iE 3 Try.underlying25 hiE hsE a2 n2 d2 xe hxn ((HS.out.now).2.2.2.2.2.2.1.re.some_ (by have := hxn; omega))
        rw [hpl] at hix
        have HIg := Lib.hid hix
        clear hix hpl
        rw [Hx0.out] at e0
        replace HS := Lib.hid ((Ev.cell e0).and HS.out)
        clear e0
        rw [Hy0.out] at e1
        replace HS := Lib.hid ((Ev.cell e1).and HS.out)
        clear e1
        rw [Hz0v.out] at e2
        replace HS := Lib.hid ((Ev.cell e2).and HS.out)
        clear e2
        have qe := (HS.out.now).2.2.2.1
        have hix := HIe.out
        have hiy := HIg.out
        have qg0 := (HS.out.now).2.2.1
        have qg1 := (HS.out.now).2.1
        have qg2 := (HS.out.now).1
        have hxe := HXE.out
        rw [hxe] at qe
        go_wp2_with fail
        go_roundw
        case rel => exact ⟨k + 1, (xe : Int), far + z0v, hlt, by go_num, rfl, rfl, by rw [HNX.out, HXE.out], ⟨by omega, by have := HFB.out.2; omega⟩, (HS.out.now).2.2.2.2.1⟩
        case measure => simp [intOf]; omega
    case neg =>
      obtain rfl : k = lw := by omega
      have z0 : decide ((k : Int) < (k : Int)) = false := by simp
      have hend := nextL_end G (wE G ws) f0 ws far
      rw [HLW.out] at hend
      have hcs := HCS.out
      rw [hend] at hcs
      simp only [Prod.mk.injEq] at hcs
      obtain ⟨g1, g2, g3, g4⟩ := hcs
      have z1 : (c1 == 9) = true := by rw [← g1]; rfl
      have z2 : (c3 == far) = true := by rw [g3]; simp
      have z3 : (c2 == -1) = true := by rw [← g2]; rfl
      clear g1 g2 g3 g4 hend
      go_wp2_with fail
      refine (awake21_any _).mono ?_
      rintro e wq10 ⟨rfl, hmm⟩
      replace HS := Lib.hid (HS.out.step hmm)
      clear hmm
      clear qbg_0 qbg_1 qbg_2 lbg qbh_0 qbh_1 qbh_2 qbh_3 lbh
      have hbbg := (HS.out.now).2.2.2.1
      have qbg_0 := hbbg.cell 0 rfl
      have qbg_1 := hbbg.cell 1 rfl
      have qbg_2 := hbbg.cell 2 rfl
      have lbg := hbbg.lt
      clear hbbg
      have hbbh := (HS.out.now).2.1
      have qbh_0 := hbbh.cell 0 rfl
      have qbh_1 := hbbh.cell 1 rfl
      have qbh_2 := hbbh.cell 2 rfl
      have qbh_3 := hbbh.cell 3 rfl
      have lbh := hbbh.lt
      clear hbbh
      go_wp2_with fail
      go_ret
      exact ⟨rfl, (HS.out.now).2.2.2.2.2.2.2.2⟩
theorem gonly_law (w : World) (a0 : Option Addr) (m c0 : Nat) (l : List Int) (ok : (encSlice (encInt .i64)).ok w (.slice a0 m c0, l)) (at_ : Int) (_ : (Lit.int .i64 at_).wf = true) (a4 : Option Addr) (n4 d4 : Nat) (st : List Int) (ok4 : (encSlice (encInt .i64)).ok w (.slice a4 n4 d4, st)) :
    Calls Try.prog 7 #[.slice a0 m c0, .int .i64 at_, .slice a4 n4 d4] w fun e w' => e = .returned (.bool true) ∧ Below w.heap.size w w' := by
  obtain ⟨hn, hr, _⟩ := ok_ints ok
  obtain ⟨hn4, hr4, _⟩ := ok_ints ok4
  exact (gonly_all w a0 m c0 l hn hr at_ a4 n4 d4 st hn4 hr4).mono fun e w' h => ⟨h.1, h.2.below (Nat.le_refl _) (fun _ e => e.elim)⟩
end Go.Proofs.Ytagmnkobigecnaa
