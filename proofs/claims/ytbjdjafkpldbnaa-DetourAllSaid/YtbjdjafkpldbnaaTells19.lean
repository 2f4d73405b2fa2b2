/- DetourTells walked. -/
import Derived.Test.YtbjdjafkpldbnaaAwake19
import Derived.Test.YtbjdjafkpldbnaaKOpen
import Derived.Test.YtbjdjafkpldbnaaRegion2
import Derived.Deep.DeepCutAuto
import Derived.Deep.CutBlock
namespace Go.Proofs.Ytbjdjafkpldbnaa
open Go.RowKit Mile
set_option maxRecDepth 100000
theorem round_q {k n r : Int} (h : k % n = r) (h1 : 0 < n) (h2 : n ≤ 4611686018427387904) (w : World) (j : Nat) : Calls Try.prog 10 #[.int .i64 k, .int .i64 n] (w.drewN j) fun e w' => e = .returned (.int .i64 r) ∧ w' = w.drewN j :=
  (round_any k n _ h1 h2).mono fun _ _ hh => ⟨by rw [hh.1, h], hh.2.symm⟩

set_option maxHeartbeats 64000000 in
theorem dtells19_all (w : World) (a0 : Option Addr) (m c0 : Nat) (l : List Int) (hm : l.length = m) (hr : Rd w 1 (.slice a0 m c0) m (l.map (Value.int .i64))) (a4 : Option Addr) (n4 d4 : Nat) (sh : List Int) (hn4 : sh.length = n4) (hr4 : Rd w 1 (.slice a4 n4 d4) n4 (sh.map (Value.int .i64))) (ev nv : Int) :
    Calls Try.prog 3 #[.slice a0 m c0, .slice a4 n4 d4, .int .i64 ev, .int .i64 nv] w fun e w' => e = .returned (.bool true) ∧ Mod (fun _ => False) w w' := by
  by_cases hlen0 : m ≤ 100
  case neg =>
    have HS : Hid (Ev (Mod (fun _ => False) w) w) := Lib.hid (Ev.mod w)
    have z0 : decide (100 < (m : Int)) = true := by simp; omega
    have z1 : decide (100 < m) = true := by simp; omega
    go_enter Try.func3, Try.ntmps3
    go_wp2_with fail
    refine (awake19_any _).mono ?_
    rintro e wq1 ⟨rfl, hm⟩
    replace HS := Lib.hid (HS.out.step hm)
    clear hm
    go_wp2_with fail
    go_ret
    exact ⟨rfl, HS.out.now⟩
  by_cases hlen1 : n4 ≤ 40
  case neg =>
    have HS : Hid (Ev (Mod (fun _ => False) w) w) := Lib.hid (Ev.mod w)
    have y0 : decide (100 < (m : Int)) = false := by simp; omega
    have z0 : decide (40 < (n4 : Int)) = true := by simp; omega
    have z1 : decide (40 < n4) = true := by simp; omega
    go_enter Try.func3, Try.ntmps3
    go_wp2_with fail
    refine (awake19_any _).mono ?_
    rintro e wq2 ⟨rfl, hm⟩
    replace HS := Lib.hid (HS.out.step hm)
    clear hm
    go_wp2_with fail
    go_ret
    exact ⟨rfl, HS.out.now⟩
  have HS : Hid (Ev (Mod (fun _ => False) w) w) := Lib.hid (Ev.mod w)
  have y0 : decide (100 < (m : Int)) = false := by simp; omega
  have y1 : decide (40 < (n4 : Int)) = false := by simp; omega
  replace HS := Lib.hid ((Ev.rd hr).and HS.out)
  replace HS := Lib.hid ((Ev.rd hr4).and HS.out)
  have HN4 := Lib.hid hn4
  clear hr hr4 hn4
  go_enter Try.func3, Try.ntmps3
  go_wp2_with fail
  refine (made19_any _ a0 m c0 l hm ((HS.out.now).2.1)).mono ?_
  rintro e wq3 ⟨a1, n1, d1, a2, n2, d2, a3, n3, d3, t, p, B, C, rfl, hg, hto, hmm⟩
  replace HS := Lib.hid (HS.out.step hmm)
  clear hmm
  replace HS := Lib.hid ((Ev.gv hg).and HS.out)
  replace HS := Lib.hid ((Ev.to hto).and HS.out)
  clear hg hto y0 y1
  have hmay := Lib.hid (town_may l)
  have hfew := Lib.hid (town_few l)
  obtain ⟨G, hG⟩ : ∃ G, townG l = G := ⟨_, rfl⟩
  rw [hG] at hmay hfew
  rw [hG] at HS
  clear hG
  have hn := Lib.hid ((HS.out.now).2.1.n)
  have he := Lib.hid ((HS.out.now).2.1.e)
  have hb := Lib.hid ((HS.out.now).2.1.b)
  have h1n : n1 ≤ 16 := by have := hfew.out.1.2; have := hn.out; omega
  have h2n : n2 ≤ 67 := by have := hfew.out.2.1.2; have := he.out; omega
  have h2p : 1 ≤ n2 := by have := hfew.out.2.1.1; have := he.out; omega
  have h3n : n3 ≤ 469 := by have := hfew.out.2.2; have := hb.out; omega
  go_wp2_with fail
  obtain ⟨bg, hbg⟩ : ∃ b, wq3.heap.size = b := ⟨_, rfl⟩
  obtain ⟨wq4, hwq4⟩ : ∃ W, World.alloc wq3 (.cells #[.slice a1 n1 d1, .slice a2 n2 d2, .slice a3 n3 d3] 28) = W := ⟨_, rfl⟩
  have hBbg : Blk wq4 bg 28 [.slice a1 n1 d1, .slice a2 n2 d2, .slice a3 n3 d3] := by rw [← hwq4, ← hbg]; exact Blk.new _ 28 [.slice a1 n1 d1, .slice a2 n2 d2, .slice a3 n3 d3]
  have hzbg : wq4.heap.size = bg + 1 := by rw [← hwq4, ← hbg]; exact heap_size_alloc _ _
  replace HS := Lib.hid (HS.out.step (w' := wq4) (by rw [← hwq4]; exact Mod.alloc _ _ _))
  replace HS := Lib.hid ((Ev.blk hBbg).and HS.out)
  try rw [hwq4]
  try rw [hbg]
  clear hzbg hBbg hbg hwq4
  have hbbg := (HS.out.now).1
  have qbg_0 := hbbg.cell 0 rfl
  have qbg_1 := hbbg.cell 1 rfl
  have qbg_2 := hbbg.cell 2 rfl
  have lbg := hbbg.lt
  clear hbbg
  have hmay0 := hmay.out
  clear hmay
  obtain ⟨hmay, hmy⟩ : ∃ h : May G, h = hmay0 := ⟨_, rfl⟩
  clear hmy hmay0
  go_wp2_with fail
  refine (shut_any G (by have := hfew.out.2.1.1; omega) _ a1 n1 d1 a2 n2 d2 a3 n3 d3 ((HS.out.now).2.2.1) (by omega) a4 n4 d4 sh HN4.out ((HS.out.now).2.2.2.1) (by omega)).mono ?_
  rintro e w' ⟨rb, rfl, ho, hmc⟩
  clear qbg_0 qbg_1 qbg_2 lbg
  obtain ⟨ws, hws⟩ : ∃ x : World, x = w' := ⟨_, rfl⟩
  subst hws
  replace HS := Lib.hid (HS.out.step hmc)
  replace HS := Lib.hid ((Ev.rd (Rd.ofOwn ho)).and HS.out)
  clear ho hmc
  have hbbg := (HS.out.now).2.1
  have qbg_0 := hbbg.cell 0 rfl
  have qbg_1 := hbbg.cell 1 rfl
  have qbg_2 := hbbg.cell 2 rfl
  have lbg := hbbg.lt
  clear hbbg
  go_wp2_with fail
  clear qbg_0 qbg_1 qbg_2 lbg
  replace HS := Lib.hid ((Ev.mod ws).and HS.out)
  go_loopw [12] (fun i wr => ∃ k : Nat, k ≤ 2 ∧ i = .int .i64 k ∧ Mod (fun _ => False) ws wr) (fun i _ => 2 - (intOf i).toNat)
  case atStart => exact ⟨0, by omega, rfl, Mod.refl _ _⟩
  case round =>
    obtain ⟨k, hk, rfl, hmr⟩ := hrel
    obtain ⟨wo, hwo⟩ : ∃ x : World, x = wr := ⟨_, rfl⟩
    subst hwo
    replace HS := Lib.hid (HS.out.step hmr)
    clear hmr
    have hbbg := (HS.out.now).2.2.1
    have qbg_0 := hbbg.cell 0 rfl
    have qbg_1 := hbbg.cell 1 rfl
    have qbg_2 := hbbg.cell 2 rfl
    have lbg := hbbg.lt
    clear hbbg
    have hk3 : k = 0 ∨ k = 1 ∨ k = 2 := by omega
    rcases hk3 with rfl | rfl | rfl
    · skip
      go_wp2_with fail
      refine (ddist19_any t p B C G hmay _ ((HS.out.now).2.2.2.1) ev nv (some ⟨rb, 0, none⟩) n2 n2 (shutL n2 sh) (shutL_len n2 sh) ((HS.out.now).2.1)).mono ?_
      rintro e w' hp
      clear qbg_0 qbg_1 qbg_2 lbg
      obtain ⟨x, hbt, rfl, hmc⟩ := hp
      obtain ⟨wa, hw'⟩ : ∃ x : World, x = w' := ⟨_, rfl⟩
      subst hw'
      replace HS := Lib.hid (HS.out.step hmc)
      clear hmc
      have HBT := Lib.hid hbt
      have hxl := hbt.low
      clear hbt
      have hbbg := (HS.out.now).2.2.1
      have qbg_0 := hbbg.cell 0 rfl
      have qbg_1 := hbbg.cell 1 rfl
      have qbg_2 := hbbg.cell 2 rfl
      have lbg := hbbg.lt
      clear hbbg
      obtain ⟨xv, hxv⟩ : ∃ y, (if x = -1 then 0 else x) = y := ⟨_, rfl⟩
      obtain ⟨xb, hxb⟩ : ∃ y, decide (x ≠ -1) = y := ⟨_, rfl⟩
      rw [hxv, hxb]
      go_wp2_with fail
      refine (r4btw_any G hmay _ a1 n1 d1 a2 n2 d2 a3 n3 d3 ((HS.out.now).2.2.2.2.1) ev nv (some ⟨rb, 0, none⟩) n2 n2 (shutL n2 sh) (shutL_len n2 sh) ((HS.out.now).2.1)).mono ?_
      rintro e w' hp
      clear qbg_0 qbg_1 qbg_2 lbg
      obtain ⟨x2, hbt, rfl, hmc⟩ := hp
      obtain ⟨wb, hw'⟩ : ∃ x : World, x = w' := ⟨_, rfl⟩
      subst hw'
      obtain rfl := HBT.out.uniq hbt
      replace HS := Lib.hid (HS.out.step hmc)
      clear hmc hbt
      have hbbg := (HS.out.now).2.2.1
      have qbg_0 := hbbg.cell 0 rfl
      have qbg_1 := hbbg.cell 1 rfl
      have qbg_2 := hbbg.cell 2 rfl
      have lbg := hbbg.lt
      clear hbbg
      go_wp2_with fail
      refine (dmeets_any t p B C G hmay _ ((HS.out.now).2.2.2.1) ev nv (some ⟨rb, 0, none⟩) n2 n2 (shutL n2 sh) (shutL_len n2 sh) ((HS.out.now).2.1)).mono ?_
      rintro e w' hp
      clear qbg_0 qbg_1 qbg_2 lbg
      obtain ⟨y, hbt, rfl, hmc⟩ := hp
      obtain ⟨wc, hw'⟩ : ∃ x : World, x = w' := ⟨_, rfl⟩
      subst hw'
      replace HS := Lib.hid (HS.out.step hmc)
      clear hmc
      have HMT := Lib.hid hbt
      have hyl := hbt.low
      clear hbt
      have hbbg := (HS.out.now).2.2.1
      have qbg_0 := hbbg.cell 0 rfl
      have qbg_1 := hbbg.cell 1 rfl
      have qbg_2 := hbbg.cell 2 rfl
      have lbg := hbbg.lt
      clear hbbg
      obtain ⟨yv, hyv⟩ : ∃ z, (if y = -1 then 0 else y) = z := ⟨_, rfl⟩
      obtain ⟨yb, hyb⟩ : ∃ z, decide (y ≠ -1) = z := ⟨_, rfl⟩
      rw [hyv, hyb]
      go_wp2_with fail
      refine (r4meets_any G hmay _ a1 n1 d1 a2 n2 d2 a3 n3 d3 ((HS.out.now).2.2.2.2.1) ev nv (some ⟨rb, 0, none⟩) n2 n2 (shutL n2 sh) (shutL_len n2 sh) ((HS.out.now).2.1)).mono ?_
      rintro e w' hp
      clear qbg_0 qbg_1 qbg_2 lbg
      obtain ⟨y2, hbt, rfl, hmc⟩ := hp
      obtain ⟨wd, hw'⟩ : ∃ x : World, x = w' := ⟨_, rfl⟩
      subst hw'
      obtain rfl := HMT.out.uniq hbt
      replace HS := Lib.hid (HS.out.step hmc)
      clear hmc hbt
      have hbbg := (HS.out.now).2.2.1
      have qbg_0 := hbbg.cell 0 rfl
      have qbg_1 := hbbg.cell 1 rfl
      have qbg_2 := hbbg.cell 2 rfl
      have lbg := hbbg.lt
      clear hbbg
      clear HBT HMT
      have zx : decide (0 ≤ x) = xb := by rw [← hxb]; exact decide_eq_decide.2 (by omega)
      have zy : decide (0 ≤ y) = yb := by rw [← hyb]; exact decide_eq_decide.2 (by omega)
      have mx : (if x < 0 then 0 else x) = xv := by rw [← hxv]; split <;> split <;> omega
      have my : (if y < 0 then 0 else y) = yv := by rw [← hyv]; split <;> split <;> omega
      clear hxv hxb hyv hyb hxl hyl
      go_wp2_with fail
      go_roundw
      case rel => exact ⟨1, by omega, by go_num, (HS.out.now).1⟩
      case measure => simp [intOf]
    · skip
      obtain ⟨re, hre⟩ : ∃ y, ev % (n2 : Int) = y := ⟨_, rfl⟩
      obtain ⟨rv, hrv⟩ : ∃ y, nv % (n1 : Int) = y := ⟨_, rfl⟩
      have h1p : 1 ≤ n1 := by have := hfew.out.1.1; have := hn.out; omega
      have hn2a : (0 : Int) < (n2 : Int) := by omega
      have hn2b : (n2 : Int) ≤ 4611686018427387904 := by omega
      have hn1a : (0 : Int) < (n1 : Int) := by omega
      have hn1b : (n1 : Int) ≤ 4611686018427387904 := by omega
      have HQ2 := Lib.hid (fun j => Calls.quiet_of_same (round_q hre hn2a hn2b wo j))
      have HQ1 := Lib.hid (fun j => Calls.quiet_of_same (round_q hrv hn1a hn1b wo j))
      clear hre hrv hn2a hn2b hn1a hn1b h1p
      go_upto_region 12 with fail
      go_quiet ((go_at_call 10; first | with_reducible exact HQ2.out _ | with_reducible exact HQ1.out _))
      obtain ⟨wq, hwq⟩ : ∃ y, World.drewN wo nq = y := ⟨_, rfl⟩
      have hmq : Mod (fun _ => False) wo wq := by rw [← hwq]; exact Mod.drewN _ _ _
      (try rw [hwq])
      clear hwq
      clear qbg_0 qbg_1 qbg_2 lbg
      replace HS := Lib.hid (HS.out.step hmq)
      clear hmq HQ1 HQ2
      have hbbg := (HS.out.now).2.2.1
      have qbg_0 := hbbg.cell 0 rfl
      have qbg_1 := hbbg.cell 1 rfl
      have qbg_2 := hbbg.cell 2 rfl
      have lbg := hbbg.lt
      clear hbbg
      go_wp2_with fail
      refine (ddist19_any t p B C G hmay _ ((HS.out.now).2.2.2.1) re rv (some ⟨rb, 0, none⟩) n2 n2 (shutL n2 sh) (shutL_len n2 sh) ((HS.out.now).2.1)).mono ?_
      rintro e w' hp
      clear qbg_0 qbg_1 qbg_2 lbg
      obtain ⟨x, hbt, rfl, hmc⟩ := hp
      obtain ⟨wa, hw'⟩ : ∃ x : World, x = w' := ⟨_, rfl⟩
      subst hw'
      replace HS := Lib.hid (HS.out.step hmc)
      clear hmc
      have HBT := Lib.hid hbt
      have hxl := hbt.low
      clear hbt
      have hbbg := (HS.out.now).2.2.1
      have qbg_0 := hbbg.cell 0 rfl
      have qbg_1 := hbbg.cell 1 rfl
      have qbg_2 := hbbg.cell 2 rfl
      have lbg := hbbg.lt
      clear hbbg
      obtain ⟨xv, hxv⟩ : ∃ y, (if x = -1 then 0 else x) = y := ⟨_, rfl⟩
      obtain ⟨xb, hxb⟩ : ∃ y, decide (x ≠ -1) = y := ⟨_, rfl⟩
      rw [hxv, hxb]
      go_wp2_with fail
      refine (r4btw_any G hmay _ a1 n1 d1 a2 n2 d2 a3 n3 d3 ((HS.out.now).2.2.2.2.1) re rv (some ⟨rb, 0, none⟩) n2 n2 (shutL n2 sh) (shutL_len n2 sh) ((HS.out.now).2.1)).mono ?_
      rintro e w' hp
      clear qbg_0 qbg_1 qbg_2 lbg
      obtain ⟨x2, hbt, rfl, hmc⟩ := hp
      obtain ⟨wb, hw'⟩ : ∃ x : World, x = w' := ⟨_, rfl⟩
      subst hw'
      obtain rfl := HBT.out.uniq hbt
      replace HS := Lib.hid (HS.out.step hmc)
      clear hmc hbt
      have hbbg := (HS.out.now).2.2.1
      have qbg_0 := hbbg.cell 0 rfl
      have qbg_1 := hbbg.cell 1 rfl
      have qbg_2 := hbbg.cell 2 rfl
      have lbg := hbbg.lt
      clear hbbg
      go_wp2_with fail
      refine (dmeets_any t p B C G hmay _ ((HS.out.now).2.2.2.1) re rv (some ⟨rb, 0, none⟩) n2 n2 (shutL n2 sh) (shutL_len n2 sh) ((HS.out.now).2.1)).mono ?_
      rintro e w' hp
      clear qbg_0 qbg_1 qbg_2 lbg
      obtain ⟨y, hbt, rfl, hmc⟩ := hp
      obtain ⟨wc, hw'⟩ : ∃ x : World, x = w' := ⟨_, rfl⟩
      subst hw'
      replace HS := Lib.hid (HS.out.step hmc)
      clear hmc
      have HMT := Lib.hid hbt
      have hyl := hbt.low
      clear hbt
      have hbbg := (HS.out.now).2.2.1
      have qbg_0 := hbbg.cell 0 rfl
      have qbg_1 := hbbg.cell 1 rfl
      have qbg_2 := hbbg.cell 2 rfl
      have lbg := hbbg.lt
      clear hbbg
      obtain ⟨yv, hyv⟩ : ∃ z, (if y = -1 then 0 else y) = z := ⟨_, rfl⟩
      obtain ⟨yb, hyb⟩ : ∃ z, decide (y ≠ -1) = z := ⟨_, rfl⟩
      rw [hyv, hyb]
      go_wp2_with fail
      refine (r4meets_any G hmay _ a1 n1 d1 a2 n2 d2 a3 n3 d3 ((HS.out.now).2.2.2.2.1) re rv (some ⟨rb, 0, none⟩) n2 n2 (shutL n2 sh) (shutL_len n2 sh) ((HS.out.now).2.1)).mono ?_
      rintro e w' hp
      clear qbg_0 qbg_1 qbg_2 lbg
      obtain ⟨y2, hbt, rfl, hmc⟩ := hp
      obtain ⟨wd, hw'⟩ : ∃ x : World, x = w' := ⟨_, rfl⟩
      subst hw'
      obtain rfl := HMT.out.uniq hbt
      replace HS := Lib.hid (HS.out.step hmc)
      clear hmc hbt
      have hbbg := (HS.out.now).2.2.1
      have qbg_0 := hbbg.cell 0 rfl
      have qbg_1 := hbbg.cell 1 rfl
      have qbg_2 := hbbg.cell 2 rfl
      have lbg := hbbg.lt
      clear hbbg
      clear HBT HMT
      have zx : decide (0 ≤ x) = xb := by rw [← hxb]; exact decide_eq_decide.2 (by omega)
      have zy : decide (0 ≤ y) = yb := by rw [← hyb]; exact decide_eq_decide.2 (by omega)
      have mx : (if x < 0 then 0 else x) = xv := by rw [← hxv]; split <;> split <;> omega
      have my : (if y < 0 then 0 else y) = yv := by rw [← hyv]; split <;> split <;> omega
      clear hxv hxb hyv hyb hxl hyl
      go_wp2_with fail
      go_roundw
      case rel => exact ⟨2, by omega, by go_num, (HS.out.now).1⟩
      case measure => simp [intOf]
    · skip
      go_wp2_with fail
      refine (awake19_any _).mono ?_
      rintro e wq5 ⟨rfl, hmz⟩
      replace HS := Lib.hid (HS.out.step hmz)
      clear hmz
      clear qbg_0 qbg_1 qbg_2 lbg
      have hbbg := (HS.out.now).2.2.1
      have qbg_0 := hbbg.cell 0 rfl
      have qbg_1 := hbbg.cell 1 rfl
      have qbg_2 := hbbg.cell 2 rfl
      have lbg := hbbg.lt
      clear hbbg
      go_wp2_with fail
      go_ret
      exact ⟨rfl, (HS.out.now).2.2.2.2.2.2.2⟩
theorem dtells19_law (w : World) (a0 : Option Addr) (m c0 : Nat) (l : List Int) (ok : (encSlice (encInt .i64)).ok w (.slice a0 m c0, l)) (a4 : Option Addr) (n4 d4 : Nat) (sh : List Int) (ok4 : (encSlice (encInt .i64)).ok w (.slice a4 n4 d4, sh)) (ev : Int) (_ : (Lit.int .i64 ev).wf = true) (nv : Int) (_ : (Lit.int .i64 nv).wf = true) :
    Calls Try.prog 3 #[.slice a0 m c0, .slice a4 n4 d4, .int .i64 ev, .int .i64 nv] w fun e w' => e = .returned (.bool true) ∧ Below w.heap.size w w' := by
  obtain ⟨hn, hr, _⟩ := ok_ints ok
  obtain ⟨hn4, hr4, _⟩ := ok_ints ok4
  exact (dtells19_all w a0 m c0 l hn hr a4 n4 d4 sh hn4 hr4 ev nv).mono fun e w' h => ⟨h.1, h.2.below (Nat.le_refl _) (fun _ e => e.elim)⟩
end Go.Proofs.Ytbjdjafkpldbnaa
