/- LeastTells walked. -/
import Derived.Test.YtgiojfihgdifbaaAwake12
import Derived.Test.YtgiojfihgdifbaaShut11
import Derived.Test.YtgiojfihgdifbaaRWay
import Derived.Test.YtgiojfihgdifbaaKOpen
import Derived.Test.YtgiojfihgdifbaaRegion2
import Derived.Deep.DeepCutAuto
import Derived.Deep.CutBlock
namespace Go.Proofs.Ytgiojfihgdifbaa
open Go.RowKit Mile
set_option maxRecDepth 100000
/-- What each operation of the statement leaves. -/
def lt_r12_0_F (nv : Int) (ev : Int) (re : Int) (rv : Int) (a1 : Option Addr) (a2 : Option Addr) (n1 : Nat) (d1 : Nat) (n2 : Nat) (d2 : Nat) (bg : Nat) : List (Value → World → Prop) :=
  [IsV (.int .i64 ev),
   IsV (.pointer (some ⟨bg, 1, none⟩)),
   IsV (.slice a2 n2 d2),
   IsV (.int .i64 (n2 : Int)),
   IsV (.int .i64 re),
   IsV (.int .i64 nv),
   IsV (.pointer (some ⟨bg, 0, none⟩)),
   IsV (.slice a1 n1 d1),
   IsV (.int .i64 (n1 : Int)),
   IsV (.int .i64 rv),
   IsV (.int .i64 re),
   IsV (.int .i64 rv)]
def lt_r12_0_D : List (List Nat) := [[], [], [1], [2], [0, 3], [], [], [6], [7], [5, 8], [4], [9]]

set_option maxHeartbeats 64000000 in
theorem ltells_all (w : World) (a0 : Option Addr) (m c0 : Nat) (l : List Int) (hm : l.length = m) (hr : Rd w 1 (.slice a0 m c0) m (l.map (Value.int .i64))) (a4 : Option Addr) (n4 d4 : Nat) (sh : List Int) (hn4 : sh.length = n4) (hr4 : Rd w 1 (.slice a4 n4 d4) n4 (sh.map (Value.int .i64))) (ev nv : Int) :
    Calls Try.prog 7 #[.slice a0 m c0, .slice a4 n4 d4, .int .i64 ev, .int .i64 nv] w fun e w' => e = .returned (.bool true) ∧ Mod (fun _ => False) w w' := by
  by_cases hlen0 : m ≤ 100
  case neg =>
    have HS : Hid (Ev (Mod (fun _ => False) w) w) := Lib.hid (Ev.mod w)
    have z0 : decide (100 < (m : Int)) = true := by simp; omega
    have z1 : decide (100 < m) = true := by simp; omega
    go_enter Try.func7, Try.ntmps7
    go_wp2_with fail
    refine (awake12_any _).mono ?_
    rintro e wq1 ⟨rfl, hm⟩
    replace HS := Lib.hid (HS.out.step hm)
    clear hm
    go_wp2_with fail
    go_ret
    exact ⟨rfl, HS.out.now⟩
  by_cases hlen1 : n4 ≤ 40
  case neg =>
    have HS : Hid (Ev (Mod (fun _ => False) w) w) := Lib.hid (Ev.mod w)
    have y0 : decide (100 < (m : Int)) = false := by simp; omega
    have z0 : decide (40 < (n4 : Int)) = true := by simp; omega
    have z1 : decide (40 < n4) = true := by simp; omega
    go_enter Try.func7, Try.ntmps7
    go_wp2_with fail
    refine (awake12_any _).mono ?_
    rintro e wq2 ⟨rfl, hm⟩
    replace HS := Lib.hid (HS.out.step hm)
    clear hm
    go_wp2_with fail
    go_ret
    exact ⟨rfl, HS.out.now⟩
  have HS : Hid (Ev (Mod (fun _ => False) w) w) := Lib.hid (Ev.mod w)
  have y0 : decide (100 < (m : Int)) = false := by simp; omega
  have y1 : decide (40 < (n4 : Int)) = false := by simp; omega
  replace HS := Lib.hid ((Ev.rd hr).and HS.out)
  replace HS := Lib.hid ((Ev.rd hr4).and HS.out)
  have HN4 := Lib.hid hn4
  clear hr hr4 hn4
  go_enter Try.func7, Try.ntmps7
  go_wp2_with fail
  refine (M12.made12_any _ a0 m c0 l hm ((HS.out.now).2.1)).mono ?_
  rintro e wq3 ⟨a1, n1, d1, a2, n2, d2, a3, n3, d3, t, p, B, C, rfl, hg, hto, hmm⟩
  replace HS := Lib.hid (HS.out.step hmm)
  clear hmm
  replace HS := Lib.hid ((Ev.gv hg).and HS.out)
  replace HS := Lib.hid ((Ev.to hto).and HS.out)
  clear hg hto y0 y1
  have hmay := Lib.hid (town_may l)
  have hfew := Lib.hid (town_few l)
  obtain ⟨G, hG⟩ : ∃ G, townG l = G := ⟨_, rfl⟩
  rw [hG] at hmay hfew
  rw [hG] at HS
  clear hG
  have hn := Lib.hid ((HS.out.now).2.1.n)
  have he := Lib.hid ((HS.out.now).2.1.e)
  have hb := Lib.hid ((HS.out.now).2.1.b)
  have h1n : n1 ≤ 16 := by have := hfew.out.1.2; have := hn.out; omega
  have h2n : n2 ≤ 67 := by have := hfew.out.2.1.2; have := he.out; omega
  have h2p : 1 ≤ n2 := by have := hfew.out.2.1.1; have := he.out; omega
  have h3n : n3 ≤ 469 := by have := hfew.out.2.2; have := hb.out; omega
  go_wp2_with fail
  obtain ⟨bg, hbg⟩ : ∃ b, wq3.heap.size = b := ⟨_, rfl⟩
  obtain ⟨wq4, hwq4⟩ : ∃ W, World.alloc wq3 (.cells #[.slice a1 n1 d1, .slice a2 n2 d2, .slice a3 n3 d3] 29) = W := ⟨_, rfl⟩
  have hBbg : Blk wq4 bg 29 [.slice a1 n1 d1, .slice a2 n2 d2, .slice a3 n3 d3] := by rw [← hwq4, ← hbg]; exact Blk.new _ 29 [.slice a1 n1 d1, .slice a2 n2 d2, .slice a3 n3 d3]
  have hzbg : wq4.heap.size = bg + 1 := by rw [← hwq4, ← hbg]; exact heap_size_alloc _ _
  replace HS := Lib.hid (HS.out.step (w' := wq4) (by rw [← hwq4]; exact Mod.alloc _ _ _))
  replace HS := Lib.hid ((Ev.blk hBbg).and HS.out)
  try rw [hwq4]
  try rw [hbg]
  clear hzbg hBbg hbg hwq4
  have hbbg := (HS.out.now).1
  have qbg_0 := hbbg.cell 0 rfl
  have qbg_1 := hbbg.cell 1 rfl
  have qbg_2 := hbbg.cell 2 rfl
  have lbg := hbbg.lt
  clear hbbg
  have hGE : 1 ≤ G.E.length := by rw [he.out]; exact h2p
  have h1p : 1 ≤ n1 := by have := hfew.out.1.1; have := hn.out; omega
  go_wp2_with fail
  refine (shut_row G hGE _ a1 n1 d1 a2 n2 d2 a3 n3 d3 ((HS.out.now).2.2.1) (by omega) a4 n4 d4 sh HN4.out ((HS.out.now).2.2.2.1) (by omega)).mono ?_
  rintro e wq5 ⟨x, rfl, ⟨ac, nc, cc, rfl, hnc, hcl⟩, hmm⟩
  replace HS := Lib.hid (HS.out.step hmm)
  clear hmm
  replace HS := Lib.hid ((Ev.rd hcl).and HS.out)
  obtain rfl : n2 = nc := by rw [← hnc]; exact (shutL_len n2 sh).symm
  have HNC := Lib.hid hnc
  clear hcl hnc
  clear qbg_0 qbg_1 qbg_2 lbg
  have hbbg := (HS.out.now).2.1
  have qbg_0 := hbbg.cell 0 rfl
  have qbg_1 := hbbg.cell 1 rfl
  have qbg_2 := hbbg.cell 2 rfl
  have lbg := hbbg.lt
  clear hbbg
  go_wp2_with fail
  clear qbg_0 qbg_1 qbg_2 lbg
  replace HS := Lib.hid ((Ev.mod wq5).and HS.out)
  go_loopw [12] (fun i wr => ∃ k : Nat, k ≤ 2 ∧ i = .int .i64 k ∧ Mod (fun _ => False) wq5 wr) (fun i _ => 2 - (intOf i).toNat)
  case atStart => exact ⟨0, by omega, rfl, Mod.refl _ _⟩
  case round =>
    obtain ⟨k, hk, rfl, hmr⟩ := hrel
    obtain ⟨wo, hwo⟩ : ∃ x : World, x = wr := ⟨_, rfl⟩
    subst hwo
    replace HS := Lib.hid (HS.out.step hmr)
    clear hmr
    have hbbg := (HS.out.now).2.2.1
    have qbg_0 := hbbg.cell 0 rfl
    have qbg_1 := hbbg.cell 1 rfl
    have qbg_2 := hbbg.cell 2 rfl
    have lbg := hbbg.lt
    clear hbbg
    have hk3 : k = 0 ∨ k = 1 ∨ k = 2 := by omega
    rcases hk3 with rfl | rfl | rfl
    · skip
      go_wp2_with fail
      refine (lway_any t p B C G hmay.out _ ((HS.out.now).2.2.2.1) ev nv ac n2 cc (shutL n2 sh) HNC.out ((HS.out.now).2.1)).mono ?_
      rintro e wq6 ⟨r, hwr, aw, lw, cw, rfl, hwl, hwd, hmm⟩
      replace HS := Lib.hid (HS.out.step hmm)
      clear hmm
      replace HS := Lib.hid ((Ev.rd hwd).and HS.out)
      have hln := hwr.len
      have HWR := Lib.hid hwr
      have HWL := Lib.hid hwl
      rw [hwl] at hln
      clear hwd hwr hwl
      clear qbg_0 qbg_1 qbg_2 lbg
      have hbbg := (HS.out.now).2.2.2.1
      have qbg_0 := hbbg.cell 0 rfl
      have qbg_1 := hbbg.cell 1 rfl
      have qbg_2 := hbbg.cell 2 rfl
      have lbg := hbbg.lt
      clear hbbg
      go_wp2_with fail
      refine (r4way_any G hmay.out _ a1 n1 d1 a2 n2 d2 a3 n3 d3 ((HS.out.now).2.2.2.2.2.1) ev nv ac n2 cc (shutL n2 sh) HNC.out ((HS.out.now).2.2.1)).mono ?_
      rintro e wq7 ⟨r2, hwr, ax, lx, cx, rfl, hxl, hxd, hmm⟩
      replace HS := Lib.hid (HS.out.step hmm)
      clear hmm
      replace HS := Lib.hid ((Ev.rd hxd).and HS.out)
      obtain rfl := HWR.out.uniq hwr
      obtain rfl : lw = lx := by rw [← HWL.out]; exact hxl
      clear hxd hwr hxl
      obtain ⟨xs, hxs⟩ : ∃ x, r.getD [] = x := ⟨_, rfl⟩
      obtain ⟨ok, hok⟩ : ∃ x, r.isSome = x := ⟨_, rfl⟩
      rw [hok]
      rw [hxs] at HS HWL
      have HXS := Lib.hid hxs
      have HOK := Lib.hid hok
      clear hxs hok
      clear qbg_0 qbg_1 qbg_2 lbg
      have hbbg := (HS.out.now).2.2.2.2.1
      have qbg_0 := hbbg.cell 0 rfl
      have qbg_1 := hbbg.cell 1 rfl
      have qbg_2 := hbbg.cell 2 rfl
      have lbg := hbbg.lt
      clear hbbg
      go_wp2_with fail
      refine (ints_any _ aw lw cw xs HWL.out ((HS.out.now).2.1) ax lw cx xs HWL.out ((HS.out.now).1) (by omega)).mono ?_
      rintro e w' ⟨rfl, kd, rfl⟩
      rw [decide_eq_true rfl]
      clear qbg_0 qbg_1 qbg_2 lbg
      go_wp2_with fail
      go_roundw
      case rel => exact ⟨1, by omega, by go_num, ((HS.out.now).2.2.1).of2 (Mod.drewN _ _ _)⟩
      case measure => simp [intOf]
    · skip
      go_upto_region 12 with fail
      have hre0 := Int.emod_nonneg ev (b := (n2 : Int)) (by omega)
      have hre1 := Int.emod_lt_of_pos ev (b := (n2 : Int)) (by omega)
      obtain ⟨re, hre⟩ : ∃ y, ev % (n2 : Int) = y := ⟨_, rfl⟩
      rw [hre] at hre0 hre1
      have HRE := Lib.hid hre
      clear hre
      have hrv0 := Int.emod_nonneg nv (b := (n1 : Int)) (by omega)
      have hrv1 := Int.emod_lt_of_pos nv (b := (n1 : Int)) (by omega)
      obtain ⟨rv, hrv⟩ : ∃ y, nv % (n1 : Int) = y := ⟨_, rfl⟩
      rw [hrv] at hrv0 hrv1
      have HRV := Lib.hid hrv
      clear hrv
      clear qbg_0 qbg_1 qbg_2 lbg
      have HSd := Lib.hid HS.out.drew
      refine wp_region_inv3 (act := ?actlt_r12_0) (Mod (fun _ => False)) (fun i => (lt_r12_0_F nv ev re rv a1 a2 n1 d1 n2 d2 bg).getD i (fun _ _ => True)) (fun i => lt_r12_0_D.getD i []) (by kernel_rfl) (by kernel_rfl) (by kernel_rfl) (by kernel_rfl) (fun _ => Mod.refl _ _)
        (fun _ _ _ h k => h.trans k (fun _ _ e => e) (fun _ _ e => e)) ?hactlt_r12_0 (stable_list ?_) ?_ ?_
      case hactlt_r12_0 => intro vs; simp only [putAll, Nat.zero_add, Nat.reduceAdd, Act.put, List.setIfInBounds_toArray, List.set_cons_succ, List.set_cons_zero]; exact rfl
      · unfold lt_r12_0_F
        exact stable_cons (stable_val _) <| stable_cons (stable_val _) <| stable_cons (stable_val _) <| stable_cons (stable_val _) <| stable_cons (stable_val _) <| stable_cons (stable_val _) <| stable_cons (stable_val _) <| stable_cons (stable_val _) <| stable_cons (stable_val _) <| stable_cons (stable_val _) <| stable_cons (stable_val _) <| stable_cons (stable_val _) <| stable_nil
      · refine opsOkA_cons ?_ ?_
        · intro K vs W hR hD hK
          clear hD
          try dsimp only at hK ⊢
          simp only [Act.put, List.setIfInBounds_toArray, List.set_cons_succ, List.set_cons_zero] at hK
          go_wp2
          exact hK _ _ rfl (Mod.refl _ _)
        refine opsOkA_cons ?_ ?_
        · intro K vs W hR hD hK
          clear hD
          try dsimp only at hK ⊢
          simp only [Act.put, List.setIfInBounds_toArray, List.set_cons_succ, List.set_cons_zero] at hK
          go_wp2
          exact hK _ _ rfl (Mod.refl _ _)
        refine opsOkA_cons ?_ ?_
        · intro K vs W hR hD hK
          have dq1 : vs 1 = .pointer (some ⟨bg, 1, none⟩) := hD 1 (by decide)
          clear hD
          try dsimp only at hK ⊢
          simp only [Act.put, List.setIfInBounds_toArray, List.set_cons_succ, List.set_cons_zero] at hK
          generalize vs 1 = vq1 at hK dq1 ⊢
          subst vq1
          have q0 := ((HSd.out.at (hR)).2.2.1).cell 1 rfl
          go_wp2
          exact hK _ _ rfl (Mod.refl _ _)
        refine opsOkA_cons ?_ ?_
        · intro K vs W hR hD hK
          have dq2 : vs 2 = .slice a2 n2 d2 := hD 2 (by decide)
          clear hD
          try dsimp only at hK ⊢
          simp only [Act.put, List.setIfInBounds_toArray, List.set_cons_succ, List.set_cons_zero] at hK
          generalize vs 2 = vq2 at hK dq2 ⊢
          subst vq2
          go_wp2_with fail
          exact hK _ _ rfl (Mod.refl _ _)
        refine opsOkA_cons ?_ ?_
        · intro K vs W hR hD hK
          have dq0 : vs 0 = .int .i64 ev := hD 0 (by decide)
          have dq3 : vs 3 = .int .i64 (n2 : Int) := hD 3 (by decide)
          clear hD
          try dsimp only at hK ⊢
          simp only [Act.put, List.setIfInBounds_toArray, List.set_cons_succ, List.set_cons_zero] at hK
          generalize vs 0 = vq0 at hK dq0 ⊢
          subst vq0
          generalize vs 3 = vq3 at hK dq3 ⊢
          subst vq3
          go_wp2_with (go_at_call 21; refine (round_any ev (n2 : Int) W (by omega) (by omega)).mono ?_; rintro e' w' ⟨rfl, rfl⟩; rw [HRE.out])
          exact hK _ _ rfl (Mod.refl _ _)
        refine opsOkA_cons ?_ ?_
        · intro K vs W hR hD hK
          clear hD
          try dsimp only at hK ⊢
          simp only [Act.put, List.setIfInBounds_toArray, List.set_cons_succ, List.set_cons_zero] at hK
          go_wp2
          exact hK _ _ rfl (Mod.refl _ _)
        refine opsOkA_cons ?_ ?_
        · intro K vs W hR hD hK
          clear hD
          try dsimp only at hK ⊢
          simp only [Act.put, List.setIfInBounds_toArray, List.set_cons_succ, List.set_cons_zero] at hK
          go_wp2
          exact hK _ _ rfl (Mod.refl _ _)
        refine opsOkA_cons ?_ ?_
        · intro K vs W hR hD hK
          have dq6 : vs 6 = .pointer (some ⟨bg, 0, none⟩) := hD 6 (by decide)
          clear hD
          try dsimp only at hK ⊢
          simp only [Act.put, List.setIfInBounds_toArray, List.set_cons_succ, List.set_cons_zero] at hK
          generalize vs 6 = vq6 at hK dq6 ⊢
          subst vq6
          have q0 := ((HSd.out.at (hR)).2.2.1).cell 0 rfl
          go_wp2
          exact hK _ _ rfl (Mod.refl _ _)
        refine opsOkA_cons ?_ ?_
        · intro K vs W hR hD hK
          have dq7 : vs 7 = .slice a1 n1 d1 := hD 7 (by decide)
          clear hD
          try dsimp only at hK ⊢
          simp only [Act.put, List.setIfInBounds_toArray, List.set_cons_succ, List.set_cons_zero] at hK
          generalize vs 7 = vq7 at hK dq7 ⊢
          subst vq7
          go_wp2_with fail
          exact hK _ _ rfl (Mod.refl _ _)
        refine opsOkA_cons ?_ ?_
        · intro K vs W hR hD hK
          have dq5 : vs 5 = .int .i64 nv := hD 5 (by decide)
          have dq8 : vs 8 = .int .i64 (n1 : Int) := hD 8 (by decide)
          clear hD
          try dsimp only at hK ⊢
          simp only [Act.put, List.setIfInBounds_toArray, List.set_cons_succ, List.set_cons_zero] at hK
          generalize vs 5 = vq5 at hK dq5 ⊢
          subst vq5
          generalize vs 8 = vq8 at hK dq8 ⊢
          subst vq8
          go_wp2_with (go_at_call 21; refine (round_any nv (n1 : Int) W (by omega) (by omega)).mono ?_; rintro e' w' ⟨rfl, rfl⟩; rw [HRV.out])
          exact hK _ _ rfl (Mod.refl _ _)
        refine opsOkA_cons ?_ ?_
        · intro K vs W hR hD hK
          have dq4 : vs 4 = .int .i64 re := hD 4 (by decide)
          clear hD
          try dsimp only at hK ⊢
          simp only [Act.put, List.setIfInBounds_toArray, List.set_cons_succ, List.set_cons_zero] at hK
          generalize vs 4 = vq4 at hK dq4 ⊢
          subst vq4
          go_wp2
          exact hK _ _ rfl (Mod.refl _ _)
        refine opsOkA_cons ?_ ?_
        · intro K vs W hR hD hK
          have dq9 : vs 9 = .int .i64 rv := hD 9 (by decide)
          clear hD
          try dsimp only at hK ⊢
          simp only [Act.put, List.setIfInBounds_toArray, List.set_cons_succ, List.set_cons_zero] at hK
          generalize vs 9 = vq9 at hK dq9 ⊢
          subst vq9
          go_wp2
          exact hK _ _ rfl (Mod.refl _ _)
        exact opsOkA_nil
      · intro vs wq8 hR hF
        have dq10 : vs 10 = .int .i64 re := hF 10 (by decide)
        have dq11 : vs 11 = .int .i64 rv := hF 11 (by decide)
        clear hF
        try dsimp only
        generalize vs 10 = vq10 at dq10 ⊢
        subst dq10
        generalize vs 11 = vq11 at dq11 ⊢
        subst dq11
        replace HS := Lib.hid (HSd.out.step hR)
        clear HSd hR
        have hbbg := (HS.out.now).2.2.1
        have qbg_0 := hbbg.cell 0 rfl
        have qbg_1 := hbbg.cell 1 rfl
        have qbg_2 := hbbg.cell 2 rfl
        have lbg := hbbg.lt
        clear hbbg
        go_wp2_with fail
        refine (lway_any t p B C G hmay.out _ ((HS.out.now).2.2.2.1) re rv ac n2 cc (shutL n2 sh) HNC.out ((HS.out.now).2.1)).mono ?_
        rintro e wq9 ⟨r, hwr, aw, lw, cw, rfl, hwl, hwd, hmm⟩
        replace HS := Lib.hid (HS.out.step hmm)
        clear hmm
        replace HS := Lib.hid ((Ev.rd hwd).and HS.out)
        have hln := hwr.len
        have HWR := Lib.hid hwr
        have HWL := Lib.hid hwl
        rw [hwl] at hln
        clear hwd hwr hwl
        clear qbg_0 qbg_1 qbg_2 lbg
        have hbbg := (HS.out.now).2.2.2.1
        have qbg_0 := hbbg.cell 0 rfl
        have qbg_1 := hbbg.cell 1 rfl
        have qbg_2 := hbbg.cell 2 rfl
        have lbg := hbbg.lt
        clear hbbg
        go_wp2_with fail
        refine (r4way_any G hmay.out _ a1 n1 d1 a2 n2 d2 a3 n3 d3 ((HS.out.now).2.2.2.2.2.1) re rv ac n2 cc (shutL n2 sh) HNC.out ((HS.out.now).2.2.1)).mono ?_
        rintro e wq10 ⟨r2, hwr, ax, lx, cx, rfl, hxl, hxd, hmm⟩
        replace HS := Lib.hid (HS.out.step hmm)
        clear hmm
        replace HS := Lib.hid ((Ev.rd hxd).and HS.out)
        obtain rfl := HWR.out.uniq hwr
        obtain rfl : lw = lx := by rw [← HWL.out]; exact hxl
        clear hxd hwr hxl
        obtain ⟨xs, hxs⟩ : ∃ x, r.getD [] = x := ⟨_, rfl⟩
        obtain ⟨ok, hok⟩ : ∃ x, r.isSome = x := ⟨_, rfl⟩
        rw [hok]
        rw [hxs] at HS HWL
        have HXS := Lib.hid hxs
        have HOK := Lib.hid hok
        clear hxs hok
        clear qbg_0 qbg_1 qbg_2 lbg
        have hbbg := (HS.out.now).2.2.2.2.1
        have qbg_0 := hbbg.cell 0 rfl
        have qbg_1 := hbbg.cell 1 rfl
        have qbg_2 := hbbg.cell 2 rfl
        have lbg := hbbg.lt
        clear hbbg
        go_wp2_with fail
        refine (ints_any _ aw lw cw xs HWL.out ((HS.out.now).2.1) ax lw cx xs HWL.out ((HS.out.now).1) (by omega)).mono ?_
        rintro e w' ⟨rfl, kd, rfl⟩
        rw [decide_eq_true rfl]
        have hnv : 0 ≤ rv ∧ rv < (G.N.length : Int) := ⟨hrv0, by rw [hn.out]; exact hrv1⟩
        obtain ⟨kr, hkr⟩ := Int.eq_ofNat_of_zero_le hre0
        subst hkr
        have hkE : kr < G.E.length := by rw [he.out]; omega
        have HVN := Lib.hid hnv
        clear hnv
        clear qbg_0 qbg_1 qbg_2 lbg
        obtain ⟨wi, hwi⟩ : ∃ x : World, x = wq10.drewN kd := ⟨_, rfl⟩
        rw [← hwi]
        have hmi : Mod (fun _ => False) wq10 wi := by rw [hwi]; exact Mod.drewN _ _ _
        clear hwi
        replace HS := Lib.hid (HS.out.step hmi)
        clear hmi
        have hbbg := (HS.out.now).2.2.2.2.1
        have qbg_0 := hbbg.cell 0 rfl
        have qbg_1 := hbbg.cell 1 rfl
        have qbg_2 := hbbg.cell 2 rfl
        have lbg := hbbg.lt
        clear hbbg
        go_wp2_with fail
        refine (dto_fix t p B C G hmay.out _ ((HS.out.now).2.2.2.2.2.1) rv HVN.out n2 he.out ac n2 cc (shutL n2 sh) HNC.out ((HS.out.now).2.2.2.1)).mono ?_
        rintro e wq11 ⟨af, cf, d, rfl, hfl, hfr, hfx, hmm⟩
        replace HS := Lib.hid (HS.out.step hmm)
        clear hmm
        replace HS := Lib.hid ((Ev.rd hfr).and HS.out)
        have HDL := Lib.hid hfl
        have HDF := Lib.hid hfx
        have hat := HWR.out.at HVN.out hkE hfx
        have HAT := Lib.hid hat
        clear hfr hfl hfx hat
        clear qbg_0 qbg_1 qbg_2 lbg
        have hbbg := (HS.out.now).2.2.2.2.2.1
        have qbg_0 := hbbg.cell 0 rfl
        have qbg_1 := hbbg.cell 1 rfl
        have qbg_2 := hbbg.cell 2 rfl
        have lbg := hbbg.lt
        clear hbbg
        go_wp2_with fail
        refine (lalong_any t p B C G hmay.out _ ((HS.out.now).2.2.2.2.2.2.1) rv kr hkE af n2 cf d HDL.out ((HS.out.now).1) ac n2 cc (shutL n2 sh) HNC.out ((HS.out.now).2.2.2.2.1) HDF.out).mono ?_
        rintro e wy hp
        rcases hp with ⟨h0, ay, ly, cy, rfl, hyl, hyo, hmm⟩ | ⟨h0, rfl, hmm⟩
        case inl =>
          have hr := HAT.out
          rw [if_pos h0] at hr
          have hx := HXS.out
          have ho := HOK.out
          rw [hr] at hx ho
          subst hx
          subst ho
          clear hr h0
          replace HS := Lib.hid (HS.out.step hmm)
          clear hmm
          have hlw := HWL.out
          have hly : ly = lw := by rw [← hyl]; exact hlw
          subst hly
          replace HS := Lib.hid ((Ev.rd (Rd.ofOwn hyo)).and HS.out)
          clear hyo hlw
          clear qbg_0 qbg_1 qbg_2 lbg
          have hbbg := (HS.out.now).2.2.2.2.2.2.1
          have qbg_0 := hbbg.cell 0 rfl
          have qbg_1 := hbbg.cell 1 rfl
          have qbg_2 := hbbg.cell 2 rfl
          have lbg := hbbg.lt
          clear hbbg
          obtain ⟨ys, hys⟩ : ∃ x, wayN G d (shutL n2 sh) kr = x := ⟨_, rfl⟩
          skip
          go_wp2_with fail
          refine (ints_any _ ay ly cy _ hyl ((HS.out.now).1) ax ly cx _ hyl ((HS.out.now).2.2.1) (by omega)).mono ?_
          rintro e w' ⟨rfl, kd2, rfl⟩
          rw [decide_eq_true rfl]
          clear qbg_0 qbg_1 qbg_2 lbg
          go_wp2_with fail
          go_roundw
          case rel => exact ⟨2, by omega, by go_num, ((HS.out.now).2.2.2.2.1).of2 (Mod.drewN _ _ _)⟩
          case measure => simp [intOf]
        case inr =>
          have hr := HAT.out
          rw [if_neg (by omega)] at hr
          have hx := HXS.out
          have ho := HOK.out
          rw [hr] at hx ho
          subst hx
          subst ho
          clear hr h0
          replace HS := Lib.hid (HS.out.step hmm)
          clear hmm
          clear qbg_0 qbg_1 qbg_2 lbg
          have hbbg := (HS.out.now).2.2.2.2.2.1
          have qbg_0 := hbbg.cell 0 rfl
          have qbg_1 := hbbg.cell 1 rfl
          have qbg_2 := hbbg.cell 2 rfl
          have lbg := hbbg.lt
          clear hbbg
          go_wp2_with fail
          refine (ints_any _ none 0 0 [] rfl (Rd.nil _ _) ax lw cx _ HWL.out ((HS.out.now).2.1) (by omega)).mono ?_
          rintro e w' ⟨rfl, kd2, rfl⟩
          rw [show decide (([] : List Int) = Option.getD (none : Option (List Int)) []) = true from rfl]
          clear qbg_0 qbg_1 qbg_2 lbg
          go_wp2_with fail
          go_roundw
          case rel => exact ⟨2, by omega, by go_num, ((HS.out.now).2.2.2.1).of2 (Mod.drewN _ _ _)⟩
          case measure => simp [intOf]
    · skip
      go_wp2_with fail
      refine (awake12_any _).mono ?_
      rintro e wq12 ⟨rfl, hmz⟩
      replace HS := Lib.hid (HS.out.step hmz)
      clear hmz
      clear qbg_0 qbg_1 qbg_2 lbg
      have hbbg := (HS.out.now).2.2.1
      have qbg_0 := hbbg.cell 0 rfl
      have qbg_1 := hbbg.cell 1 rfl
      have qbg_2 := hbbg.cell 2 rfl
      have lbg := hbbg.lt
      clear hbbg
      go_wp2_with fail
      go_ret
      exact ⟨rfl, (HS.out.now).2.2.2.2.2.2.2⟩
theorem ltells_law (w : World) (a0 : Option Addr) (m c0 : Nat) (l : List Int) (ok : (encSlice (encInt .i64)).ok w (.slice a0 m c0, l)) (a4 : Option Addr) (n4 d4 : Nat) (sh : List Int) (ok4 : (encSlice (encInt .i64)).ok w (.slice a4 n4 d4, sh)) (ev : Int) (_ : (Lit.int .i64 ev).wf = true) (nv : Int) (_ : (Lit.int .i64 nv).wf = true) :
    Calls Try.prog 7 #[.slice a0 m c0, .slice a4 n4 d4, .int .i64 ev, .int .i64 nv] w fun e w' => e = .returned (.bool true) ∧ Below w.heap.size w w' := by
  obtain ⟨hn, hr, _⟩ := ok_ints ok
  obtain ⟨hn4, hr4, _⟩ := ok_ints ok4
  exact (ltells_all w a0 m c0 l hn hr a4 n4 d4 sh hn4 hr4 ev nv).mono fun e w' h => ⟨h.1, h.2.below (Nat.le_refl _) (fun _ e => e.elim)⟩
end Go.Proofs.Ytgiojfihgdifbaa
