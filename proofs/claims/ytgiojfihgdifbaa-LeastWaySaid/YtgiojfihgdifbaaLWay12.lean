/- LeastWay walked. -/
import Derived.Test.YtgiojfihgdifbaaAwake12
import Derived.Test.YtgiojfihgdifbaaShut11
import Derived.Test.YtgiojfihgdifbaaKLeast
import Derived.Test.YtgiojfihgdifbaaBMap
import Derived.Test.YtgiojfihgdifbaaRWalk
import Derived.Test.YtgiojfihgdifbaaBtw
import Derived.Test.YtgiojfihgdifbaaBoth11
import Derived.Test.YtgiojfihgdifbaaR4
import Derived.Test.YtgiojfihgdifbaaRdT
import Derived.Test.YtgiojfihgdifbaaKEv
import Derived.Test.YtgiojfihgdifbaaKOpen
import Derived.Test.YtgiojfihgdifbaaRegion2
import Derived.Deep.DeepCutAuto
import Derived.Deep.CutBlock
namespace Go.Proofs.Ytgiojfihgdifbaa
open Go.RowKit Mile
set_option maxRecDepth 100000
/-- What was seen. -/
def seenF (l : List Int) : Int → Option Bool := fun k => if k ∈ l then some true else none
theorem seenF_nil : seenF [] = fun _ => none := by funext k; simp [seenF]
theorem seenF_take (l : List Int) (i : Nat) (h : i < l.length) (x : Int) (hx : l[i] = x) : (fun j => if j = x then some true else seenF (l.take i) j) = seenF (l.take (i + 1)) := by
  funext j
  unfold seenF
  rw [List.take_succ_eq_append_getElem h, hx]
  by_cases e : j = x
  · simp [e]
  · simp [e]
theorem seenF_new {l : List Int} (hd : l.Nodup) (i : Nat) (h : i < l.length) (x : Int) (hx : l[i] = x) : seenF (l.take i) x = none := by
  unfold seenF
  rw [if_neg]
  intro hm
  obtain ⟨j, hj, he⟩ := List.getElem_of_mem hm
  rw [List.getElem_take] at he
  have hj2 : j < i := by rw [List.length_take] at hj; omega
  exact (List.pairwise_iff_getElem.1 hd) j i (by omega) h hj2 (by rw [he, hx])
/-- What the document fixes of a way: its walk, its end, its weight. -/
theorem way_all {G : GD} {hm : May G} {v : Int} {cl : List Bool} {d : List Int} (h : Fix (webTo G hm v cl) d) (k : Nat) (hk : k < G.E.length) (h0 : 0 ≤ dAt d k) : validB G (k : Int) (wayN G d cl k) = true ∧ endN G (k : Int) (wayN G d cl k) = v ∧ allE G (wayN G d cl k) = true ∧ wtN G (wayN G d cl k) = dAt d k := by
  have w1 := wayN_walk h _ k h0 (Nat.le_refl _)
  have ha := wlk_all G _ _ w1.1
  have hv : validB G (k : Int) (wayN G d cl k) = true := by unfold validB; rw [w1.1]; simp [edB]; omega
  obtain ⟨j, hj⟩ := Int.eq_ofNat_of_zero_le w1.2.2.2.2.1
  have hz := w1.2.2.2.1
  rw [hj, Int.toNat_natCast] at hz
  refine ⟨hv, ?_, ha, by unfold wtN; rw [if_pos ha]; exact w1.2.2.1⟩
  unfold endN
  rw [if_pos hv, hj]
  rcases h.why j (by omega) with ⟨h1, _⟩ | ⟨b, h1, h2, h3⟩
  · exact h1
  · have := ((webTo G hm v cl).one j b h1).1; omega
/-- What each operation of the statement leaves. -/
def lw_r7_0_F (nv : Int) (ev : Int) (re : Int) (rv : Int) (a1 : Option Addr) (a2 : Option Addr) (n1 : Nat) (d1 : Nat) (n2 : Nat) (d2 : Nat) (bg : Nat) : List (Value → World → Prop) :=
  [IsV (.int .i64 ev),
   IsV (.pointer (some ⟨bg, 1, none⟩)),
   IsV (.slice a2 n2 d2),
   IsV (.int .i64 (n2 : Int)),
   IsV (.int .i64 re),
   IsV (.int .i64 nv),
   IsV (.pointer (some ⟨bg, 0, none⟩)),
   IsV (.slice a1 n1 d1),
   IsV (.int .i64 (n1 : Int)),
   IsV (.int .i64 rv),
   IsV (.int .i64 re),
   IsV (.int .i64 rv)]
def lw_r7_0_D : List (List Nat) := [[], [], [1], [2], [0, 3], [], [], [6], [7], [5, 8], [4], [9]]

set_option maxHeartbeats 64000000 in
theorem lway_all (w : World) (a0 : Option Addr) (m c0 : Nat) (l : List Int) (hm : l.length = m) (hr : Rd w 1 (.slice a0 m c0) m (l.map (Value.int .i64))) (a4 : Option Addr) (n4 d4 : Nat) (sh : List Int) (hn4 : sh.length = n4) (hr4 : Rd w 1 (.slice a4 n4 d4) n4 (sh.map (Value.int .i64))) (ev nv : Int) :
    Calls Try.prog 8 #[.slice a0 m c0, .slice a4 n4 d4, .int .i64 ev, .int .i64 nv] w fun e w' => e = .returned (.bool true) ∧ Mod (fun _ => False) w w' := by
  obtain ⟨iI, hiI, hzI, hsI, hbI⟩ := info_parts GR.infoI
  obtain ⟨iB, hiB, hzB, hsB, hbB⟩ := info_parts GR.infoBo
  by_cases hlen0 : m ≤ 100
  case neg =>
    have HS : Hid (Ev (Mod (fun _ => False) w) w) := Lib.hid (Ev.mod w)
    have z0 : decide (100 < (m : Int)) = true := by simp; omega
    have z1 : decide (100 < m) = true := by simp; omega
    go_enter Try.func8, Try.ntmps8
    go_wp2_with fail
    refine (awake12_any _).mono ?_
    rintro e wq1 ⟨rfl, hm⟩
    replace HS := Lib.hid (HS.out.step hm)
    clear hm
    go_wp2_with fail
    go_ret
    exact ⟨rfl, HS.out.now⟩
  by_cases hlen1 : n4 ≤ 40
  case neg =>
    have HS : Hid (Ev (Mod (fun _ => False) w) w) := Lib.hid (Ev.mod w)
    have y0 : decide (100 < (m : Int)) = false := by simp; omega
    have z0 : decide (40 < (n4 : Int)) = true := by simp; omega
    have z1 : decide (40 < n4) = true := by simp; omega
    go_enter Try.func8, Try.ntmps8
    go_wp2_with fail
    refine (awake12_any _).mono ?_
    rintro e wq2 ⟨rfl, hm⟩
    replace HS := Lib.hid (HS.out.step hm)
    clear hm
    go_wp2_with fail
    go_ret
    exact ⟨rfl, HS.out.now⟩
  have HS : Hid (Ev (Mod (fun _ => False) w) w) := Lib.hid (Ev.mod w)
  have y0 : decide (100 < (m : Int)) = false := by simp; omega
  have y1 : decide (40 < (n4 : Int)) = false := by simp; omega
  replace HS := Lib.hid ((Ev.rd hr).and HS.out)
  replace HS := Lib.hid ((Ev.rd hr4).and HS.out)
  have HN4 := Lib.hid hn4
  clear hr hr4 hn4
  go_enter Try.func8, Try.ntmps8
  go_wp2_with fail
  refine (M12.made12_any _ a0 m c0 l hm ((HS.out.now).2.1)).mono ?_
  rintro e wq3 ⟨a1, n1, d1, a2, n2, d2, a3, n3, d3, t, p, B, C, rfl, hg, hto, hmm⟩
  replace HS := Lib.hid (HS.out.step hmm)
  clear hmm
  replace HS := Lib.hid ((Ev.gv hg).and HS.out)
  replace HS := Lib.hid ((Ev.to hto).and HS.out)
  clear hg hto y0 y1
  have hmay := Lib.hid (town_may l)
  have hfew := Lib.hid (town_few l)
  obtain ⟨G, hG⟩ : ∃ G, townG l = G := ⟨_, rfl⟩
  rw [hG] at hmay hfew
  rw [hG] at HS
  clear hG
  have hn := Lib.hid ((HS.out.now).2.1.n)
  have he := Lib.hid ((HS.out.now).2.1.e)
  have hb := Lib.hid ((HS.out.now).2.1.b)
  have h1n : n1 ≤ 16 := by have := hfew.out.1.2; have := hn.out; omega
  have h2n : n2 ≤ 67 := by have := hfew.out.2.1.2; have := he.out; omega
  have h2p : 1 ≤ n2 := by have := hfew.out.2.1.1; have := he.out; omega
  have h3n : n3 ≤ 469 := by have := hfew.out.2.2; have := hb.out; omega
  go_wp2_with fail
  obtain ⟨bg, hbg⟩ : ∃ b, wq3.heap.size = b := ⟨_, rfl⟩
  obtain ⟨wq4, hwq4⟩ : ∃ W, World.alloc wq3 (.cells #[.slice a1 n1 d1, .slice a2 n2 d2, .slice a3 n3 d3] 29) = W := ⟨_, rfl⟩
  have hBbg : Blk wq4 bg 29 [.slice a1 n1 d1, .slice a2 n2 d2, .slice a3 n3 d3] := by rw [← hwq4, ← hbg]; exact Blk.new _ 29 [.slice a1 n1 d1, .slice a2 n2 d2, .slice a3 n3 d3]
  have hzbg : wq4.heap.size = bg + 1 := by rw [← hwq4, ← hbg]; exact heap_size_alloc _ _
  replace HS := Lib.hid (HS.out.step (w' := wq4) (by rw [← hwq4]; exact Mod.alloc _ _ _))
  replace HS := Lib.hid ((Ev.blk hBbg).and HS.out)
  try rw [hwq4]
  try rw [hbg]
  clear hzbg hBbg hbg hwq4
  have hbbg := (HS.out.now).1
  have qbg_0 := hbbg.cell 0 rfl
  have qbg_1 := hbbg.cell 1 rfl
  have qbg_2 := hbbg.cell 2 rfl
  have lbg := hbbg.lt
  clear hbbg
  have hGE : 1 ≤ G.E.length := by rw [he.out]; exact h2p
  have h1p : 1 ≤ n1 := by have := hfew.out.1.1; have := hn.out; omega
  go_wp2_with fail
  refine (shut_row G hGE _ a1 n1 d1 a2 n2 d2 a3 n3 d3 ((HS.out.now).2.2.1) (by omega) a4 n4 d4 sh HN4.out ((HS.out.now).2.2.2.1) (by omega)).mono ?_
  rintro e wq5 ⟨x, rfl, ⟨ac, nc, cc, rfl, hnc, hcl⟩, hmm⟩
  replace HS := Lib.hid (HS.out.step hmm)
  clear hmm
  replace HS := Lib.hid ((Ev.rd hcl).and HS.out)
  obtain rfl : n2 = nc := by rw [← hnc]; exact (shutL_len n2 sh).symm
  have HNC := Lib.hid hnc
  clear hcl hnc
  clear qbg_0 qbg_1 qbg_2 lbg
  have hbbg := (HS.out.now).2.1
  have qbg_0 := hbbg.cell 0 rfl
  have qbg_1 := hbbg.cell 1 rfl
  have qbg_2 := hbbg.cell 2 rfl
  have lbg := hbbg.lt
  clear hbbg
  go_upto_region 7 with fail
  have hre0 := Int.emod_nonneg ev (b := (n2 : Int)) (by omega)
  have hre1 := Int.emod_lt_of_pos ev (b := (n2 : Int)) (by omega)
  obtain ⟨re, hre⟩ : ∃ y, ev % (n2 : Int) = y := ⟨_, rfl⟩
  rw [hre] at hre0 hre1
  have HRE := Lib.hid hre
  clear hre
  have hrv0 := Int.emod_nonneg nv (b := (n1 : Int)) (by omega)
  have hrv1 := Int.emod_lt_of_pos nv (b := (n1 : Int)) (by omega)
  obtain ⟨rv, hrv⟩ : ∃ y, nv % (n1 : Int) = y := ⟨_, rfl⟩
  rw [hrv] at hrv0 hrv1
  have HRV := Lib.hid hrv
  clear hrv
  clear qbg_0 qbg_1 qbg_2 lbg
  have HSd := Lib.hid HS.out.drew
  refine wp_region_inv3 (act := ?actlw_r7_0) (Mod (fun _ => False)) (fun i => (lw_r7_0_F nv ev re rv a1 a2 n1 d1 n2 d2 bg).getD i (fun _ _ => True)) (fun i => lw_r7_0_D.getD i []) (by kernel_rfl) (by kernel_rfl) (by kernel_rfl) (by kernel_rfl) (fun _ => Mod.refl _ _)
    (fun _ _ _ h k => h.trans k (fun _ _ e => e) (fun _ _ e => e)) ?hactlw_r7_0 (stable_list ?_) ?_ ?_
  case hactlw_r7_0 => intro vs; simp only [putAll, Nat.zero_add, Nat.reduceAdd, Act.put, List.setIfInBounds_toArray, List.set_cons_succ, List.set_cons_zero]; exact rfl
  · unfold lw_r7_0_F
    exact stable_cons (stable_val _) <| stable_cons (stable_val _) <| stable_cons (stable_val _) <| stable_cons (stable_val _) <| stable_cons (stable_val _) <| stable_cons (stable_val _) <| stable_cons (stable_val _) <| stable_cons (stable_val _) <| stable_cons (stable_val _) <| stable_cons (stable_val _) <| stable_cons (stable_val _) <| stable_cons (stable_val _) <| stable_nil
  · refine opsOkA_cons ?_ ?_
    · intro K vs W hR hD hK
      clear hD
      try dsimp only at hK ⊢
      simp only [Act.put, List.setIfInBounds_toArray, List.set_cons_succ, List.set_cons_zero] at hK
      go_wp2
      exact hK _ _ rfl (Mod.refl _ _)
    refine opsOkA_cons ?_ ?_
    · intro K vs W hR hD hK
      clear hD
      try dsimp only at hK ⊢
      simp only [Act.put, List.setIfInBounds_toArray, List.set_cons_succ, List.set_cons_zero] at hK
      go_wp2
      exact hK _ _ rfl (Mod.refl _ _)
    refine opsOkA_cons ?_ ?_
    · intro K vs W hR hD hK
      have dq1 : vs 1 = .pointer (some ⟨bg, 1, none⟩) := hD 1 (by decide)
      clear hD
      try dsimp only at hK ⊢
      simp only [Act.put, List.setIfInBounds_toArray, List.set_cons_succ, List.set_cons_zero] at hK
      generalize vs 1 = vq1 at hK dq1 ⊢
      subst vq1
      have q0 := ((HSd.out.at (hR)).2.1).cell 1 rfl
      go_wp2
      exact hK _ _ rfl (Mod.refl _ _)
    refine opsOkA_cons ?_ ?_
    · intro K vs W hR hD hK
      have dq2 : vs 2 = .slice a2 n2 d2 := hD 2 (by decide)
      clear hD
      try dsimp only at hK ⊢
      simp only [Act.put, List.setIfInBounds_toArray, List.set_cons_succ, List.set_cons_zero] at hK
      generalize vs 2 = vq2 at hK dq2 ⊢
      subst vq2
      go_wp2_with fail
      exact hK _ _ rfl (Mod.refl _ _)
    refine opsOkA_cons ?_ ?_
    · intro K vs W hR hD hK
      have dq0 : vs 0 = .int .i64 ev := hD 0 (by decide)
      have dq3 : vs 3 = .int .i64 (n2 : Int) := hD 3 (by decide)
      clear hD
      try dsimp only at hK ⊢
      simp only [Act.put, List.setIfInBounds_toArray, List.set_cons_succ, List.set_cons_zero] at hK
      generalize vs 0 = vq0 at hK dq0 ⊢
      subst vq0
      generalize vs 3 = vq3 at hK dq3 ⊢
      subst vq3
      go_wp2_with (go_at_call 21; refine (round_any ev (n2 : Int) W (by omega) (by omega)).mono ?_; rintro e' w' ⟨rfl, rfl⟩; rw [HRE.out])
      exact hK _ _ rfl (Mod.refl _ _)
    refine opsOkA_cons ?_ ?_
    · intro K vs W hR hD hK
      clear hD
      try dsimp only at hK ⊢
      simp only [Act.put, List.setIfInBounds_toArray, List.set_cons_succ, List.set_cons_zero] at hK
      go_wp2
      exact hK _ _ rfl (Mod.refl _ _)
    refine opsOkA_cons ?_ ?_
    · intro K vs W hR hD hK
      clear hD
      try dsimp only at hK ⊢
      simp only [Act.put, List.setIfInBounds_toArray, List.set_cons_succ, List.set_cons_zero] at hK
      go_wp2
      exact hK _ _ rfl (Mod.refl _ _)
    refine opsOkA_cons ?_ ?_
    · intro K vs W hR hD hK
      have dq6 : vs 6 = .pointer (some ⟨bg, 0, none⟩) := hD 6 (by decide)
      clear hD
      try dsimp only at hK ⊢
      simp only [Act.put, List.setIfInBounds_toArray, List.set_cons_succ, List.set_cons_zero] at hK
      generalize vs 6 = vq6 at hK dq6 ⊢
      subst vq6
      have q0 := ((HSd.out.at (hR)).2.1).cell 0 rfl
      go_wp2
      exact hK _ _ rfl (Mod.refl _ _)
    refine opsOkA_cons ?_ ?_
    · intro K vs W hR hD hK
      have dq7 : vs 7 = .slice a1 n1 d1 := hD 7 (by decide)
      clear hD
      try dsimp only at hK ⊢
      simp only [Act.put, List.setIfInBounds_toArray, List.set_cons_succ, List.set_cons_zero] at hK
      generalize vs 7 = vq7 at hK dq7 ⊢
      subst vq7
      go_wp2_with fail
      exact hK _ _ rfl (Mod.refl _ _)
    refine opsOkA_cons ?_ ?_
    · intro K vs W hR hD hK
      have dq5 : vs 5 = .int .i64 nv := hD 5 (by decide)
      have dq8 : vs 8 = .int .i64 (n1 : Int) := hD 8 (by decide)
      clear hD
      try dsimp only at hK ⊢
      simp only [Act.put, List.setIfInBounds_toArray, List.set_cons_succ, List.set_cons_zero] at hK
      generalize vs 5 = vq5 at hK dq5 ⊢
      subst vq5
      generalize vs 8 = vq8 at hK dq8 ⊢
      subst vq8
      go_wp2_with (go_at_call 21; refine (round_any nv (n1 : Int) W (by omega) (by omega)).mono ?_; rintro e' w' ⟨rfl, rfl⟩; rw [HRV.out])
      exact hK _ _ rfl (Mod.refl _ _)
    refine opsOkA_cons ?_ ?_
    · intro K vs W hR hD hK
      have dq4 : vs 4 = .int .i64 re := hD 4 (by decide)
      clear hD
      try dsimp only at hK ⊢
      simp only [Act.put, List.setIfInBounds_toArray, List.set_cons_succ, List.set_cons_zero] at hK
      generalize vs 4 = vq4 at hK dq4 ⊢
      subst vq4
      go_wp2
      exact hK _ _ rfl (Mod.refl _ _)
    refine opsOkA_cons ?_ ?_
    · intro K vs W hR hD hK
      have dq9 : vs 9 = .int .i64 rv := hD 9 (by decide)
      clear hD
      try dsimp only at hK ⊢
      simp only [Act.put, List.setIfInBounds_toArray, List.set_cons_succ, List.set_cons_zero] at hK
      generalize vs 9 = vq9 at hK dq9 ⊢
      subst vq9
      go_wp2
      exact hK _ _ rfl (Mod.refl _ _)
    exact opsOkA_nil
  · intro vs wq6 hR hF
    have dq10 : vs 10 = .int .i64 re := hF 10 (by decide)
    have dq11 : vs 11 = .int .i64 rv := hF 11 (by decide)
    clear hF
    try dsimp only
    generalize vs 10 = vq10 at dq10 ⊢
    subst dq10
    generalize vs 11 = vq11 at dq11 ⊢
    subst dq11
    replace HS := Lib.hid (HSd.out.step hR)
    clear HSd hR
    have hbbg := (HS.out.now).2.1
    have qbg_0 := hbbg.cell 0 rfl
    have qbg_1 := hbbg.cell 1 rfl
    have qbg_2 := hbbg.cell 2 rfl
    have lbg := hbbg.lt
    clear hbbg
    have hnv : 0 ≤ rv ∧ rv < (G.N.length : Int) := ⟨hrv0, by rw [hn.out]; exact hrv1⟩
    obtain ⟨kr, hkr⟩ := Int.eq_ofNat_of_zero_le hre0
    subst hkr
    have hkE : kr < G.E.length := by rw [he.out]; omega
    have HVN := Lib.hid hnv
    clear hnv
    go_wp2_with fail
    refine (lway_any t p B C G hmay.out _ ((HS.out.now).2.2.1) (kr : Int) rv ac n2 cc (shutL n2 sh) HNC.out ((HS.out.now).1)).mono ?_
    rintro e wq7 ⟨r, hwr, aw, lw, cw, rfl, hwl, hwd, hmm⟩
    replace HS := Lib.hid (HS.out.step hmm)
    clear hmm
    replace HS := Lib.hid ((Ev.rd hwd).and HS.out)
    have hln := hwr.len
    have HWR := Lib.hid hwr
    rw [hwl] at hln
    obtain ⟨ws, hws⟩ : ∃ x, r.getD [] = x := ⟨_, rfl⟩
    obtain ⟨ok, hok⟩ : ∃ x, r.isSome = x := ⟨_, rfl⟩
    rw [hok]
    rw [hws] at HS hwl
    have HWL := Lib.hid hwl
    have HWS := Lib.hid hws
    have HOK := Lib.hid hok
    clear hwd hwr hwl hws hok
    clear qbg_0 qbg_1 qbg_2 lbg
    have hbbg := (HS.out.now).2.2.1
    have qbg_0 := hbbg.cell 0 rfl
    have qbg_1 := hbbg.cell 1 rfl
    have qbg_2 := hbbg.cell 2 rfl
    have lbg := hbbg.lt
    clear hbbg
    go_wp2_with fail
    refine (r4btw_any G hmay.out _ a1 n1 d1 a2 n2 d2 a3 n3 d3 ((HS.out.now).2.2.2.2.1) (kr : Int) rv ac n2 cc (shutL n2 sh) HNC.out ((HS.out.now).2.1)).mono ?_
    rintro e wq8 ⟨x, hbt, rfl, hmm⟩
    replace HS := Lib.hid (HS.out.step hmm)
    clear hmm
    clear qbg_0 qbg_1 qbg_2 lbg
    have hbbg := (HS.out.now).2.2.1
    have qbg_0 := hbbg.cell 0 rfl
    have qbg_1 := hbbg.cell 1 rfl
    have qbg_2 := hbbg.cell 2 rfl
    have lbg := hbbg.lt
    clear hbbg
    have hfix : ∃ d, Fix (webTo G hmay.out rv (shutL n2 sh)) d := by rcases hbt with ⟨_, d, hd, _⟩ | ⟨h, _⟩; exact ⟨d, hd⟩; exact absurd ⟨HVN.out, by omega, by omega⟩ h
    obtain ⟨d, hdf⟩ := hfix
    have hxd := hbt.at HVN.out hkE hdf
    subst hxd
    have hat := HWR.out.at HVN.out hkE hdf
    have HAT := Lib.hid hat
    have HDF := Lib.hid hdf
    clear hbt hdf hat
    obtain ⟨dk, hdk⟩ : ∃ x, dAt d kr = x := ⟨_, rfl⟩
    rw [hdk]
    have HDK := Lib.hid hdk
    clear hdk
    cases ok with
    | false =>
      have hlt : dk < 0 ∧ lw = 0 := by
        have h := HAT.out
        have ho := HOK.out
        by_cases h0 : 0 ≤ dAt d kr
        · rw [if_pos h0] at h; rw [h] at ho; cases ho
        · rw [if_neg h0] at h
          refine ⟨by rw [← HDK.out]; omega, ?_⟩
          have hs := HWS.out
          rw [h] at hs
          have := HWL.out
          rw [← hs] at this
          exact this.symm
      have z0 : decide (dk < 0) = true := by simpa using hlt.1
      have z1 : ((lw : Int) == 0) = true := by rw [hlt.2]; rfl
      clear hlt
      go_wp2_with fail
      refine (awake12_any _).mono ?_
      rintro e wq9 ⟨rfl, hmz⟩
      replace HS := Lib.hid (HS.out.step hmz)
      clear hmz
      clear qbg_0 qbg_1 qbg_2 lbg
      have hbbg := (HS.out.now).2.2.1
      have qbg_0 := hbbg.cell 0 rfl
      have qbg_1 := hbbg.cell 1 rfl
      have qbg_2 := hbbg.cell 2 rfl
      have lbg := hbbg.lt
      clear hbbg
      go_wp2_with fail
      go_ret
      exact ⟨rfl, (HS.out.now).2.2.2.2.2.2.2⟩
    | true =>
      have hpos : 0 ≤ dAt d kr ∧ ws = wayN G d (shutL n2 sh) kr := by
        have h := HAT.out
        have ho := HOK.out
        have hs := HWS.out
        by_cases h0 : 0 ≤ dAt d kr
        · rw [if_pos h0] at h; rw [h] at hs; exact ⟨h0, hs.symm⟩
        · rw [if_neg h0] at h; rw [h] at ho; cases ho
      have hp1 := hpos.1
      have HP2 := Lib.hid hpos.2
      obtain ⟨wa1, wa2, wa3, wa4⟩ := way_all HDF.out kr hkE hp1
      have hnd := way_nodup HDF.out _ kr hp1 (Nat.le_refl _)
      have hwd := way_drop HDF.out
      rw [← HP2.out] at wa1 wa2 wa3 wa4 hnd
      rw [HDK.out] at wa4
      have WA1 := Lib.hid wa1
      have WA2 := Lib.hid wa2
      have WA3 := Lib.hid wa3
      have WA4 := Lib.hid wa4
      have HND := Lib.hid hnd
      have HWD := Lib.hid hwd
      clear hpos wa1 wa2 wa3 wa4 hnd hwd
      go_wp2_with fail
      refine (r4end_any G _ a1 n1 d1 a2 n2 d2 a3 n3 d3 ((HS.out.now).2.2.2.2.1) (by omega) (by omega) (kr : Int) aw lw cw ws HWL.out ((HS.out.now).1) (by omega)).mono ?_
      rintro e wq10 ⟨rfl, hmm⟩
      replace HS := Lib.hid (HS.out.step hmm)
      clear hmm
      clear qbg_0 qbg_1 qbg_2 lbg
      have hbbg := (HS.out.now).2.2.1
      have qbg_0 := hbbg.cell 0 rfl
      have qbg_1 := hbbg.cell 1 rfl
      have qbg_2 := hbbg.cell 2 rfl
      have lbg := hbbg.lt
      clear hbbg
      rw [WA1.out, WA2.out]
      go_wp2_with fail
      refine (r4weight_any G hmay.out _ a1 n1 d1 a2 n2 d2 a3 n3 d3 ((HS.out.now).2.2.2.2.1) (by omega) (by omega) aw lw cw ws HWL.out ((HS.out.now).1) (by omega)).mono ?_
      rintro e wq11 ⟨rfl, hmm⟩
      replace HS := Lib.hid (HS.out.step hmm)
      clear hmm
      clear qbg_0 qbg_1 qbg_2 lbg
      have hbbg := (HS.out.now).2.2.1
      have qbg_0 := hbbg.cell 0 rfl
      have qbg_1 := hbbg.cell 1 rfl
      have qbg_2 := hbbg.cell 2 rfl
      have lbg := hbbg.lt
      clear hbbg
      rw [WA3.out, WA4.out]
      have zd : (dk != dk) = false := by simp
      have zv : (rv != rv) = false := by simp
      have hmk := @run_makeMap Try.prog
      go_upto_region 17 with fail
      clear qbg_0 qbg_1 qbg_2 lbg
      clear zd zv hmk
      obtain ⟨mb, hmb⟩ : ∃ b, wq11.heap.size = b := ⟨_, rfl⟩
      obtain ⟨wM, hwM⟩ : ∃ W, World.alloc wq11 (.map #[] 0) = W := ⟨_, rfl⟩
      have hbm : BMap Try.prog 3 4 wM mb (fun _ => none) := by rw [← hwM, ← hmb]; exact BMap.made _
      have hmM : Mod (fun _ => False) wq11 wM := by rw [← hwM]; exact Mod.alloc _ _ _
      try rw [hwM]
      try rw [hmb]
      have HMB := Lib.hid hmb
      clear hwM hmb
      have HSB := HS
      rw [← seenF_nil] at hbm
      have HBM := Lib.hid hbm
      have HMM := Lib.hid hmM
      clear HS hbm hmM
      go_wp2_with fail
      go_loopw [22] (fun iv wr => ∃ i0 : Nat, i0 ≤ lw ∧ iv = .int .i64 i0 ∧ BMap Try.prog 3 4 wr mb (seenF (ws.take i0)) ∧ Mod (fun _ => False) wq11 wr) (fun iv _ => lw - (intOf iv).toNat)
      case atStart => exact ⟨0, by omega, rfl, HBM.out, HMM.out⟩
      case round =>
        obtain ⟨i0, hi0, rfl, hbr, hmr⟩ := hrel
        obtain ⟨wo, hwo⟩ : ∃ x : World, x = wr := ⟨_, rfl⟩
        subst hwo
        have HBR := Lib.hid hbr
        have HMR := Lib.hid hmr
        clear hbr hmr
        have HS := Lib.hid (HSB.out.step HMR.out)
        have hbbg := (HS.out.now).2.2.1
        have qbg_0 := hbbg.cell 0 rfl
        have qbg_1 := hbbg.cell 1 rfl
        have qbg_2 := hbbg.cell 2 rfl
        have lbg := hbbg.lt
        clear hbbg
        by_cases hli : i0 < lw
        case pos =>
          have z0 : decide ((i0 : Int) < (lw : Int)) = true := by simp; omega
          have hil : i0 < ws.length := by rw [HWL.out]; exact hli
          obtain ⟨xq, hxq, hxE, hx0, hxc2, hxdr⟩ := HWD.out i0 kr hp1 (by rw [← HP2.out]; exact hil)
          have hxq2 : ws[i0] = (xq : Int) := by rw [← hxq]; congr 1 <;> exact HP2.out
          rw [← HP2.out] at hxdr
          have hxn : xq < n2 := by rw [← he.out]; exact hxE
          have hxc : xq < (shutL n2 sh).length := by rw [HNC.out]; exact hxn
          have hcb : clB (shutL n2 sh) (xq : Int) = (shutL n2 sh)[xq] := by unfold clB; rw [decide_eq_true (by omega), Bool.true_and, Int.toNat_natCast, List.getD, List.getElem?_eq_getElem hxc]; rfl
          rw [hxc2] at hcb
          have HXQ := Lib.hid hxq2
          have HCB := Lib.hid hcb.symm
          have HDR := Lib.hid hxdr
          have hsn := seenF_new HND.out i0 hil (xq : Int) hxq2
          have HSN := Lib.hid hsn
          clear hxq hxq2 hcb hxdr hxc2 hsn
          obtain ⟨fb, fo, hpl, e0⟩ := rd1 (HS.out.now).1 i0 hil
          have hix := fun wx => run_indexS (P := Try.prog) wx 22 3 iI 1 Try.underlying22 hiI hsI aw lw cw i0 hli ((HS.out.now).1.some_ (by have := hli; omega))
          rw [hpl] at hix
          have HIf := Lib.hid hix
          clear hix hpl
          rw [HXQ.out] at e0
          replace HS := Lib.hid ((Ev.cell e0).and HS.out)
          clear e0
          obtain ⟨cb, co, hpl, e0⟩ := rdb (HS.out.now).2.2.1 xq hxc
          have hix := fun wx => run_indexS (P := Try.prog) wx 23 4 iB 1 Try.underlying23 hiB hsB ac n2 cc xq hxn ((HS.out.now).2.2.1.some_ (by have := hxn; omega))
          rw [hpl] at hix
          have HIc := Lib.hid hix
          clear hix hpl
          rw [HCB.out] at e0
          replace HS := Lib.hid ((Ev.cell e0).and HS.out)
          clear e0
          have hwf : (Lit.int .i64 (xq : Int)).wf = true := (i64_wf _).2 ⟨by omega, by omega⟩
          have hlk := HBR.out.look1 (t := 56) Try.underlying56 Try.underlying3 Try.underlying4 (by kernel_rfl) (xq : Int) hwf
          rw [HSN.out] at hlk
          replace hlk : (Instr.lookup 56 (.map (some mb)) (.int .i64 (xq : Int)) false).run Try.prog wo = .ok (.bool false) wo := hlk
          obtain ⟨wm, hst, hbm2, hmm2⟩ := HBR.out.store (t := 56) Try.underlying56 Try.underlying3 Try.underlying4 (ws.take i0) (fun k hk => by unfold seenF at hk; by_cases h : k ∈ ws.take i0; exact h; rw [if_neg h] at hk; exact absurd rfl hk) (by rw [List.length_take]; unfold maxLen; omega) (xq : Int) true hwf
          rw [seenF_take ws i0 hil (xq : Int) HXQ.out] at hbm2
          have HBM2 := Lib.hid hbm2
          have hmw : Mod (fun _ => False) wq11 wm := HMR.out.old hmm2 (fun i hi => by have h1 := HMB.out; have h2 : i = mb := hi; omega)
          have HMW := Lib.hid hmw
          clear hbm2 hmw hmm2 hwf
          have qf := (HS.out.now).2.1
          have qc := (HS.out.now).1
          have hix1 := HIf.out
          have hix2 := HIc.out
          go_upto_region 23 with fail
          clear HS
          have HS := Lib.hid (HSB.out.step HMW.out)
          have hbbg := (HS.out.now).2.2.1
          have qbg_0 := hbbg.cell 0 rfl
          have qbg_1 := hbbg.cell 1 rfl
          have qbg_2 := hbbg.cell 2 rfl
          have lbg := hbbg.lt
          clear hbbg
          obtain ⟨gb, go, hpl, e0⟩ := Mile.rd1 ((HS.out.now).1) i0 hil
          have hix := fun wx => run_indexS (P := Try.prog) wx 22 3 iI 1 Try.underlying22 hiI hsI aw lw cw i0 hli (((HS.out.now).1).some_ (by have := hli; omega))
          rw [hpl] at hix
          rw [HXQ.out] at e0
          clear hix1 hpl
          go_wp2_with fail
          refine (lway_any t p B C G hmay.out _ ((HS.out.now).2.2.2.1) (xq : Int) rv ac n2 cc (shutL n2 sh) HNC.out ((HS.out.now).2.1)).mono ?_
          rintro e wq12 ⟨s, hsr, ax, lx, cx, rfl, hxl, hxd, hmm⟩
          have HMQ := Lib.hid hmm
          replace HS := Lib.hid (HS.out.step hmm)
          clear hmm
          have hsv := hsr.at HVN.out hxE HDF.out
          rw [if_pos hx0] at hsv
          subst hsv
          simp only [Option.getD_some, Option.isSome_some] at hxd hxl ⊢
          rw [← HDR.out] at hxd hxl
          have hlx : lx = lw - (i0 + 1) := by rw [← hxl, List.length_drop, HWL.out]
          subst hlx
          replace HS := Lib.hid ((Ev.rd hxd).and HS.out)
          clear hxd hsr hix e0
          clear qbg_0 qbg_1 qbg_2 lbg
          have hbbg := (HS.out.now).2.2.2.1
          have qbg_0 := hbbg.cell 0 rfl
          have qbg_1 := hbbg.cell 1 rfl
          have qbg_2 := hbbg.cell 2 rfl
          have lbg := hbbg.lt
          clear hbbg
          have hdk := fun wx => run_dropS (P := Try.prog) wx 22 3 iI 1 Try.underlying22 hiI hsI aw lw cw (i0 + 1) hli
          have hdc : ((i0 + 1 : Nat) : Int) = (i0 : Int) + 1 := by omega
          rw [hdc] at hdk
          clear hdc
          go_wp2_with fail
          refine (ints_any _ ax (lw - (i0 + 1)) cx (ws.drop (i0 + 1)) hxl ((HS.out.now).1) (dropA aw cw (i0 + 1) 1) (lw - (i0 + 1)) (cw - (i0 + 1)) (ws.drop (i0 + 1)) hxl (rd_drop ((HS.out.now).2.1) hli) (by omega)).mono ?_
          rintro e w' ⟨rfl, kd, rfl⟩
          rw [decide_eq_true rfl]
          clear qbg_0 qbg_1 qbg_2 lbg
          clear hdk
          go_wp2_with fail
          go_roundw
          case rel => exact ⟨i0 + 1, hli, by go_num, HBM2.out.keep (HMQ.out.of2 (Mod.drewN _ _ _)) (fun e => e), (HMW.out.of2 HMQ.out).of2 (Mod.drewN _ _ _)⟩
          case measure => simp [intOf]; omega
        case neg =>
          obtain rfl : lw = i0 := by omega
          have z0 : decide ((lw : Int) < (lw : Int)) = false := by simp
          go_wp2_with fail
          refine (awake12_any _).mono ?_
          rintro e wq13 ⟨rfl, hmz⟩
          replace HS := Lib.hid (HS.out.step hmz)
          clear hmz
          clear qbg_0 qbg_1 qbg_2 lbg
          have hbbg := (HS.out.now).2.2.1
          have qbg_0 := hbbg.cell 0 rfl
          have qbg_1 := hbbg.cell 1 rfl
          have qbg_2 := hbbg.cell 2 rfl
          have lbg := hbbg.lt
          clear hbbg
          go_wp2_with fail
          go_ret
          exact ⟨rfl, (HS.out.now).2.2.2.2.2.2.2⟩
theorem lway_law (w : World) (a0 : Option Addr) (m c0 : Nat) (l : List Int) (ok : (encSlice (encInt .i64)).ok w (.slice a0 m c0, l)) (a4 : Option Addr) (n4 d4 : Nat) (sh : List Int) (ok4 : (encSlice (encInt .i64)).ok w (.slice a4 n4 d4, sh)) (ev : Int) (_ : (Lit.int .i64 ev).wf = true) (nv : Int) (_ : (Lit.int .i64 nv).wf = true) :
    Calls Try.prog 8 #[.slice a0 m c0, .slice a4 n4 d4, .int .i64 ev, .int .i64 nv] w fun e w' => e = .returned (.bool true) ∧ Below w.heap.size w w' := by
  obtain ⟨hn, hr, _⟩ := ok_ints ok
  obtain ⟨hn4, hr4, _⟩ := ok_ints ok4
  exact (lway_all w a0 m c0 l hn hr a4 n4 d4 sh hn4 hr4 ev nv).mono fun e w' h => ⟨h.1, h.2.below (Nat.le_refl _) (fun _ e => e.elim)⟩
end Go.Proofs.Ytgiojfihgdifbaa
