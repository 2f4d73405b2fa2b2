/- BendTells walked. -/
import Derived.Test.YtagmnkobigecnaaBend3
import Derived.Test.YtagmnkobigecnaaRBend
import Derived.Test.YtagmnkobigecnaaKGuide
import Derived.Test.YtagmnkobigecnaaLawN
import Derived.Test.YtagmnkobigecnaaLawG
import Derived.Test.YtagmnkobigecnaaTown3
import Derived.Test.YtagmnkobigecnaaOpens
import Derived.Deep.DeepCutAuto
import Derived.Deep.CutBlock
namespace Go.Proofs.Ytagmnkobigecnaa
open Go.RowKit Mile
set_option maxRecDepth 100000
/-- What each operation of the statement leaves. -/
def bt_r7_0_F (a1 : Option Addr) (a2 : Option Addr) (a3 : Option Addr) (n1 : Nat) (d1 : Nat) (n2 : Nat) (d2 : Nat) (n3 : Nat) (d3 : Nat) (p : Nat) (ax : Int) (ay : Int) (bx : Int) (dy : Int) (va : Int) (vb : Int) (vc : Int) (k1 : Int) (k2 : Int) (k3 : Int) : List (Value → World → Prop) :=
  [IsV (.int .i64 ax),
   IsV (.int .i64 ay),
   IsV (.int .i64 bx),
   IsV (.int .i64 dy),
   IsV (.int .i64 k1),
   IsV (.int .i64 ax),
   IsV (.int .i64 ay),
   IsV (.int .i64 bx),
   IsV (.int .i64 dy),
   IsV (.int .i64 k1),
   IsV (.bool true),
   IsV (.bool true),
   IsV (.pointer (some ⟨p, 0, none⟩)),
   IsV (.int .i64 va),
   IsV (.int .i64 vb),
   IsV (.int .i64 k2),
   IsV (.agg #[.slice a1 n1 d1, .slice a2 n2 d2, .slice a3 n3 d3]),
   IsV (.int .i64 va),
   IsV (.int .i64 vb),
   IsV (.int .i64 k2),
   IsV (.bool true),
   IsV (.bool true),
   IsV (.bool true),
   IsV (.int .i64 vc),
   IsV (.int .i64 k3),
   IsV (.int .i64 vc),
   IsV (.int .i64 k3),
   IsV (.bool true),
   IsV (.bool true),
   IsV (.bool true),
   IsV (.bool true),
   IsV (.bool true),
   IsV (.bool true)]
def bt_r7_0_D : List (List Nat) := [[], [], [], [], [0, 1, 2, 3], [], [], [], [], [5, 6, 7, 8], [4, 9], [10], [11], [11], [11], [11, 12, 13, 14], [11], [11], [11], [11, 16, 17, 18], [11, 15, 19], [11, 20], [21], [22], [22, 23], [22], [22, 25], [22, 24, 26], [22, 27], [28], [29], [29, 30], [31]]

set_option maxHeartbeats 64000000 in
theorem btells_all (w : World) (ax ay bx dy : Int) (a0 : Option Addr) (m c0 : Nat) (l : List Int) (hm : l.length = m) (hr : Rd w 1 (.slice a0 m c0) m (l.map (Value.int .i64))) (va vb vc : Int) (hwf : (Lit.int .i64 vc).wf = true) :
    Calls Try.prog 4 #[.int .i64 ax, .int .i64 ay, .int .i64 bx, .int .i64 dy, .slice a0 m c0, .int .i64 va, .int .i64 vb, .int .i64 vc] w fun e w' => e = .returned (.bool true) ∧ Mod (fun _ => False) w w' := by
  by_cases hlen0 : m ≤ 100
  case neg =>
    have HS : Hid (Ev (Mod (fun _ => False) w) w) := Lib.hid (Ev.mod w)
    have z0 : decide (100 < (m : Int)) = true := by simp; omega
    have z1 : decide (100 < m) = true := by simp; omega
    go_enter Try.func4, Try.ntmps4
    go_wp2_with fail
    refine (awake_any _).mono ?_
    rintro e wq1 ⟨rfl, hm⟩
    replace HS := Lib.hid (HS.out.step hm)
    clear hm
    go_wp2_with fail
    go_ret
    exact ⟨rfl, HS.out.now⟩
  have HS : Hid (Ev (Mod (fun _ => False) w) w) := Lib.hid (Ev.mod w)
  have y0 : decide (100 < (m : Int)) = false := by simp; omega
  replace HS := Lib.hid ((Ev.rd hr).and HS.out)
  clear hr
  go_enter Try.func4, Try.ntmps4
  go_wp2_with fail
  refine (town_gv _ a0 m c0 l hm ((HS.out.now).1)).mono ?_
  rintro e wq2 ⟨a1, n1, d1, a2, n2, d2, a3, n3, d3, rfl, hg, hmm⟩
  replace HS := Lib.hid (HS.out.step hmm)
  clear hmm
  replace HS := Lib.hid ((Ev.gv hg).and HS.out)
  clear hg y0
  have hmay := Lib.hid (town_may l)
  have hfew := Lib.hid (town_few l)
  obtain ⟨G, hG⟩ : ∃ G, townG l = G := ⟨_, rfl⟩
  rw [hG] at hmay hfew
  rw [hG] at HS
  clear hG
  have hn := Lib.hid ((HS.out.now).1.n)
  have he := Lib.hid ((HS.out.now).1.e)
  have h1n : n1 ≤ 16 := by have := hfew.out.1.2; have := hn.out; omega
  have h2n : n2 ≤ 67 := by have := hfew.out.2.1.2; have := he.out; omega
  go_wp2_with fail
  obtain ⟨bg, hbg⟩ : ∃ b, wq2.heap.size = b := ⟨_, rfl⟩
  obtain ⟨wq3, hwq3⟩ : ∃ W, World.alloc wq2 (.cells #[.slice a1 n1 d1, .slice a2 n2 d2, .slice a3 n3 d3] 28) = W := ⟨_, rfl⟩
  have hBbg : Blk wq3 bg 28 [.slice a1 n1 d1, .slice a2 n2 d2, .slice a3 n3 d3] := by rw [← hwq3, ← hbg]; exact Blk.new _ 28 [.slice a1 n1 d1, .slice a2 n2 d2, .slice a3 n3 d3]
  have hzbg : wq3.heap.size = bg + 1 := by rw [← hwq3, ← hbg]; exact heap_size_alloc _ _
  replace HS := Lib.hid (HS.out.step (w' := wq3) (by rw [← hwq3]; exact Mod.alloc _ _ _))
  replace HS := Lib.hid ((Ev.blk hBbg).and HS.out)
  try rw [hwq3]
  try rw [hbg]
  clear hzbg hBbg hbg hwq3
  have hbbg := (HS.out.now).1
  have qbg_0 := hbbg.cell 0 rfl
  have qbg_1 := hbbg.cell 1 rfl
  have qbg_2 := hbbg.cell 2 rfl
  have lbg := hbbg.lt
  clear hbbg
  go_wp2_with fail
  refine (new_ok G hmay.out _ a1 n1 d1 a2 n2 d2 a3 n3 d3 ((HS.out.now).2.1)).mono ?_
  rintro e wq4 ⟨p, B, C, rfl, hgo, hmm⟩
  replace HS := Lib.hid (HS.out.step hmm)
  clear hmm
  replace HS := Lib.hid ((Ev.go hgo).and HS.out)
  clear hgo
  clear qbg_0 qbg_1 qbg_2 lbg
  have hbbg := (HS.out.now).2.1
  have qbg_0 := hbbg.cell 0 rfl
  have qbg_1 := hbbg.cell 1 rfl
  have qbg_2 := hbbg.cell 2 rfl
  have lbg := hbbg.lt
  clear hbbg
  obtain ⟨k1, HK10⟩ : ∃ qz, clsC ax ay bx dy = qz := ⟨_, rfl⟩
  have HK1 := Lib.hid HK10
  clear HK10
  obtain ⟨k2, HK20⟩ : ∃ qz, bendG G va vb = qz := ⟨_, rfl⟩
  have HK2 := Lib.hid HK20
  clear HK20
  obtain ⟨k3, HK30⟩ : ∃ qz, mirC vc = qz := ⟨_, rfl⟩
  have HK3 := Lib.hid HK30
  clear HK30
  have HWF := Lib.hid hwf
  clear hwf
  go_upto_region 7 with fail
  clear qbg_0 qbg_1 qbg_2 lbg
  have HSd := Lib.hid HS.out.drew
  refine wp_region_inv3 (act := ?actbt_r7_0) (Mod (fun _ => False)) (fun i => (bt_r7_0_F a1 a2 a3 n1 d1 n2 d2 n3 d3 p ax ay bx dy va vb vc k1 k2 k3).getD i (fun _ _ => True)) (fun i => bt_r7_0_D.getD i []) (by kernel_rfl) (by kernel_rfl) (by kernel_rfl) (by kernel_rfl) (fun _ => Mod.refl _ _)
    (fun _ _ _ h k => h.trans k (fun _ _ e => e) (fun _ _ e => e)) ?hactbt_r7_0 (stable_list ?_) ?_ ?_
  case hactbt_r7_0 => intro vs; simp only [putAll, Nat.zero_add, Nat.reduceAdd, Act.put, List.setIfInBounds_toArray, List.set_cons_succ, List.set_cons_zero]; exact rfl
  · unfold bt_r7_0_F
    exact stable_cons (stable_val _) <| stable_cons (stable_val _) <| stable_cons (stable_val _) <| stable_cons (stable_val _) <| stable_cons (stable_val _) <| stable_cons (stable_val _) <| stable_cons (stable_val _) <| stable_cons (stable_val _) <| stable_cons (stable_val _) <| stable_cons (stable_val _) <| stable_cons (stable_val _) <| stable_cons (stable_val _) <| stable_cons (stable_val _) <| stable_cons (stable_val _) <| stable_cons (stable_val _) <| stable_cons (stable_val _) <| stable_cons (stable_val _) <| stable_cons (stable_val _) <| stable_cons (stable_val _) <| stable_cons (stable_val _) <| stable_cons (stable_val _) <| stable_cons (stable_val _) <| stable_cons (stable_val _) <| stable_cons (stable_val _) <| stable_cons (stable_val _) <| stable_cons (stable_val _) <| stable_cons (stable_val _) <| stable_cons (stable_val _) <| stable_cons (stable_val _) <| stable_cons (stable_val _) <| stable_cons (stable_val _) <| stable_cons (stable_val _) <| stable_cons (stable_val _) <| stable_nil
  · refine opsOkA_cons ?_ ?_
    · intro K vs W hR hD hK
      clear hD
      try dsimp only at hK ⊢
      simp only [Act.put, List.setIfInBounds_toArray, List.set_cons_succ, List.set_cons_zero] at hK
      go_wp2
      exact hK _ _ rfl (Mod.refl _ _)
    refine opsOkA_cons ?_ ?_
    · intro K vs W hR hD hK
      clear hD
      try dsimp only at hK ⊢
      simp only [Act.put, List.setIfInBounds_toArray, List.set_cons_succ, List.set_cons_zero] at hK
      go_wp2
      exact hK _ _ rfl (Mod.refl _ _)
    refine opsOkA_cons ?_ ?_
    · intro K vs W hR hD hK
      clear hD
      try dsimp only at hK ⊢
      simp only [Act.put, List.setIfInBounds_toArray, List.set_cons_succ, List.set_cons_zero] at hK
      go_wp2
      exact hK _ _ rfl (Mod.refl _ _)
    refine opsOkA_cons ?_ ?_
    · intro K vs W hR hD hK
      clear hD
      try dsimp only at hK ⊢
      simp only [Act.put, List.setIfInBounds_toArray, List.set_cons_succ, List.set_cons_zero] at hK
      go_wp2
      exact hK _ _ rfl (Mod.refl _ _)
    refine opsOkA_cons ?_ ?_
    · intro K vs W hR hD hK
      have dq0 : vs 0 = .int .i64 ax := hD 0 (by decide)
      have dq1 : vs 1 = .int .i64 ay := hD 1 (by decide)
      have dq2 : vs 2 = .int .i64 bx := hD 2 (by decide)
      have dq3 : vs 3 = .int .i64 dy := hD 3 (by decide)
      clear hD
      try dsimp only at hK ⊢
      simp only [Act.put, List.setIfInBounds_toArray, List.set_cons_succ, List.set_cons_zero] at hK
      generalize vs 0 = vq0 at hK dq0 ⊢
      subst vq0
      generalize vs 1 = vq1 at hK dq1 ⊢
      subst vq1
      generalize vs 2 = vq2 at hK dq2 ⊢
      subst vq2
      generalize vs 3 = vq3 at hK dq3 ⊢
      subst vq3
      go_wp2_with (go_at_call 20; refine (class_at HK1.out W).mono ?_; rintro e' w' ⟨rfl, rfl⟩)
      exact hK _ _ rfl (Mod.refl _ _)
    refine opsOkA_cons ?_ ?_
    · intro K vs W hR hD hK
      clear hD
      try dsimp only at hK ⊢
      simp only [Act.put, List.setIfInBounds_toArray, List.set_cons_succ, List.set_cons_zero] at hK
      go_wp2
      exact hK _ _ rfl (Mod.refl _ _)
    refine opsOkA_cons ?_ ?_
    · intro K vs W hR hD hK
      clear hD
      try dsimp only at hK ⊢
      simp only [Act.put, List.setIfInBounds_toArray, List.set_cons_succ, List.set_cons_zero] at hK
      go_wp2
      exact hK _ _ rfl (Mod.refl _ _)
    refine opsOkA_cons ?_ ?_
    · intro K vs W hR hD hK
      clear hD
      try dsimp only at hK ⊢
      simp only [Act.put, List.setIfInBounds_toArray, List.set_cons_succ, List.set_cons_zero] at hK
      go_wp2
      exact hK _ _ rfl (Mod.refl _ _)
    refine opsOkA_cons ?_ ?_
    · intro K vs W hR hD hK
      clear hD
      try dsimp only at hK ⊢
      simp only [Act.put, List.setIfInBounds_toArray, List.set_cons_succ, List.set_cons_zero] at hK
      go_wp2
      exact hK _ _ rfl (Mod.refl _ _)
    refine opsOkA_cons ?_ ?_
    · intro K vs W hR hD hK
      have dq5 : vs 5 = .int .i64 ax := hD 5 (by decide)
      have dq6 : vs 6 = .int .i64 ay := hD 6 (by decide)
      have dq7 : vs 7 = .int .i64 bx := hD 7 (by decide)
      have dq8 : vs 8 = .int .i64 dy := hD 8 (by decide)
      clear hD
      try dsimp only at hK ⊢
      simp only [Act.put, List.setIfInBounds_toArray, List.set_cons_succ, List.set_cons_zero] at hK
      generalize vs 5 = vq5 at hK dq5 ⊢
      subst vq5
      generalize vs 6 = vq6 at hK dq6 ⊢
      subst vq6
      generalize vs 7 = vq7 at hK dq7 ⊢
      subst vq7
      generalize vs 8 = vq8 at hK dq8 ⊢
      subst vq8
      go_wp2_with (go_at_call 21; refine (rclass_any ax ay bx dy W).mono ?_; rintro e' w' ⟨rfl, hm'⟩; rw [HK1.out])
      exact hK _ _ rfl hm'
    refine opsOkA_cons ?_ ?_
    · intro K vs W hR hD hK
      have dq4 : vs 4 = .int .i64 k1 := hD 4 (by decide)
      have dq9 : vs 9 = .int .i64 k1 := hD 9 (by decide)
      clear hD
      try dsimp only at hK ⊢
      simp only [Act.put, List.setIfInBounds_toArray, List.set_cons_succ, List.set_cons_zero] at hK
      generalize vs 4 = vq4 at hK dq4 ⊢
      subst vq4
      generalize vs 9 = vq9 at hK dq9 ⊢
      subst vq9
      go_wp2
      exact hK _ _ rfl (Mod.refl _ _)
    refine opsOkA_cons ?_ ?_
    · intro K vs W hR hD hK
      have dq10 : vs 10 = .bool true := hD 10 (by decide)
      clear hD
      try dsimp only at hK ⊢
      simp only [Act.put, List.setIfInBounds_toArray, List.set_cons_succ, List.set_cons_zero] at hK
      generalize vs 10 = vq10 at hK dq10 ⊢
      subst vq10
      go_wp2
      exact hK _ _ rfl (Mod.refl _ _)
    refine opsOkA_cons ?_ ?_
    · intro K vs W hR hD hK
      have dq11 : vs 11 = .bool true := hD 11 (by decide)
      clear hD
      try dsimp only at hK ⊢
      simp only [Act.put, List.setIfInBounds_toArray, List.set_cons_succ, List.set_cons_zero] at hK
      generalize vs 11 = vq11 at hK dq11 ⊢
      subst vq11
      go_wp2
      exact hK _ _ rfl (Mod.refl _ _)
    refine opsOkA_cons ?_ ?_
    · intro K vs W hR hD hK
      have dq11 : vs 11 = .bool true := hD 11 (by decide)
      clear hD
      try dsimp only at hK ⊢
      simp only [Act.put, List.setIfInBounds_toArray, List.set_cons_succ, List.set_cons_zero] at hK
      generalize vs 11 = vq11 at hK dq11 ⊢
      subst vq11
      go_wp2
      exact hK _ _ rfl (Mod.refl _ _)
    refine opsOkA_cons ?_ ?_
    · intro K vs W hR hD hK
      have dq11 : vs 11 = .bool true := hD 11 (by decide)
      clear hD
      try dsimp only at hK ⊢
      simp only [Act.put, List.setIfInBounds_toArray, List.set_cons_succ, List.set_cons_zero] at hK
      generalize vs 11 = vq11 at hK dq11 ⊢
      subst vq11
      go_wp2
      exact hK _ _ rfl (Mod.refl _ _)
    refine opsOkA_cons ?_ ?_
    · intro K vs W hR hD hK
      have dq11 : vs 11 = .bool true := hD 11 (by decide)
      have dq12 : vs 12 = .pointer (some ⟨p, 0, none⟩) := hD 12 (by decide)
      have dq13 : vs 13 = .int .i64 va := hD 13 (by decide)
      have dq14 : vs 14 = .int .i64 vb := hD 14 (by decide)
      clear hD
      try dsimp only at hK ⊢
      simp only [Act.put, List.setIfInBounds_toArray, List.set_cons_succ, List.set_cons_zero] at hK
      generalize vs 11 = vq11 at hK dq11 ⊢
      subst vq11
      generalize vs 12 = vq12 at hK dq12 ⊢
      subst vq12
      generalize vs 13 = vq13 at hK dq13 ⊢
      subst vq13
      generalize vs 14 = vq14 at hK dq14 ⊢
      subst vq14
      go_wp2_with (go_at_call 22; refine (bof_any p B C G hmay.out W ((HSd.out.at (hR)).1) va vb).mono ?_; rintro e' w' ⟨rfl, hm'⟩; rw [HK2.out])
      exact hK _ _ rfl hm'
    refine opsOkA_cons ?_ ?_
    · intro K vs W hR hD hK
      have dq11 : vs 11 = .bool true := hD 11 (by decide)
      clear hD
      try dsimp only at hK ⊢
      simp only [Act.put, List.setIfInBounds_toArray, List.set_cons_succ, List.set_cons_zero] at hK
      generalize vs 11 = vq11 at hK dq11 ⊢
      subst vq11
      have hbx := (HSd.out.at (hR)).2.1
      have q0 := hbx.cell 0 rfl
      have q1 := hbx.cell 1 rfl
      have q2 := hbx.cell 2 rfl
      go_wp2
      exact hK _ _ rfl (Mod.refl _ _)
    refine opsOkA_cons ?_ ?_
    · intro K vs W hR hD hK
      have dq11 : vs 11 = .bool true := hD 11 (by decide)
      clear hD
      try dsimp only at hK ⊢
      simp only [Act.put, List.setIfInBounds_toArray, List.set_cons_succ, List.set_cons_zero] at hK
      generalize vs 11 = vq11 at hK dq11 ⊢
      subst vq11
      go_wp2
      exact hK _ _ rfl (Mod.refl _ _)
    refine opsOkA_cons ?_ ?_
    · intro K vs W hR hD hK
      have dq11 : vs 11 = .bool true := hD 11 (by decide)
      clear hD
      try dsimp only at hK ⊢
      simp only [Act.put, List.setIfInBounds_toArray, List.set_cons_succ, List.set_cons_zero] at hK
      generalize vs 11 = vq11 at hK dq11 ⊢
      subst vq11
      go_wp2
      exact hK _ _ rfl (Mod.refl _ _)
    refine opsOkA_cons ?_ ?_
    · intro K vs W hR hD hK
      have dq11 : vs 11 = .bool true := hD 11 (by decide)
      have dq16 : vs 16 = .agg #[.slice a1 n1 d1, .slice a2 n2 d2, .slice a3 n3 d3] := hD 16 (by decide)
      have dq17 : vs 17 = .int .i64 va := hD 17 (by decide)
      have dq18 : vs 18 = .int .i64 vb := hD 18 (by decide)
      clear hD
      try dsimp only at hK ⊢
      simp only [Act.put, List.setIfInBounds_toArray, List.set_cons_succ, List.set_cons_zero] at hK
      generalize vs 11 = vq11 at hK dq11 ⊢
      subst vq11
      generalize vs 16 = vq16 at hK dq16 ⊢
      subst vq16
      generalize vs 17 = vq17 at hK dq17 ⊢
      subst vq17
      generalize vs 18 = vq18 at hK dq18 ⊢
      subst vq18
      go_wp2_with (go_at_call 23; refine (r4bend_any G hmay.out W a1 n1 d1 a2 n2 d2 a3 n3 d3 ((HSd.out.at (hR)).2.2.1) (by omega) (by omega) va vb).mono ?_; rintro e' w' ⟨rfl, hm'⟩; rw [HK2.out])
      exact hK _ _ rfl hm'
    refine opsOkA_cons ?_ ?_
    · intro K vs W hR hD hK
      have dq11 : vs 11 = .bool true := hD 11 (by decide)
      have dq15 : vs 15 = .int .i64 k2 := hD 15 (by decide)
      have dq19 : vs 19 = .int .i64 k2 := hD 19 (by decide)
      clear hD
      try dsimp only at hK ⊢
      simp only [Act.put, List.setIfInBounds_toArray, List.set_cons_succ, List.set_cons_zero] at hK
      generalize vs 11 = vq11 at hK dq11 ⊢
      subst vq11
      generalize vs 15 = vq15 at hK dq15 ⊢
      subst vq15
      generalize vs 19 = vq19 at hK dq19 ⊢
      subst vq19
      go_wp2
      exact hK _ _ rfl (Mod.refl _ _)
    refine opsOkA_cons ?_ ?_
    · intro K vs W hR hD hK
      have dq11 : vs 11 = .bool true := hD 11 (by decide)
      have dq20 : vs 20 = .bool true := hD 20 (by decide)
      clear hD
      try dsimp only at hK ⊢
      simp only [Act.put, List.setIfInBounds_toArray, List.set_cons_succ, List.set_cons_zero] at hK
      generalize vs 11 = vq11 at hK dq11 ⊢
      subst vq11
      generalize vs 20 = vq20 at hK dq20 ⊢
      subst vq20
      go_wp2
      exact hK _ _ rfl (Mod.refl _ _)
    refine opsOkA_cons ?_ ?_
    · intro K vs W hR hD hK
      have dq21 : vs 21 = .bool true := hD 21 (by decide)
      clear hD
      try dsimp only at hK ⊢
      simp only [Act.put, List.setIfInBounds_toArray, List.set_cons_succ, List.set_cons_zero] at hK
      generalize vs 21 = vq21 at hK dq21 ⊢
      subst vq21
      go_wp2
      exact hK _ _ rfl (Mod.refl _ _)
    refine opsOkA_cons ?_ ?_
    · intro K vs W hR hD hK
      have dq22 : vs 22 = .bool true := hD 22 (by decide)
      clear hD
      try dsimp only at hK ⊢
      simp only [Act.put, List.setIfInBounds_toArray, List.set_cons_succ, List.set_cons_zero] at hK
      generalize vs 22 = vq22 at hK dq22 ⊢
      subst vq22
      go_wp2
      exact hK _ _ rfl (Mod.refl _ _)
    refine opsOkA_cons ?_ ?_
    · intro K vs W hR hD hK
      have dq22 : vs 22 = .bool true := hD 22 (by decide)
      have dq23 : vs 23 = .int .i64 vc := hD 23 (by decide)
      clear hD
      try dsimp only at hK ⊢
      simp only [Act.put, List.setIfInBounds_toArray, List.set_cons_succ, List.set_cons_zero] at hK
      generalize vs 22 = vq22 at hK dq22 ⊢
      subst vq22
      generalize vs 23 = vq23 at hK dq23 ⊢
      subst vq23
      go_wp2_with (go_at_call 24; refine (mirror_at HK3.out HWF.out W).mono ?_; rintro e' w' ⟨rfl, rfl⟩)
      exact hK _ _ rfl (Mod.refl _ _)
    refine opsOkA_cons ?_ ?_
    · intro K vs W hR hD hK
      have dq22 : vs 22 = .bool true := hD 22 (by decide)
      clear hD
      try dsimp only at hK ⊢
      simp only [Act.put, List.setIfInBounds_toArray, List.set_cons_succ, List.set_cons_zero] at hK
      generalize vs 22 = vq22 at hK dq22 ⊢
      subst vq22
      go_wp2
      exact hK _ _ rfl (Mod.refl _ _)
    refine opsOkA_cons ?_ ?_
    · intro K vs W hR hD hK
      have dq22 : vs 22 = .bool true := hD 22 (by decide)
      have dq25 : vs 25 = .int .i64 vc := hD 25 (by decide)
      clear hD
      try dsimp only at hK ⊢
      simp only [Act.put, List.setIfInBounds_toArray, List.set_cons_succ, List.set_cons_zero] at hK
      generalize vs 22 = vq22 at hK dq22 ⊢
      subst vq22
      generalize vs 25 = vq25 at hK dq25 ⊢
      subst vq25
      go_wp2_with (go_at_call 25; refine (rb_mirror vc HWF.out W).mono ?_; rintro e' w' ⟨rfl, rfl⟩; rw [HK3.out])
      exact hK _ _ rfl (Mod.refl _ _)
    refine opsOkA_cons ?_ ?_
    · intro K vs W hR hD hK
      have dq22 : vs 22 = .bool true := hD 22 (by decide)
      have dq24 : vs 24 = .int .i64 k3 := hD 24 (by decide)
      have dq26 : vs 26 = .int .i64 k3 := hD 26 (by decide)
      clear hD
      try dsimp only at hK ⊢
      simp only [Act.put, List.setIfInBounds_toArray, List.set_cons_succ, List.set_cons_zero] at hK
      generalize vs 22 = vq22 at hK dq22 ⊢
      subst vq22
      generalize vs 24 = vq24 at hK dq24 ⊢
      subst vq24
      generalize vs 26 = vq26 at hK dq26 ⊢
      subst vq26
      go_wp2
      exact hK _ _ rfl (Mod.refl _ _)
    refine opsOkA_cons ?_ ?_
    · intro K vs W hR hD hK
      have dq22 : vs 22 = .bool true := hD 22 (by decide)
      have dq27 : vs 27 = .bool true := hD 27 (by decide)
      clear hD
      try dsimp only at hK ⊢
      simp only [Act.put, List.setIfInBounds_toArray, List.set_cons_succ, List.set_cons_zero] at hK
      generalize vs 22 = vq22 at hK dq22 ⊢
      subst vq22
      generalize vs 27 = vq27 at hK dq27 ⊢
      subst vq27
      go_wp2
      exact hK _ _ rfl (Mod.refl _ _)
    refine opsOkA_cons ?_ ?_
    · intro K vs W hR hD hK
      have dq28 : vs 28 = .bool true := hD 28 (by decide)
      clear hD
      try dsimp only at hK ⊢
      simp only [Act.put, List.setIfInBounds_toArray, List.set_cons_succ, List.set_cons_zero] at hK
      generalize vs 28 = vq28 at hK dq28 ⊢
      subst vq28
      go_wp2
      exact hK _ _ rfl (Mod.refl _ _)
    refine opsOkA_cons ?_ ?_
    · intro K vs W hR hD hK
      have dq29 : vs 29 = .bool true := hD 29 (by decide)
      clear hD
      try dsimp only at hK ⊢
      simp only [Act.put, List.setIfInBounds_toArray, List.set_cons_succ, List.set_cons_zero] at hK
      generalize vs 29 = vq29 at hK dq29 ⊢
      subst vq29
      go_wp2_with (go_at_call 19; refine (awake_any W).mono ?_; rintro e' w' ⟨rfl, hm'⟩)
      exact hK _ _ rfl hm'
    refine opsOkA_cons ?_ ?_
    · intro K vs W hR hD hK
      have dq29 : vs 29 = .bool true := hD 29 (by decide)
      have dq30 : vs 30 = .bool true := hD 30 (by decide)
      clear hD
      try dsimp only at hK ⊢
      simp only [Act.put, List.setIfInBounds_toArray, List.set_cons_succ, List.set_cons_zero] at hK
      generalize vs 29 = vq29 at hK dq29 ⊢
      subst vq29
      generalize vs 30 = vq30 at hK dq30 ⊢
      subst vq30
      go_wp2
      exact hK _ _ rfl (Mod.refl _ _)
    refine opsOkA_cons ?_ ?_
    · intro K vs W hR hD hK
      have dq31 : vs 31 = .bool true := hD 31 (by decide)
      clear hD
      try dsimp only at hK ⊢
      simp only [Act.put, List.setIfInBounds_toArray, List.set_cons_succ, List.set_cons_zero] at hK
      generalize vs 31 = vq31 at hK dq31 ⊢
      subst vq31
      go_wp2
      exact hK _ _ rfl (Mod.refl _ _)
    exact opsOkA_nil
  · intro vs wq5 hR hF
    have dq32 : vs 32 = .bool true := hF 32 (by decide)
    clear hF
    try dsimp only
    generalize vs 32 = vq32 at dq32 ⊢
    subst dq32
    replace HS := Lib.hid (HSd.out.step hR)
    clear HSd hR
    have hbbg := (HS.out.now).2.1
    have qbg_0 := hbbg.cell 0 rfl
    have qbg_1 := hbbg.cell 1 rfl
    have qbg_2 := hbbg.cell 2 rfl
    have lbg := hbbg.lt
    clear hbbg
    go_wp2_with fail
    go_ret
    exact ⟨rfl, (HS.out.now).2.2.2.2⟩
theorem btells_law (w : World) (ax : Int) (_ : (Lit.int .i64 ax).wf = true) (ay : Int) (_ : (Lit.int .i64 ay).wf = true) (bx : Int) (_ : (Lit.int .i64 bx).wf = true) (dy : Int) (_ : (Lit.int .i64 dy).wf = true) (a0 : Option Addr) (m c0 : Nat) (l : List Int) (ok : (encSlice (encInt .i64)).ok w (.slice a0 m c0, l)) (va : Int) (_ : (Lit.int .i64 va).wf = true) (vb : Int) (_ : (Lit.int .i64 vb).wf = true) (vc : Int) (hwf : (Lit.int .i64 vc).wf = true) :
    Calls Try.prog 4 #[.int .i64 ax, .int .i64 ay, .int .i64 bx, .int .i64 dy, .slice a0 m c0, .int .i64 va, .int .i64 vb, .int .i64 vc] w fun e w' => e = .returned (.bool true) ∧ Below w.heap.size w w' := by
  obtain ⟨hn, hr, _⟩ := ok_ints ok
  exact (btells_all w ax ay bx dy a0 m c0 l hn hr va vb vc hwf).mono fun e w' h => ⟨h.1, h.2.below (Nat.le_refl _) (fun _ e => e.elim)⟩
end Go.Proofs.Ytagmnkobigecnaa
