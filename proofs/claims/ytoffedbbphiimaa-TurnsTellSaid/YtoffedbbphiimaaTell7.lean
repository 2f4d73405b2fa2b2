/- TurnsTell walked. -/
import Derived.Test.YtoffedbbphiimaaMade7
import Derived.Test.YtoffedbbphiimaaAwake7
import Derived.Test.YtoffedbbphiimaaTurns2
import Derived.Test.YtoffedbbphiimaaRNext
import Derived.Test.YtoffedbbphiimaaRPrev
import Derived.Test.YtoffedbbphiimaaRArcs
import Derived.Test.YtoffedbbphiimaaArcsSame
import Derived.Deep.DeepCutAuto
import Derived.Deep.CutBlock
namespace Go.Proofs.Ytoffedbbphiimaa
open Go.RowKit Mile
set_option maxRecDepth 100000
/-- What each operation of the statement leaves. -/
def tt_r9_0_F (t bg n1 d1 n2 d2 n3 d3 : Nat) (ev va vb : Int) (bt : Bool) (a1 a2 a3 : Option Addr) (G : GD) : List (Value → World → Prop) :=
  [IsV (.pointer (some ⟨t, 0, none⟩)),
   IsV (.int .i64 ev),
   (IRow (nxtR G ev)),
   IsV (.agg #[.slice a1 n1 d1, .slice a2 n2 d2, .slice a3 n3 d3]),
   IsV (.int .i64 ev),
   (IRow (nxtR G ev)),
   IsV (.bool true),
   IsV (.bool false),
   IsV (.bool false),
   IsV (.pointer (some ⟨t, 0, none⟩)),
   IsV (.int .i64 ev),
   (IRow (prvR G ev)),
   IsV (.agg #[.slice a1 n1 d1, .slice a2 n2 d2, .slice a3 n3 d3]),
   IsV (.int .i64 ev),
   (IRow (prvR G ev)),
   IsV (.bool true),
   IsV (.bool false),
   IsV (.bool false)]
def tt_r9_0_D : List (List Nat) := [[], [], [0, 1], [], [], [3, 4], [2, 5], [6], [7], [8], [8], [8, 9, 10], [8], [8], [8, 12, 13], [8, 11, 14], [8, 15], [8, 16]]

/-- What each operation of the statement leaves. -/
def tt_r11_1_F (t bg n1 d1 n2 d2 n3 d3 : Nat) (ev va vb : Int) (bt : Bool) (a1 a2 a3 : Option Addr) (G : GD) : List (Value → World → Prop) :=
  [IsV (.pointer (some ⟨t, 0, none⟩)),
   IsV (.int .i64 va),
   IsV (.int .i64 vb),
   IsV (.bool bt),
   IsV (.agg #[.slice a1 n1 d1, .slice a2 n2 d2, .slice a3 n3 d3]),
   IsV (.int .i64 va),
   IsV (.int .i64 vb),
   IsV (.bool bt),
   IsV (.bool true),
   IsV (.bool true),
   IsV (.pointer (some ⟨t, 0, none⟩)),
   (ARow (arcsR G)),
   IsV (.agg #[.slice a1 n1 d1, .slice a2 n2 d2, .slice a3 n3 d3]),
   (ARow (arcsR G)),
   IsV (.bool true),
   IsV (.bool true),
   IsV (.bool true),
   IsV (.bool true),
   IsV (.bool true),
   IsV (.bool true)]
def tt_r11_1_D : List (List Nat) := [[], [], [], [0, 1, 2], [], [], [], [4, 5, 6], [3, 7], [8], [9], [9, 10], [9], [9, 12], [9, 11, 13], [9, 14], [15], [16], [16, 17], [18]]

set_option maxHeartbeats 64000000 in
theorem ttell_all (w : World) (a0 : Option Addr) (m c0 : Nat) (l : List Int) (hm : l.length = m) (hr : Rd w 1 (.slice a0 m c0) m (l.map (Value.int .i64))) (va vb : Int) :
    Calls Try.prog 3 #[.slice a0 m c0, .int .i64 va, .int .i64 vb] w fun e w' => e = .returned (.bool true) ∧ Mod (fun _ => False) w w' := by
  by_cases hlen : m ≤ 100
  case neg =>
    have HS : Hid (Ev (Mod (fun _ => False) w) w) := Lib.hid (Ev.mod w)
    have z0 : decide (100 < (m : Int)) = true := by simp; omega
    have z1 : decide (100 < m) = true := by simp; omega
    go_enter Try.func3, Try.ntmps3
    go_wp2_with fail
    refine (awake7_any _).mono ?_
    rintro e wq1 ⟨rfl, hm⟩
    replace HS := Lib.hid (HS.out.step hm)
    clear hm
    go_wp2_with fail
    go_ret
    exact ⟨rfl, HS.out.now⟩
  have HS : Hid (Ev (Mod (fun _ => False) w) w) := Lib.hid (Ev.mod w)
  replace HS := Lib.hid ((Ev.rd hr).and HS.out)
  have z0 : decide (100 < (m : Int)) = false := by simp; omega
  have z1 : decide (100 < m) = false := by simp; omega
  go_enter Try.func3, Try.ntmps3
  go_wp2_with fail
  refine (made7_any _ a0 m c0 l hm ((HS.out.now).1)).mono ?_
  rintro e wq2 ⟨a1, n1, d1, a2, n2, d2, a3, n3, d3, t, p, B, C, rfl, hg, hto, hmm⟩
  replace HS := Lib.hid (HS.out.step hmm)
  clear hmm
  replace HS := Lib.hid ((Ev.gv hg).and HS.out)
  replace HS := Lib.hid ((Ev.to hto).and HS.out)
  clear hg hto z0 z1
  have hmay := Lib.hid (town_may l)
  have hfew := Lib.hid (town_few l)
  obtain ⟨G, hG⟩ : ∃ G, townG l = G := ⟨_, rfl⟩
  rw [hG] at hmay hfew
  rw [hG] at HS
  clear hG
  have hn := Lib.hid ((HS.out.now).2.1.n)
  have he := Lib.hid ((HS.out.now).2.1.e)
  have hb := Lib.hid ((HS.out.now).2.1.b)
  have h1n : n1 ≤ 16 := by have := hfew.out.1.2; have := hn.out; omega
  have h2n : n2 ≤ 67 := by have := hfew.out.2.1.2; have := he.out; omega
  have h3n : n3 ≤ 469 := by have := hfew.out.2.2; have := hb.out; omega
  go_wp2_with fail
  obtain ⟨bg, hbg⟩ : ∃ b, wq2.heap.size = b := ⟨_, rfl⟩
  obtain ⟨wq3, hwq3⟩ : ∃ W, World.alloc wq2 (.cells #[.slice a1 n1 d1, .slice a2 n2 d2, .slice a3 n3 d3] 28) = W := ⟨_, rfl⟩
  have hBbg : Blk wq3 bg 28 [.slice a1 n1 d1, .slice a2 n2 d2, .slice a3 n3 d3] := by rw [← hwq3, ← hbg]; exact Blk.new _ 28 [.slice a1 n1 d1, .slice a2 n2 d2, .slice a3 n3 d3]
  have hzbg : wq3.heap.size = bg + 1 := by rw [← hwq3, ← hbg]; exact heap_size_alloc _ _
  replace HS := Lib.hid (HS.out.step (w' := wq3) (by rw [← hwq3]; exact Mod.alloc _ _ _))
  replace HS := Lib.hid ((Ev.blk hBbg).and HS.out)
  try rw [hwq3]
  try rw [hbg]
  clear hzbg hBbg hbg hwq3
  have hbbg := (HS.out.now).1
  have qbg_0 := hbbg.cell 0 rfl
  have qbg_1 := hbbg.cell 1 rfl
  have qbg_2 := hbbg.cell 2 rfl
  have lbg := hbbg.lt
  clear hbbg
  go_wp2_with fail
  clear qbg_0 qbg_1 qbg_2 lbg
  replace HS := Lib.hid ((Ev.mod wq3).and HS.out)
  go_loopw [9] (fun i wr => ∃ ev : Int, -1 ≤ ev ∧ ev ≤ (n2 : Int) + 1 ∧ i = .int .i64 ev ∧ Mod (fun _ => False) wq3 wr) (fun i _ => ((n2 : Int) + 1 - intOf i).toNat)
  case atStart => exact ⟨-1, by omega, by omega, rfl, Mod.refl _ _⟩
  case round =>
    obtain ⟨ev, hv1, hv2, rfl, hmr⟩ := hrel
    obtain ⟨wo, hwo⟩ : ∃ x : World, x = wr := ⟨_, rfl⟩
    subst hwo
    replace HS := Lib.hid (HS.out.step hmr)
    clear hmr
    have hbbg := (HS.out.now).2.1
    have qbg_0 := hbbg.cell 0 rfl
    have qbg_1 := hbbg.cell 1 rfl
    have qbg_2 := hbbg.cell 2 rfl
    have lbg := hbbg.lt
    clear hbbg
    by_cases hlt : ev ≤ (n2 : Int)
    case pos =>
      have z0 : decide (ev ≤ (n2 : Int)) = true := by simpa using hlt
      go_upto_region 9 with fail
      clear qbg_0 qbg_1 qbg_2 lbg
      have HSd := Lib.hid HS.out.drew
      refine wp_region_inv3 (act := ?acttt_r9_0) (Mod (fun _ => False)) (fun i => (tt_r9_0_F t bg n1 d1 n2 d2 n3 d3 ev va vb true a1 a2 a3 G).getD i (fun _ _ => True)) (fun i => tt_r9_0_D.getD i []) (by kernel_rfl) (by kernel_rfl) (by kernel_rfl) (by kernel_rfl) (fun _ => Mod.refl _ _)
        (fun _ _ _ h k => h.trans k (fun _ _ e => e) (fun _ _ e => e)) ?hacttt_r9_0 (stable_list ?_) ?_ ?_
      case hacttt_r9_0 => intro vs; simp only [putAll, Nat.zero_add, Nat.reduceAdd, Act.put, List.setIfInBounds_toArray, List.set_cons_succ, List.set_cons_zero]; exact rfl
      · unfold tt_r9_0_F
        exact stable_cons (stable_val _) <| stable_cons (stable_val _) <| stable_cons (IRow.st _) <| stable_cons (stable_val _) <| stable_cons (stable_val _) <| stable_cons (IRow.st _) <| stable_cons (stable_val _) <| stable_cons (stable_val _) <| stable_cons (stable_val _) <| stable_cons (stable_val _) <| stable_cons (stable_val _) <| stable_cons (IRow.st _) <| stable_cons (stable_val _) <| stable_cons (stable_val _) <| stable_cons (IRow.st _) <| stable_cons (stable_val _) <| stable_cons (stable_val _) <| stable_cons (stable_val _) <| stable_nil
      · refine opsOkA_cons ?_ ?_
        · intro K vs W hR hD hK
          clear hD
          try dsimp only at hK ⊢
          simp only [Act.put, List.setIfInBounds_toArray, List.set_cons_succ, List.set_cons_zero] at hK
          go_wp2
          exact hK _ _ rfl (Mod.refl _ _)
        refine opsOkA_cons ?_ ?_
        · intro K vs W hR hD hK
          clear hD
          try dsimp only at hK ⊢
          simp only [Act.put, List.setIfInBounds_toArray, List.set_cons_succ, List.set_cons_zero] at hK
          go_wp2
          exact hK _ _ rfl (Mod.refl _ _)
        refine opsOkA_cons ?_ ?_
        · intro K vs W hR hD hK
          have dq0 : vs 0 = .pointer (some ⟨t, 0, none⟩) := hD 0 (by decide)
          have dq1 : vs 1 = .int .i64 ev := hD 1 (by decide)
          clear hD
          try dsimp only at hK ⊢
          simp only [Act.put, List.setIfInBounds_toArray, List.set_cons_succ, List.set_cons_zero] at hK
          generalize vs 0 = vq0 at hK dq0 ⊢
          subst vq0
          generalize vs 1 = vq1 at hK dq1 ⊢
          subst vq1
          go_wp2_with (go_at_call 19; refine (next_any t p B C G W ((HSd.out.at (hR)).2.2.1) ev).mono ?_; rintro e' w' ⟨x', rfl, hx', hm'⟩)
          exact hK _ _ hx' hm'
        refine opsOkA_cons ?_ ?_
        · intro K vs W hR hD hK
          clear hD
          try dsimp only at hK ⊢
          simp only [Act.put, List.setIfInBounds_toArray, List.set_cons_succ, List.set_cons_zero] at hK
          have hbx := (HSd.out.at (hR)).2.1
          have q0 := hbx.cell 0 rfl
          have q1 := hbx.cell 1 rfl
          have q2 := hbx.cell 2 rfl
          go_wp2
          exact hK _ _ rfl (Mod.refl _ _)
        refine opsOkA_cons ?_ ?_
        · intro K vs W hR hD hK
          clear hD
          try dsimp only at hK ⊢
          simp only [Act.put, List.setIfInBounds_toArray, List.set_cons_succ, List.set_cons_zero] at hK
          go_wp2
          exact hK _ _ rfl (Mod.refl _ _)
        refine opsOkA_cons ?_ ?_
        · intro K vs W hR hD hK
          have dq3 : vs 3 = .agg #[.slice a1 n1 d1, .slice a2 n2 d2, .slice a3 n3 d3] := hD 3 (by decide)
          have dq4 : vs 4 = .int .i64 ev := hD 4 (by decide)
          clear hD
          try dsimp only at hK ⊢
          simp only [Act.put, List.setIfInBounds_toArray, List.set_cons_succ, List.set_cons_zero] at hK
          generalize vs 3 = vq3 at hK dq3 ⊢
          subst vq3
          generalize vs 4 = vq4 at hK dq4 ⊢
          subst vq4
          go_wp2_with (go_at_call 20; refine (r4next_any G W a1 n1 d1 a2 n2 d2 a3 n3 d3 ((HSd.out.at (hR)).2.2.2.1) (by omega) (by omega) ev).mono ?_; rintro e' w' ⟨x', rfl, hx', hm'⟩)
          exact hK _ _ hx' hm'
        refine opsOkA_cons ?_ ?_
        · intro K vs W hR hD hK
          have dq2 : (IRow (nxtR G ev)) (vs 2) W := hD 2 (by decide)
          have dq5 : (IRow (nxtR G ev)) (vs 5) W := hD 5 (by decide)
          clear hD
          try dsimp only at hK ⊢
          simp only [Act.put, List.setIfInBounds_toArray, List.set_cons_succ, List.set_cons_zero] at hK
          generalize vs 2 = vq2 at hK dq2 ⊢
          generalize vs 5 = vq5 at hK dq5 ⊢
          obtain ⟨ax2, cx2, rfl, hx2⟩ := dq2
          obtain ⟨ax5, cx5, rfl, hx5⟩ := dq5
          go_wp2_with (go_at_call 18; refine (ints_same W _ _ _ _ rfl hx2 _ _ _ _ rfl hx5 (by have := nxtR_len G ev; have := he.out; omega) true (decide_eq_true rfl)).mono ?_; rintro e' w' ⟨rfl, hm'⟩)
          exact hK _ _ rfl hm'
        refine opsOkA_cons ?_ ?_
        · intro K vs W hR hD hK
          have dq6 : vs 6 = .bool true := hD 6 (by decide)
          clear hD
          try dsimp only at hK ⊢
          simp only [Act.put, List.setIfInBounds_toArray, List.set_cons_succ, List.set_cons_zero] at hK
          generalize vs 6 = vq6 at hK dq6 ⊢
          subst vq6
          go_wp2
          exact hK _ _ rfl (Mod.refl _ _)
        refine opsOkA_cons ?_ ?_
        · intro K vs W hR hD hK
          have dq7 : vs 7 = .bool false := hD 7 (by decide)
          clear hD
          try dsimp only at hK ⊢
          simp only [Act.put, List.setIfInBounds_toArray, List.set_cons_succ, List.set_cons_zero] at hK
          generalize vs 7 = vq7 at hK dq7 ⊢
          subst vq7
          go_wp2
          exact hK _ _ rfl (Mod.refl _ _)
        refine opsOkA_cons ?_ ?_
        · intro K vs W hR hD hK
          have dq8 : vs 8 = .bool false := hD 8 (by decide)
          clear hD
          try dsimp only at hK ⊢
          simp only [Act.put, List.setIfInBounds_toArray, List.set_cons_succ, List.set_cons_zero] at hK
          generalize vs 8 = vq8 at hK dq8 ⊢
          subst vq8
          go_wp2
          exact hK _ _ rfl (Mod.refl _ _)
        refine opsOkA_cons ?_ ?_
        · intro K vs W hR hD hK
          have dq8 : vs 8 = .bool false := hD 8 (by decide)
          clear hD
          try dsimp only at hK ⊢
          simp only [Act.put, List.setIfInBounds_toArray, List.set_cons_succ, List.set_cons_zero] at hK
          generalize vs 8 = vq8 at hK dq8 ⊢
          subst vq8
          go_wp2
          exact hK _ _ rfl (Mod.refl _ _)
        refine opsOkA_cons ?_ ?_
        · intro K vs W hR hD hK
          have dq8 : vs 8 = .bool false := hD 8 (by decide)
          have dq9 : vs 9 = .pointer (some ⟨t, 0, none⟩) := hD 9 (by decide)
          have dq10 : vs 10 = .int .i64 ev := hD 10 (by decide)
          clear hD
          try dsimp only at hK ⊢
          simp only [Act.put, List.setIfInBounds_toArray, List.set_cons_succ, List.set_cons_zero] at hK
          generalize vs 8 = vq8 at hK dq8 ⊢
          subst vq8
          generalize vs 9 = vq9 at hK dq9 ⊢
          subst vq9
          generalize vs 10 = vq10 at hK dq10 ⊢
          subst vq10
          go_wp2_with (go_at_call 21; refine (prev_any t p B C G W ((HSd.out.at (hR)).2.2.1) ev).mono ?_; rintro e' w' ⟨x', rfl, hx', hm'⟩)
          exact hK _ _ hx' hm'
        refine opsOkA_cons ?_ ?_
        · intro K vs W hR hD hK
          have dq8 : vs 8 = .bool false := hD 8 (by decide)
          clear hD
          try dsimp only at hK ⊢
          simp only [Act.put, List.setIfInBounds_toArray, List.set_cons_succ, List.set_cons_zero] at hK
          generalize vs 8 = vq8 at hK dq8 ⊢
          subst vq8
          have hbx := (HSd.out.at (hR)).2.1
          have q0 := hbx.cell 0 rfl
          have q1 := hbx.cell 1 rfl
          have q2 := hbx.cell 2 rfl
          go_wp2
          exact hK _ _ rfl (Mod.refl _ _)
        refine opsOkA_cons ?_ ?_
        · intro K vs W hR hD hK
          have dq8 : vs 8 = .bool false := hD 8 (by decide)
          clear hD
          try dsimp only at hK ⊢
          simp only [Act.put, List.setIfInBounds_toArray, List.set_cons_succ, List.set_cons_zero] at hK
          generalize vs 8 = vq8 at hK dq8 ⊢
          subst vq8
          go_wp2
          exact hK _ _ rfl (Mod.refl _ _)
        refine opsOkA_cons ?_ ?_
        · intro K vs W hR hD hK
          have dq8 : vs 8 = .bool false := hD 8 (by decide)
          have dq12 : vs 12 = .agg #[.slice a1 n1 d1, .slice a2 n2 d2, .slice a3 n3 d3] := hD 12 (by decide)
          have dq13 : vs 13 = .int .i64 ev := hD 13 (by decide)
          clear hD
          try dsimp only at hK ⊢
          simp only [Act.put, List.setIfInBounds_toArray, List.set_cons_succ, List.set_cons_zero] at hK
          generalize vs 8 = vq8 at hK dq8 ⊢
          subst vq8
          generalize vs 12 = vq12 at hK dq12 ⊢
          subst vq12
          generalize vs 13 = vq13 at hK dq13 ⊢
          subst vq13
          go_wp2_with (go_at_call 22; refine (r4prev_any G W a1 n1 d1 a2 n2 d2 a3 n3 d3 ((HSd.out.at (hR)).2.2.2.1) (by omega) (by omega) ev).mono ?_; rintro e' w' ⟨x', rfl, hx', hm'⟩)
          exact hK _ _ hx' hm'
        refine opsOkA_cons ?_ ?_
        · intro K vs W hR hD hK
          have dq8 : vs 8 = .bool false := hD 8 (by decide)
          have dq11 : (IRow (prvR G ev)) (vs 11) W := hD 11 (by decide)
          have dq14 : (IRow (prvR G ev)) (vs 14) W := hD 14 (by decide)
          clear hD
          try dsimp only at hK ⊢
          simp only [Act.put, List.setIfInBounds_toArray, List.set_cons_succ, List.set_cons_zero] at hK
          generalize vs 8 = vq8 at hK dq8 ⊢
          subst vq8
          generalize vs 11 = vq11 at hK dq11 ⊢
          generalize vs 14 = vq14 at hK dq14 ⊢
          obtain ⟨ax11, cx11, rfl, hx11⟩ := dq11
          obtain ⟨ax14, cx14, rfl, hx14⟩ := dq14
          go_wp2_with (go_at_call 18; refine (ints_same W _ _ _ _ rfl hx11 _ _ _ _ rfl hx14 (by have := prvR_len G ev; have := he.out; omega) true (decide_eq_true rfl)).mono ?_; rintro e' w' ⟨rfl, hm'⟩)
          exact hK _ _ rfl hm'
        refine opsOkA_cons ?_ ?_
        · intro K vs W hR hD hK
          have dq8 : vs 8 = .bool false := hD 8 (by decide)
          have dq15 : vs 15 = .bool true := hD 15 (by decide)
          clear hD
          try dsimp only at hK ⊢
          simp only [Act.put, List.setIfInBounds_toArray, List.set_cons_succ, List.set_cons_zero] at hK
          generalize vs 8 = vq8 at hK dq8 ⊢
          subst vq8
          generalize vs 15 = vq15 at hK dq15 ⊢
          subst vq15
          go_wp2
          exact hK _ _ rfl (Mod.refl _ _)
        refine opsOkA_cons ?_ ?_
        · intro K vs W hR hD hK
          have dq8 : vs 8 = .bool false := hD 8 (by decide)
          have dq16 : vs 16 = .bool false := hD 16 (by decide)
          clear hD
          try dsimp only at hK ⊢
          simp only [Act.put, List.setIfInBounds_toArray, List.set_cons_succ, List.set_cons_zero] at hK
          generalize vs 8 = vq8 at hK dq8 ⊢
          subst vq8
          generalize vs 16 = vq16 at hK dq16 ⊢
          subst vq16
          go_wp2
          exact hK _ _ rfl (Mod.refl _ _)
        exact opsOkA_nil
      · intro vs wq4 hR hF
        have dq17 : vs 17 = .bool false := hF 17 (by decide)
        clear hF
        try dsimp only
        generalize vs 17 = vq17 at dq17 ⊢
        subst dq17
        replace HS := Lib.hid (HSd.out.step hR)
        clear HSd hR
        have hbbg := (HS.out.now).2.1
        have qbg_0 := hbbg.cell 0 rfl
        have qbg_1 := hbbg.cell 1 rfl
        have qbg_2 := hbbg.cell 2 rfl
        have lbg := hbbg.lt
        clear hbbg
        go_wp2_with fail
        go_roundw
        case rel => exact ⟨ev + 1, by omega, by omega, by go_num, (HS.out.now).1⟩
        case measure => simp [intOf]; omega
    case neg =>
      have z0 : decide (ev ≤ (n2 : Int)) = false := by simp; omega
      obtain ⟨bt, hbt⟩ : ∃ b, turnB G va vb = b := ⟨_, rfl⟩
      have HBT := Lib.hid hbt
      clear hbt
      have hal : (arcsR G).length ≤ 1000000 := by have h := arcsTo_len G G.E.length; have h4 : G.E.length * G.E.length ≤ 67 * 67 := Nat.mul_le_mul (by have := he.out; omega) (by have := he.out; omega); have h5 : (arcsR G).length = (arcsTo G G.E.length).length := rfl; omega
      go_upto_region 11 with fail
      clear qbg_0 qbg_1 qbg_2 lbg
      have HSd := Lib.hid HS.out.drew
      refine wp_region_inv3 (act := ?acttt_r11_1) (Mod (fun _ => False)) (fun i => (tt_r11_1_F t bg n1 d1 n2 d2 n3 d3 0 va vb bt a1 a2 a3 G).getD i (fun _ _ => True)) (fun i => tt_r11_1_D.getD i []) (by kernel_rfl) (by kernel_rfl) (by kernel_rfl) (by kernel_rfl) (fun _ => Mod.refl _ _)
        (fun _ _ _ h k => h.trans k (fun _ _ e => e) (fun _ _ e => e)) ?hacttt_r11_1 (stable_list ?_) ?_ ?_
      case hacttt_r11_1 => intro vs; simp only [putAll, Nat.zero_add, Nat.reduceAdd, Act.put, List.setIfInBounds_toArray, List.set_cons_succ, List.set_cons_zero]; exact rfl
      · unfold tt_r11_1_F
        exact stable_cons (stable_val _) <| stable_cons (stable_val _) <| stable_cons (stable_val _) <| stable_cons (stable_val _) <| stable_cons (stable_val _) <| stable_cons (stable_val _) <| stable_cons (stable_val _) <| stable_cons (stable_val _) <| stable_cons (stable_val _) <| stable_cons (stable_val _) <| stable_cons (stable_val _) <| stable_cons (ARow.st _) <| stable_cons (stable_val _) <| stable_cons (ARow.st _) <| stable_cons (stable_val _) <| stable_cons (stable_val _) <| stable_cons (stable_val _) <| stable_cons (stable_val _) <| stable_cons (stable_val _) <| stable_cons (stable_val _) <| stable_nil
      · refine opsOkA_cons ?_ ?_
        · intro K vs W hR hD hK
          clear hD
          try dsimp only at hK ⊢
          simp only [Act.put, List.setIfInBounds_toArray, List.set_cons_succ, List.set_cons_zero] at hK
          go_wp2
          exact hK _ _ rfl (Mod.refl _ _)
        refine opsOkA_cons ?_ ?_
        · intro K vs W hR hD hK
          clear hD
          try dsimp only at hK ⊢
          simp only [Act.put, List.setIfInBounds_toArray, List.set_cons_succ, List.set_cons_zero] at hK
          go_wp2
          exact hK _ _ rfl (Mod.refl _ _)
        refine opsOkA_cons ?_ ?_
        · intro K vs W hR hD hK
          clear hD
          try dsimp only at hK ⊢
          simp only [Act.put, List.setIfInBounds_toArray, List.set_cons_succ, List.set_cons_zero] at hK
          go_wp2
          exact hK _ _ rfl (Mod.refl _ _)
        refine opsOkA_cons ?_ ?_
        · intro K vs W hR hD hK
          have dq0 : vs 0 = .pointer (some ⟨t, 0, none⟩) := hD 0 (by decide)
          have dq1 : vs 1 = .int .i64 va := hD 1 (by decide)
          have dq2 : vs 2 = .int .i64 vb := hD 2 (by decide)
          clear hD
          try dsimp only at hK ⊢
          simp only [Act.put, List.setIfInBounds_toArray, List.set_cons_succ, List.set_cons_zero] at hK
          generalize vs 0 = vq0 at hK dq0 ⊢
          subst vq0
          generalize vs 1 = vq1 at hK dq1 ⊢
          subst vq1
          generalize vs 2 = vq2 at hK dq2 ⊢
          subst vq2
          go_wp2_with (go_at_call 23; refine (may_any t p B C G W ((HSd.out.at (hR)).2.2.1) va vb).mono ?_; rintro e' w' ⟨rfl, hm'⟩; rw [HBT.out])
          exact hK _ _ rfl hm'
        refine opsOkA_cons ?_ ?_
        · intro K vs W hR hD hK
          clear hD
          try dsimp only at hK ⊢
          simp only [Act.put, List.setIfInBounds_toArray, List.set_cons_succ, List.set_cons_zero] at hK
          have hbx := (HSd.out.at (hR)).2.1
          have q0 := hbx.cell 0 rfl
          have q1 := hbx.cell 1 rfl
          have q2 := hbx.cell 2 rfl
          go_wp2
          exact hK _ _ rfl (Mod.refl _ _)
        refine opsOkA_cons ?_ ?_
        · intro K vs W hR hD hK
          clear hD
          try dsimp only at hK ⊢
          simp only [Act.put, List.setIfInBounds_toArray, List.set_cons_succ, List.set_cons_zero] at hK
          go_wp2
          exact hK _ _ rfl (Mod.refl _ _)
        refine opsOkA_cons ?_ ?_
        · intro K vs W hR hD hK
          clear hD
          try dsimp only at hK ⊢
          simp only [Act.put, List.setIfInBounds_toArray, List.set_cons_succ, List.set_cons_zero] at hK
          go_wp2
          exact hK _ _ rfl (Mod.refl _ _)
        refine opsOkA_cons ?_ ?_
        · intro K vs W hR hD hK
          have dq4 : vs 4 = .agg #[.slice a1 n1 d1, .slice a2 n2 d2, .slice a3 n3 d3] := hD 4 (by decide)
          have dq5 : vs 5 = .int .i64 va := hD 5 (by decide)
          have dq6 : vs 6 = .int .i64 vb := hD 6 (by decide)
          clear hD
          try dsimp only at hK ⊢
          simp only [Act.put, List.setIfInBounds_toArray, List.set_cons_succ, List.set_cons_zero] at hK
          generalize vs 4 = vq4 at hK dq4 ⊢
          subst vq4
          generalize vs 5 = vq5 at hK dq5 ⊢
          subst vq5
          generalize vs 6 = vq6 at hK dq6 ⊢
          subst vq6
          go_wp2_with (go_at_call 24; refine (r4turn_any G W a1 n1 d1 a2 n2 d2 a3 n3 d3 ((HSd.out.at (hR)).2.2.2.1) (by omega) (by omega) va vb).mono ?_; rintro e' w' ⟨rfl, hm'⟩; rw [HBT.out])
          exact hK _ _ rfl hm'
        refine opsOkA_cons ?_ ?_
        · intro K vs W hR hD hK
          have dq3 : vs 3 = .bool bt := hD 3 (by decide)
          have dq7 : vs 7 = .bool bt := hD 7 (by decide)
          clear hD
          try dsimp only at hK ⊢
          simp only [Act.put, List.setIfInBounds_toArray, List.set_cons_succ, List.set_cons_zero] at hK
          generalize vs 3 = vq3 at hK dq3 ⊢
          subst vq3
          generalize vs 7 = vq7 at hK dq7 ⊢
          subst vq7
          go_wp2
          exact hK _ _ rfl (Mod.refl _ _)
        refine opsOkA_cons ?_ ?_
        · intro K vs W hR hD hK
          have dq8 : vs 8 = .bool true := hD 8 (by decide)
          clear hD
          try dsimp only at hK ⊢
          simp only [Act.put, List.setIfInBounds_toArray, List.set_cons_succ, List.set_cons_zero] at hK
          generalize vs 8 = vq8 at hK dq8 ⊢
          subst vq8
          go_wp2
          exact hK _ _ rfl (Mod.refl _ _)
        refine opsOkA_cons ?_ ?_
        · intro K vs W hR hD hK
          have dq9 : vs 9 = .bool true := hD 9 (by decide)
          clear hD
          try dsimp only at hK ⊢
          simp only [Act.put, List.setIfInBounds_toArray, List.set_cons_succ, List.set_cons_zero] at hK
          generalize vs 9 = vq9 at hK dq9 ⊢
          subst vq9
          go_wp2
          exact hK _ _ rfl (Mod.refl _ _)
        refine opsOkA_cons ?_ ?_
        · intro K vs W hR hD hK
          have dq9 : vs 9 = .bool true := hD 9 (by decide)
          have dq10 : vs 10 = .pointer (some ⟨t, 0, none⟩) := hD 10 (by decide)
          clear hD
          try dsimp only at hK ⊢
          simp only [Act.put, List.setIfInBounds_toArray, List.set_cons_succ, List.set_cons_zero] at hK
          generalize vs 9 = vq9 at hK dq9 ⊢
          subst vq9
          generalize vs 10 = vq10 at hK dq10 ⊢
          subst vq10
          go_wp2_with (go_at_call 26; refine (arcs_any t p B C G W ((HSd.out.at (hR)).2.2.1)).mono ?_; rintro e' w' ⟨x', rfl, hx', hm'⟩)
          exact hK _ _ hx' hm'
        refine opsOkA_cons ?_ ?_
        · intro K vs W hR hD hK
          have dq9 : vs 9 = .bool true := hD 9 (by decide)
          clear hD
          try dsimp only at hK ⊢
          simp only [Act.put, List.setIfInBounds_toArray, List.set_cons_succ, List.set_cons_zero] at hK
          generalize vs 9 = vq9 at hK dq9 ⊢
          subst vq9
          have hbx := (HSd.out.at (hR)).2.1
          have q0 := hbx.cell 0 rfl
          have q1 := hbx.cell 1 rfl
          have q2 := hbx.cell 2 rfl
          go_wp2
          exact hK _ _ rfl (Mod.refl _ _)
        refine opsOkA_cons ?_ ?_
        · intro K vs W hR hD hK
          have dq9 : vs 9 = .bool true := hD 9 (by decide)
          have dq12 : vs 12 = .agg #[.slice a1 n1 d1, .slice a2 n2 d2, .slice a3 n3 d3] := hD 12 (by decide)
          clear hD
          try dsimp only at hK ⊢
          simp only [Act.put, List.setIfInBounds_toArray, List.set_cons_succ, List.set_cons_zero] at hK
          generalize vs 9 = vq9 at hK dq9 ⊢
          subst vq9
          generalize vs 12 = vq12 at hK dq12 ⊢
          subst vq12
          go_wp2_with (go_at_call 27; refine (r4arcs_any G W a1 n1 d1 a2 n2 d2 a3 n3 d3 ((HSd.out.at (hR)).2.2.2.1) (by omega) (by omega)).mono ?_; rintro e' w' ⟨x', rfl, hx', hm'⟩)
          exact hK _ _ hx' hm'
        refine opsOkA_cons ?_ ?_
        · intro K vs W hR hD hK
          have dq9 : vs 9 = .bool true := hD 9 (by decide)
          have dq11 : (ARow (arcsR G)) (vs 11) W := hD 11 (by decide)
          have dq13 : (ARow (arcsR G)) (vs 13) W := hD 13 (by decide)
          clear hD
          try dsimp only at hK ⊢
          simp only [Act.put, List.setIfInBounds_toArray, List.set_cons_succ, List.set_cons_zero] at hK
          generalize vs 9 = vq9 at hK dq9 ⊢
          subst vq9
          generalize vs 11 = vq11 at hK dq11 ⊢
          generalize vs 13 = vq13 at hK dq13 ⊢
          obtain ⟨ax11, cx11, rfl, hx11⟩ := dq11
          obtain ⟨ax13, cx13, rfl, hx13⟩ := dq13
          go_wp2_with (go_at_call 25; refine (arcsSame_any W (arcsR G) _ _ _ _ _ rfl hal hx11 hx13).mono ?_; rintro e' w' ⟨rfl, hm'⟩)
          exact hK _ _ rfl hm'
        refine opsOkA_cons ?_ ?_
        · intro K vs W hR hD hK
          have dq9 : vs 9 = .bool true := hD 9 (by decide)
          have dq14 : vs 14 = .bool true := hD 14 (by decide)
          clear hD
          try dsimp only at hK ⊢
          simp only [Act.put, List.setIfInBounds_toArray, List.set_cons_succ, List.set_cons_zero] at hK
          generalize vs 9 = vq9 at hK dq9 ⊢
          subst vq9
          generalize vs 14 = vq14 at hK dq14 ⊢
          subst vq14
          go_wp2
          exact hK _ _ rfl (Mod.refl _ _)
        refine opsOkA_cons ?_ ?_
        · intro K vs W hR hD hK
          have dq15 : vs 15 = .bool true := hD 15 (by decide)
          clear hD
          try dsimp only at hK ⊢
          simp only [Act.put, List.setIfInBounds_toArray, List.set_cons_succ, List.set_cons_zero] at hK
          generalize vs 15 = vq15 at hK dq15 ⊢
          subst vq15
          go_wp2
          exact hK _ _ rfl (Mod.refl _ _)
        refine opsOkA_cons ?_ ?_
        · intro K vs W hR hD hK
          have dq16 : vs 16 = .bool true := hD 16 (by decide)
          clear hD
          try dsimp only at hK ⊢
          simp only [Act.put, List.setIfInBounds_toArray, List.set_cons_succ, List.set_cons_zero] at hK
          generalize vs 16 = vq16 at hK dq16 ⊢
          subst vq16
          go_wp2_with (go_at_call 16; refine (awake7_any W).mono ?_; rintro e' w' ⟨rfl, hm'⟩)
          exact hK _ _ rfl hm'
        refine opsOkA_cons ?_ ?_
        · intro K vs W hR hD hK
          have dq16 : vs 16 = .bool true := hD 16 (by decide)
          have dq17 : vs 17 = .bool true := hD 17 (by decide)
          clear hD
          try dsimp only at hK ⊢
          simp only [Act.put, List.setIfInBounds_toArray, List.set_cons_succ, List.set_cons_zero] at hK
          generalize vs 16 = vq16 at hK dq16 ⊢
          subst vq16
          generalize vs 17 = vq17 at hK dq17 ⊢
          subst vq17
          go_wp2
          exact hK _ _ rfl (Mod.refl _ _)
        refine opsOkA_cons ?_ ?_
        · intro K vs W hR hD hK
          have dq18 : vs 18 = .bool true := hD 18 (by decide)
          clear hD
          try dsimp only at hK ⊢
          simp only [Act.put, List.setIfInBounds_toArray, List.set_cons_succ, List.set_cons_zero] at hK
          generalize vs 18 = vq18 at hK dq18 ⊢
          subst vq18
          go_wp2
          exact hK _ _ rfl (Mod.refl _ _)
        exact opsOkA_nil
      · intro vs wq5 hR hF
        have dq19 : vs 19 = .bool true := hF 19 (by decide)
        clear hF
        try dsimp only
        generalize vs 19 = vq19 at dq19 ⊢
        subst dq19
        replace HS := Lib.hid (HSd.out.step hR)
        clear HSd hR
        have hbbg := (HS.out.now).2.1
        have qbg_0 := hbbg.cell 0 rfl
        have qbg_1 := hbbg.cell 1 rfl
        have qbg_2 := hbbg.cell 2 rfl
        have lbg := hbbg.lt
        clear hbbg
        go_wp2_with fail
        go_ret
        exact ⟨rfl, (HS.out.now).2.2.2.2.2⟩
theorem ttell_law (w : World) (a0 : Option Addr) (m c0 : Nat) (l : List Int) (ok : (encSlice (encInt .i64)).ok w (.slice a0 m c0, l)) (va : Int) (_ : (Lit.int .i64 va).wf = true) (vb : Int) (_ : (Lit.int .i64 vb).wf = true) :
    Calls Try.prog 3 #[.slice a0 m c0, .int .i64 va, .int .i64 vb] w fun e w' => e = .returned (.bool true) ∧ Below w.heap.size w w' := by
  obtain ⟨hn, hr, _⟩ := ok_ints ok
  exact (ttell_all w a0 m c0 l hn hr va vb).mono fun e w' h => ⟨h.1, h.2.below (Nat.le_refl _) (fun _ e => e.elim)⟩
end Go.Proofs.Ytoffedbbphiimaa
