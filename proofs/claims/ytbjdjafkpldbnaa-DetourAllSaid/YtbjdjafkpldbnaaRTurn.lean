/- turns.May by contract; milepostref4's Turn, Next, Prev by contract. -/
import Derived.Test.YtbjdjafkpldbnaaTurns
import Derived.Test.YtbjdjafkpldbnaaR4
import Derived.Deep.DeepCutAuto
import Derived.Deep.CutBlock
namespace Go.Proofs.Ytbjdjafkpldbnaa
open Go.RowKit Mile
set_option maxRecDepth 100000
/-- What each operation of the statement leaves. -/
def rt_r1_0_F (_ n1 d1 n2 d2 n3 d3 : Nat) (va _ : Int) (a1 a2 a3 : Option Addr) : List (Value → World → Prop) :=
  [IsV (.agg #[.slice a1 n1 d1, .slice a2 n2 d2, .slice a3 n3 d3]),
   IsV (.int .i64 va),
   IsV (.bool false),
   IsV (.bool false),
   IsV (undef),
   IsV (undef),
   IsV (undef),
   IsV (.bool false),
   IsV (.bool false),
   IsV (undef),
   IsV (undef),
   IsV (undef),
   IsV (undef),
   IsV (undef),
   IsV (undef),
   IsV (undef),
   IsV (undef),
   IsV (undef),
   IsV (undef),
   IsV (undef),
   IsV (undef),
   IsV (undef),
   IsV (.bool false),
   IsV (.bool false),
   IsV (undef),
   IsV (undef),
   IsV (undef),
   IsV (undef),
   IsV (undef),
   IsV (.bool false),
   IsV (.bool false)]
def rt_r1_0_D : List (List Nat) := [[], [], [0, 1], [2], [3], [3], [3], [3, 6], [7], [8], [8], [8], [8], [8], [8], [8], [8], [8], [8], [8], [8], [8], [8, 21], [22], [23], [23], [23], [23], [23], [23, 28], [29]]

/-- What each operation of the statement leaves. -/
def rt_r1_1_F (_ n1 d1 n2 d2 n3 d3 : Nat) (va vb : Int) (a1 a2 a3 : Option Addr) : List (Value → World → Prop) :=
  [IsV (.agg #[.slice a1 n1 d1, .slice a2 n2 d2, .slice a3 n3 d3]),
   IsV (.int .i64 va),
   IsV (.bool true),
   IsV (.bool true),
   IsV (.agg #[.slice a1 n1 d1, .slice a2 n2 d2, .slice a3 n3 d3]),
   IsV (.int .i64 vb),
   IsV (.bool false),
   IsV (.bool false),
   IsV (.bool false),
   IsV (undef),
   IsV (undef),
   IsV (undef),
   IsV (undef),
   IsV (undef),
   IsV (undef),
   IsV (undef),
   IsV (undef),
   IsV (undef),
   IsV (undef),
   IsV (undef),
   IsV (undef),
   IsV (undef),
   IsV (.bool false),
   IsV (.bool false),
   IsV (undef),
   IsV (undef),
   IsV (undef),
   IsV (undef),
   IsV (undef),
   IsV (.bool false),
   IsV (.bool false)]
def rt_r1_1_D : List (List Nat) := [[], [], [0, 1], [2], [3], [3], [3, 4, 5], [3, 6], [7], [8], [8], [8], [8], [8], [8], [8], [8], [8], [8], [8], [8], [8], [8, 21], [22], [23], [23], [23], [23], [23], [23, 28], [29]]

/-- What each operation of the statement leaves. -/
def rt_r1_2_F (bx ab ao bb bo ka kb n1 d1 n2 d2 n3 d3 : Nat) (ya xb : Int) (_ : Bool) (a1 a2 a3 : Option Addr) : List (Value → World → Prop) :=
  [IsV (.agg #[.slice a1 n1 d1, .slice a2 n2 d2, .slice a3 n3 d3]),
   IsV (.int .i64 (ka : Int)),
   IsV (.bool true),
   IsV (.bool true),
   IsV (.agg #[.slice a1 n1 d1, .slice a2 n2 d2, .slice a3 n3 d3]),
   IsV (.int .i64 (kb : Int)),
   IsV (.bool true),
   IsV (.bool true),
   IsV (.bool true),
   IsV (.pointer (some ⟨bx, 1, none⟩)),
   IsV (.slice a2 n2 d2),
   IsV (.int .i64 (ka : Int)),
   IsV (.pointer (some ⟨ab, ao, none⟩)),
   IsV (.pointer (some ⟨ab, ao + 1, none⟩)),
   IsV (.int .i64 ya),
   IsV (.pointer (some ⟨bx, 1, none⟩)),
   IsV (.slice a2 n2 d2),
   IsV (.int .i64 (kb : Int)),
   IsV (.pointer (some ⟨bb, bo, none⟩)),
   IsV (.pointer (some ⟨bb, bo, none⟩)),
   IsV (.int .i64 xb),
   IsV (.bool false),
   IsV (.bool false),
   IsV (.bool false),
   IsV (undef),
   IsV (undef),
   IsV (undef),
   IsV (undef),
   IsV (undef),
   IsV (.bool false),
   IsV (.bool false)]
def rt_r1_2_D : List (List Nat) := [[], [], [0, 1], [2], [3], [3], [3, 4, 5], [3, 6], [7], [8], [8, 9], [8], [8, 10, 11], [8, 12], [8, 13], [8], [8, 15], [8], [8, 16, 17], [8, 18], [8, 19], [8, 14, 20], [8, 21], [22], [23], [23], [23], [23], [23], [23, 28], [29]]

/-- What each operation of the statement leaves. -/
def rt_r1_3_F (bx ab ao bb bo ka kb n1 d1 n2 d2 n3 d3 : Nat) (ya xb : Int) (bq : Bool) (a1 a2 a3 : Option Addr) : List (Value → World → Prop) :=
  [IsV (.agg #[.slice a1 n1 d1, .slice a2 n2 d2, .slice a3 n3 d3]),
   IsV (.int .i64 (ka : Int)),
   IsV (.bool true),
   IsV (.bool true),
   IsV (.agg #[.slice a1 n1 d1, .slice a2 n2 d2, .slice a3 n3 d3]),
   IsV (.int .i64 (kb : Int)),
   IsV (.bool true),
   IsV (.bool true),
   IsV (.bool true),
   IsV (.pointer (some ⟨bx, 1, none⟩)),
   IsV (.slice a2 n2 d2),
   IsV (.int .i64 (ka : Int)),
   IsV (.pointer (some ⟨ab, ao, none⟩)),
   IsV (.pointer (some ⟨ab, ao + 1, none⟩)),
   IsV (.int .i64 ya),
   IsV (.pointer (some ⟨bx, 1, none⟩)),
   IsV (.slice a2 n2 d2),
   IsV (.int .i64 (kb : Int)),
   IsV (.pointer (some ⟨bb, bo, none⟩)),
   IsV (.pointer (some ⟨bb, bo, none⟩)),
   IsV (.int .i64 xb),
   IsV (.bool true),
   IsV (.bool true),
   IsV (.bool true),
   IsV (.agg #[.slice a1 n1 d1, .slice a2 n2 d2, .slice a3 n3 d3]),
   IsV (.int .i64 (ka : Int)),
   IsV (.int .i64 (kb : Int)),
   IsV (.bool bq),
   IsV (.bool (!bq)),
   IsV (.bool (!bq)),
   IsV (.bool (!bq))]
def rt_r1_3_D : List (List Nat) := [[], [], [0, 1], [2], [3], [3], [3, 4, 5], [3, 6], [7], [8], [8, 9], [8], [8, 10, 11], [8, 12], [8, 13], [8], [8, 15], [8], [8, 16, 17], [8, 18], [8, 19], [8, 14, 20], [8, 21], [22], [23], [23], [23], [23, 24, 25, 26], [23, 27], [23, 28], [29]]

set_option maxHeartbeats 16000000 in
theorem r4turn_any (G : GD) (w : World) (a1 : Option Addr) (n1 d1 : Nat) (a2 : Option Addr) (n2 d2 : Nat) (a3 : Option Addr) (n3 d3 : Nat) (h : GV w a1 n1 d1 a2 n2 d2 a3 n3 d3 G) (q2 : n2 ≤ 100000) (q3 : n3 ≤ 100000) (va vb : Int) :
    Calls Try.prog 35 #[.agg #[.slice a1 n1 d1, .slice a2 n2 d2, .slice a3 n3 d3], .int .i64 va, .int .i64 vb] w fun e w' => e = .returned (.bool (turnB G va vb)) ∧ Mod (fun _ => False) w w' := by
  obtain ⟨iE, hiE, hzE, hsE, hbE⟩ := info_parts GR.infoE
  have he := Lib.hid h.e
  have HS : Hid (Ev (Mod (fun _ => False) w) w) := Lib.hid (Ev.mod w)
  replace HS := Lib.hid ((Ev.gv h).and HS.out)
  by_cases hA : 0 ≤ va ∧ va < (G.E.length : Int)
  case neg =>
    rw [turnB_no1 G va vb hA]
    have HA := Lib.hid hA
    clear hA
    go_enter Try.func35, Try.ntmps35
    go_upto_region 1 with fail
    obtain ⟨bx, hbx⟩ : ∃ b, w.heap.size = b := ⟨_, rfl⟩
    obtain ⟨wq1, hwq1⟩ : ∃ W, World.alloc w (.cells #[.slice a1 n1 d1, .slice a2 n2 d2, .slice a3 n3 d3] 28) = W := ⟨_, rfl⟩
    have hBbx : Blk wq1 bx 28 [.slice a1 n1 d1, .slice a2 n2 d2, .slice a3 n3 d3] := by rw [← hwq1, ← hbx]; exact Blk.new _ 28 [.slice a1 n1 d1, .slice a2 n2 d2, .slice a3 n3 d3]
    have hzbx : wq1.heap.size = bx + 1 := by rw [← hwq1, ← hbx]; exact heap_size_alloc _ _
    replace HS := Lib.hid (HS.out.step (w' := wq1) (by rw [← hwq1]; exact Mod.alloc _ _ _))
    replace HS := Lib.hid ((Ev.blk hBbx).and HS.out)
    try rw [hwq1]
    try rw [hbx]
    clear hzbx hBbx hbx hwq1
    go_upto_region 1 with fail
    have HSd := Lib.hid HS.out.drew
    refine wp_region_inv3 (act := ?actrt_r1_0) (Mod (fun _ => False)) (fun i => (rt_r1_0_F bx n1 d1 n2 d2 n3 d3 va vb a1 a2 a3).getD i (fun _ _ => True)) (fun i => rt_r1_0_D.getD i []) (by kernel_rfl) (by kernel_rfl) (by kernel_rfl) (by kernel_rfl) (fun _ => Mod.refl _ _)
      (fun _ _ _ h k => h.trans k (fun _ _ e => e) (fun _ _ e => e)) ?hactrt_r1_0 (stable_list ?_) ?_ ?_
    case hactrt_r1_0 => intro vs; simp only [putAll, Nat.zero_add, Nat.reduceAdd, Act.put, List.setIfInBounds_toArray, List.set_cons_succ, List.set_cons_zero]; exact rfl
    · unfold rt_r1_0_F
      exact stable_cons (stable_val _) <| stable_cons (stable_val _) <| stable_cons (stable_val _) <| stable_cons (stable_val _) <| stable_cons (stable_val _) <| stable_cons (stable_val _) <| stable_cons (stable_val _) <| stable_cons (stable_val _) <| stable_cons (stable_val _) <| stable_cons (stable_val _) <| stable_cons (stable_val _) <| stable_cons (stable_val _) <| stable_cons (stable_val _) <| stable_cons (stable_val _) <| stable_cons (stable_val _) <| stable_cons (stable_val _) <| stable_cons (stable_val _) <| stable_cons (stable_val _) <| stable_cons (stable_val _) <| stable_cons (stable_val _) <| stable_cons (stable_val _) <| stable_cons (stable_val _) <| stable_cons (stable_val _) <| stable_cons (stable_val _) <| stable_cons (stable_val _) <| stable_cons (stable_val _) <| stable_cons (stable_val _) <| stable_cons (stable_val _) <| stable_cons (stable_val _) <| stable_cons (stable_val _) <| stable_cons (stable_val _) <| stable_nil
    · refine opsOkA_cons ?_ ?_
      · intro K vs W hR hD hK
        clear hD
        try dsimp only at hK ⊢
        simp only [Act.put, List.setIfInBounds_toArray, List.set_cons_succ, List.set_cons_zero] at hK
        have hbx := (HSd.out.at (hR)).1
        have q0 := hbx.cell 0 rfl
        have q1 := hbx.cell 1 rfl
        have q2 := hbx.cell 2 rfl
        go_wp2
        exact hK _ _ rfl (Mod.refl _ _)
      refine opsOkA_cons ?_ ?_
      · intro K vs W hR hD hK
        clear hD
        try dsimp only at hK ⊢
        simp only [Act.put, List.setIfInBounds_toArray, List.set_cons_succ, List.set_cons_zero] at hK
        go_wp2
        exact hK _ _ rfl (Mod.refl _ _)
      refine opsOkA_cons ?_ ?_
      · intro K vs W hR hD hK
        have dq0 : vs 0 = .agg #[.slice a1 n1 d1, .slice a2 n2 d2, .slice a3 n3 d3] := hD 0 (by decide)
        have dq1 : vs 1 = .int .i64 va := hD 1 (by decide)
        clear hD
        try dsimp only at hK ⊢
        simp only [Act.put, List.setIfInBounds_toArray, List.set_cons_succ, List.set_cons_zero] at hK
        generalize vs 0 = vq0 at hK dq0 ⊢
        subst vq0
        generalize vs 1 = vq1 at hK dq1 ⊢
        subst vq1
        go_wp2_with (go_at_call 17; refine (r4edge_any G W a1 n1 d1 a2 n2 d2 a3 n3 d3 ((HSd.out.at (hR)).2.1) (by omega) va).mono ?_; rintro e' w' ⟨rfl, hm'⟩; rw [decide_eq_false HA.out])
        exact hK _ _ rfl hm'
      refine opsOkA_cons ?_ ?_
      · intro K vs W hR hD hK
        have dq2 : vs 2 = .bool false := hD 2 (by decide)
        clear hD
        try dsimp only at hK ⊢
        simp only [Act.put, List.setIfInBounds_toArray, List.set_cons_succ, List.set_cons_zero] at hK
        generalize vs 2 = vq2 at hK dq2 ⊢
        subst vq2
        go_wp2
        exact hK _ _ rfl (Mod.refl _ _)
      refine opsOkA_cons ?_ ?_
      · intro K vs W hR hD hK
        have dq3 : vs 3 = .bool false := hD 3 (by decide)
        clear hD
        try dsimp only at hK ⊢
        simp only [Act.put, List.setIfInBounds_toArray, List.set_cons_succ, List.set_cons_zero] at hK
        generalize vs 3 = vq3 at hK dq3 ⊢
        subst vq3
        go_wp2
        exact hK _ _ rfl (Mod.refl _ _)
      refine opsOkA_cons ?_ ?_
      · intro K vs W hR hD hK
        have dq3 : vs 3 = .bool false := hD 3 (by decide)
        clear hD
        try dsimp only at hK ⊢
        simp only [Act.put, List.setIfInBounds_toArray, List.set_cons_succ, List.set_cons_zero] at hK
        generalize vs 3 = vq3 at hK dq3 ⊢
        subst vq3
        go_wp2
        exact hK _ _ rfl (Mod.refl _ _)
      refine opsOkA_cons ?_ ?_
      · intro K vs W hR hD hK
        have dq3 : vs 3 = .bool false := hD 3 (by decide)
        clear hD
        try dsimp only at hK ⊢
        simp only [Act.put, List.setIfInBounds_toArray, List.set_cons_succ, List.set_cons_zero] at hK
        generalize vs 3 = vq3 at hK dq3 ⊢
        subst vq3
        go_wp2_with fail
        exact hK _ _ rfl (Mod.refl _ _)
      refine opsOkA_cons ?_ ?_
      · intro K vs W hR hD hK
        have dq3 : vs 3 = .bool false := hD 3 (by decide)
        have dq6 : vs 6 = undef := hD 6 (by decide)
        clear hD
        try dsimp only at hK ⊢
        simp only [Act.put, List.setIfInBounds_toArray, List.set_cons_succ, List.set_cons_zero] at hK
        generalize vs 3 = vq3 at hK dq3 ⊢
        subst vq3
        generalize vs 6 = vq6 at hK dq6 ⊢
        subst vq6
        go_wp2
        exact hK _ _ rfl (Mod.refl _ _)
      refine opsOkA_cons ?_ ?_
      · intro K vs W hR hD hK
        have dq7 : vs 7 = .bool false := hD 7 (by decide)
        clear hD
        try dsimp only at hK ⊢
        simp only [Act.put, List.setIfInBounds_toArray, List.set_cons_succ, List.set_cons_zero] at hK
        generalize vs 7 = vq7 at hK dq7 ⊢
        subst vq7
        go_wp2
        exact hK _ _ rfl (Mod.refl _ _)
      refine opsOkA_cons ?_ ?_
      · intro K vs W hR hD hK
        have dq8 : vs 8 = .bool false := hD 8 (by decide)
        clear hD
        try dsimp only at hK ⊢
        simp only [Act.put, List.setIfInBounds_toArray, List.set_cons_succ, List.set_cons_zero] at hK
        generalize vs 8 = vq8 at hK dq8 ⊢
        subst vq8
        go_wp2
        exact hK _ _ rfl (Mod.refl _ _)
      refine opsOkA_cons ?_ ?_
      · intro K vs W hR hD hK
        have dq8 : vs 8 = .bool false := hD 8 (by decide)
        clear hD
        try dsimp only at hK ⊢
        simp only [Act.put, List.setIfInBounds_toArray, List.set_cons_succ, List.set_cons_zero] at hK
        generalize vs 8 = vq8 at hK dq8 ⊢
        subst vq8
        go_wp2
        exact hK _ _ rfl (Mod.refl _ _)
      refine opsOkA_cons ?_ ?_
      · intro K vs W hR hD hK
        have dq8 : vs 8 = .bool false := hD 8 (by decide)
        clear hD
        try dsimp only at hK ⊢
        simp only [Act.put, List.setIfInBounds_toArray, List.set_cons_succ, List.set_cons_zero] at hK
        generalize vs 8 = vq8 at hK dq8 ⊢
        subst vq8
        go_wp2
        exact hK _ _ rfl (Mod.refl _ _)
      refine opsOkA_cons ?_ ?_
      · intro K vs W hR hD hK
        have dq8 : vs 8 = .bool false := hD 8 (by decide)
        clear hD
        try dsimp only at hK ⊢
        simp only [Act.put, List.setIfInBounds_toArray, List.set_cons_succ, List.set_cons_zero] at hK
        generalize vs 8 = vq8 at hK dq8 ⊢
        subst vq8
        go_wp2_with fail
        exact hK _ _ rfl (Mod.refl _ _)
      refine opsOkA_cons ?_ ?_
      · intro K vs W hR hD hK
        have dq8 : vs 8 = .bool false := hD 8 (by decide)
        clear hD
        try dsimp only at hK ⊢
        simp only [Act.put, List.setIfInBounds_toArray, List.set_cons_succ, List.set_cons_zero] at hK
        generalize vs 8 = vq8 at hK dq8 ⊢
        subst vq8
        go_wp2
        exact hK _ _ rfl (Mod.refl _ _)
      refine opsOkA_cons ?_ ?_
      · intro K vs W hR hD hK
        have dq8 : vs 8 = .bool false := hD 8 (by decide)
        clear hD
        try dsimp only at hK ⊢
        simp only [Act.put, List.setIfInBounds_toArray, List.set_cons_succ, List.set_cons_zero] at hK
        generalize vs 8 = vq8 at hK dq8 ⊢
        subst vq8
        go_wp2
        exact hK _ _ rfl (Mod.refl _ _)
      refine opsOkA_cons ?_ ?_
      · intro K vs W hR hD hK
        have dq8 : vs 8 = .bool false := hD 8 (by decide)
        clear hD
        try dsimp only at hK ⊢
        simp only [Act.put, List.setIfInBounds_toArray, List.set_cons_succ, List.set_cons_zero] at hK
        generalize vs 8 = vq8 at hK dq8 ⊢
        subst vq8
        go_wp2
        exact hK _ _ rfl (Mod.refl _ _)
      refine opsOkA_cons ?_ ?_
      · intro K vs W hR hD hK
        have dq8 : vs 8 = .bool false := hD 8 (by decide)
        clear hD
        try dsimp only at hK ⊢
        simp only [Act.put, List.setIfInBounds_toArray, List.set_cons_succ, List.set_cons_zero] at hK
        generalize vs 8 = vq8 at hK dq8 ⊢
        subst vq8
        go_wp2
        exact hK _ _ rfl (Mod.refl _ _)
      refine opsOkA_cons ?_ ?_
      · intro K vs W hR hD hK
        have dq8 : vs 8 = .bool false := hD 8 (by decide)
        clear hD
        try dsimp only at hK ⊢
        simp only [Act.put, List.setIfInBounds_toArray, List.set_cons_succ, List.set_cons_zero] at hK
        generalize vs 8 = vq8 at hK dq8 ⊢
        subst vq8
        go_wp2
        exact hK _ _ rfl (Mod.refl _ _)
      refine opsOkA_cons ?_ ?_
      · intro K vs W hR hD hK
        have dq8 : vs 8 = .bool false := hD 8 (by decide)
        clear hD
        try dsimp only at hK ⊢
        simp only [Act.put, List.setIfInBounds_toArray, List.set_cons_succ, List.set_cons_zero] at hK
        generalize vs 8 = vq8 at hK dq8 ⊢
        subst vq8
        go_wp2_with fail
        exact hK _ _ rfl (Mod.refl _ _)
      refine opsOkA_cons ?_ ?_
      · intro K vs W hR hD hK
        have dq8 : vs 8 = .bool false := hD 8 (by decide)
        clear hD
        try dsimp only at hK ⊢
        simp only [Act.put, List.setIfInBounds_toArray, List.set_cons_succ, List.set_cons_zero] at hK
        generalize vs 8 = vq8 at hK dq8 ⊢
        subst vq8
        go_wp2
        exact hK _ _ rfl (Mod.refl _ _)
      refine opsOkA_cons ?_ ?_
      · intro K vs W hR hD hK
        have dq8 : vs 8 = .bool false := hD 8 (by decide)
        clear hD
        try dsimp only at hK ⊢
        simp only [Act.put, List.setIfInBounds_toArray, List.set_cons_succ, List.set_cons_zero] at hK
        generalize vs 8 = vq8 at hK dq8 ⊢
        subst vq8
        go_wp2
        exact hK _ _ rfl (Mod.refl _ _)
      refine opsOkA_cons ?_ ?_
      · intro K vs W hR hD hK
        have dq8 : vs 8 = .bool false := hD 8 (by decide)
        clear hD
        try dsimp only at hK ⊢
        simp only [Act.put, List.setIfInBounds_toArray, List.set_cons_succ, List.set_cons_zero] at hK
        generalize vs 8 = vq8 at hK dq8 ⊢
        subst vq8
        go_wp2
        exact hK _ _ rfl (Mod.refl _ _)
      refine opsOkA_cons ?_ ?_
      · intro K vs W hR hD hK
        have dq8 : vs 8 = .bool false := hD 8 (by decide)
        have dq21 : vs 21 = undef := hD 21 (by decide)
        clear hD
        try dsimp only at hK ⊢
        simp only [Act.put, List.setIfInBounds_toArray, List.set_cons_succ, List.set_cons_zero] at hK
        generalize vs 8 = vq8 at hK dq8 ⊢
        subst vq8
        generalize vs 21 = vq21 at hK dq21 ⊢
        subst vq21
        go_wp2
        exact hK _ _ rfl (Mod.refl _ _)
      refine opsOkA_cons ?_ ?_
      · intro K vs W hR hD hK
        have dq22 : vs 22 = .bool false := hD 22 (by decide)
        clear hD
        try dsimp only at hK ⊢
        simp only [Act.put, List.setIfInBounds_toArray, List.set_cons_succ, List.set_cons_zero] at hK
        generalize vs 22 = vq22 at hK dq22 ⊢
        subst vq22
        go_wp2
        exact hK _ _ rfl (Mod.refl _ _)
      refine opsOkA_cons ?_ ?_
      · intro K vs W hR hD hK
        have dq23 : vs 23 = .bool false := hD 23 (by decide)
        clear hD
        try dsimp only at hK ⊢
        simp only [Act.put, List.setIfInBounds_toArray, List.set_cons_succ, List.set_cons_zero] at hK
        generalize vs 23 = vq23 at hK dq23 ⊢
        subst vq23
        go_wp2
        exact hK _ _ rfl (Mod.refl _ _)
      refine opsOkA_cons ?_ ?_
      · intro K vs W hR hD hK
        have dq23 : vs 23 = .bool false := hD 23 (by decide)
        clear hD
        try dsimp only at hK ⊢
        simp only [Act.put, List.setIfInBounds_toArray, List.set_cons_succ, List.set_cons_zero] at hK
        generalize vs 23 = vq23 at hK dq23 ⊢
        subst vq23
        go_wp2
        exact hK _ _ rfl (Mod.refl _ _)
      refine opsOkA_cons ?_ ?_
      · intro K vs W hR hD hK
        have dq23 : vs 23 = .bool false := hD 23 (by decide)
        clear hD
        try dsimp only at hK ⊢
        simp only [Act.put, List.setIfInBounds_toArray, List.set_cons_succ, List.set_cons_zero] at hK
        generalize vs 23 = vq23 at hK dq23 ⊢
        subst vq23
        go_wp2
        exact hK _ _ rfl (Mod.refl _ _)
      refine opsOkA_cons ?_ ?_
      · intro K vs W hR hD hK
        have dq23 : vs 23 = .bool false := hD 23 (by decide)
        clear hD
        try dsimp only at hK ⊢
        simp only [Act.put, List.setIfInBounds_toArray, List.set_cons_succ, List.set_cons_zero] at hK
        generalize vs 23 = vq23 at hK dq23 ⊢
        subst vq23
        go_wp2_with fail
        exact hK _ _ rfl (Mod.refl _ _)
      refine opsOkA_cons ?_ ?_
      · intro K vs W hR hD hK
        have dq23 : vs 23 = .bool false := hD 23 (by decide)
        clear hD
        try dsimp only at hK ⊢
        simp only [Act.put, List.setIfInBounds_toArray, List.set_cons_succ, List.set_cons_zero] at hK
        generalize vs 23 = vq23 at hK dq23 ⊢
        subst vq23
        go_wp2
        exact hK _ _ rfl (Mod.refl _ _)
      refine opsOkA_cons ?_ ?_
      · intro K vs W hR hD hK
        have dq23 : vs 23 = .bool false := hD 23 (by decide)
        have dq28 : vs 28 = undef := hD 28 (by decide)
        clear hD
        try dsimp only at hK ⊢
        simp only [Act.put, List.setIfInBounds_toArray, List.set_cons_succ, List.set_cons_zero] at hK
        generalize vs 23 = vq23 at hK dq23 ⊢
        subst vq23
        generalize vs 28 = vq28 at hK dq28 ⊢
        subst vq28
        go_wp2
        exact hK _ _ rfl (Mod.refl _ _)
      refine opsOkA_cons ?_ ?_
      · intro K vs W hR hD hK
        have dq29 : vs 29 = .bool false := hD 29 (by decide)
        clear hD
        try dsimp only at hK ⊢
        simp only [Act.put, List.setIfInBounds_toArray, List.set_cons_succ, List.set_cons_zero] at hK
        generalize vs 29 = vq29 at hK dq29 ⊢
        subst vq29
        go_wp2
        exact hK _ _ rfl (Mod.refl _ _)
      exact opsOkA_nil
    · intro vs wq2 hR hF
      have dq30 : vs 30 = .bool false := hF 30 (by decide)
      clear hF
      try dsimp only
      generalize vs 30 = vq30 at dq30 ⊢
      subst dq30
      replace HS := Lib.hid (HSd.out.step hR)
      clear HSd hR
      have hbbx := (HS.out.now).1
      have qbx_0 := hbbx.cell 0 rfl
      have qbx_1 := hbbx.cell 1 rfl
      have qbx_2 := hbbx.cell 2 rfl
      have lbx := hbbx.lt
      clear hbbx
      go_wp2_with fail
      go_ret
      exact ⟨rfl, (HS.out.now).2.2⟩
  by_cases hB : 0 ≤ vb ∧ vb < (G.E.length : Int)
  case neg =>
    rw [turnB_no2 G va vb hB]
    have HA := Lib.hid hA
    have HB := Lib.hid hB
    clear hA hB
    go_enter Try.func35, Try.ntmps35
    go_upto_region 1 with fail
    obtain ⟨bx, hbx⟩ : ∃ b, w.heap.size = b := ⟨_, rfl⟩
    obtain ⟨wq3, hwq3⟩ : ∃ W, World.alloc w (.cells #[.slice a1 n1 d1, .slice a2 n2 d2, .slice a3 n3 d3] 28) = W := ⟨_, rfl⟩
    have hBbx : Blk wq3 bx 28 [.slice a1 n1 d1, .slice a2 n2 d2, .slice a3 n3 d3] := by rw [← hwq3, ← hbx]; exact Blk.new _ 28 [.slice a1 n1 d1, .slice a2 n2 d2, .slice a3 n3 d3]
    have hzbx : wq3.heap.size = bx + 1 := by rw [← hwq3, ← hbx]; exact heap_size_alloc _ _
    replace HS := Lib.hid (HS.out.step (w' := wq3) (by rw [← hwq3]; exact Mod.alloc _ _ _))
    replace HS := Lib.hid ((Ev.blk hBbx).and HS.out)
    try rw [hwq3]
    try rw [hbx]
    clear hzbx hBbx hbx hwq3
    go_upto_region 1 with fail
    have HSd := Lib.hid HS.out.drew
    refine wp_region_inv3 (act := ?actrt_r1_1) (Mod (fun _ => False)) (fun i => (rt_r1_1_F bx n1 d1 n2 d2 n3 d3 va vb a1 a2 a3).getD i (fun _ _ => True)) (fun i => rt_r1_1_D.getD i []) (by kernel_rfl) (by kernel_rfl) (by kernel_rfl) (by kernel_rfl) (fun _ => Mod.refl _ _)
      (fun _ _ _ h k => h.trans k (fun _ _ e => e) (fun _ _ e => e)) ?hactrt_r1_1 (stable_list ?_) ?_ ?_
    case hactrt_r1_1 => intro vs; simp only [putAll, Nat.zero_add, Nat.reduceAdd, Act.put, List.setIfInBounds_toArray, List.set_cons_succ, List.set_cons_zero]; exact rfl
    · unfold rt_r1_1_F
      exact stable_cons (stable_val _) <| stable_cons (stable_val _) <| stable_cons (stable_val _) <| stable_cons (stable_val _) <| stable_cons (stable_val _) <| stable_cons (stable_val _) <| stable_cons (stable_val _) <| stable_cons (stable_val _) <| stable_cons (stable_val _) <| stable_cons (stable_val _) <| stable_cons (stable_val _) <| stable_cons (stable_val _) <| stable_cons (stable_val _) <| stable_cons (stable_val _) <| stable_cons (stable_val _) <| stable_cons (stable_val _) <| stable_cons (stable_val _) <| stable_cons (stable_val _) <| stable_cons (stable_val _) <| stable_cons (stable_val _) <| stable_cons (stable_val _) <| stable_cons (stable_val _) <| stable_cons (stable_val _) <| stable_cons (stable_val _) <| stable_cons (stable_val _) <| stable_cons (stable_val _) <| stable_cons (stable_val _) <| stable_cons (stable_val _) <| stable_cons (stable_val _) <| stable_cons (stable_val _) <| stable_cons (stable_val _) <| stable_nil
    · refine opsOkA_cons ?_ ?_
      · intro K vs W hR hD hK
        clear hD
        try dsimp only at hK ⊢
        simp only [Act.put, List.setIfInBounds_toArray, List.set_cons_succ, List.set_cons_zero] at hK
        have hbx := (HSd.out.at (hR)).1
        have q0 := hbx.cell 0 rfl
        have q1 := hbx.cell 1 rfl
        have q2 := hbx.cell 2 rfl
        go_wp2
        exact hK _ _ rfl (Mod.refl _ _)
      refine opsOkA_cons ?_ ?_
      · intro K vs W hR hD hK
        clear hD
        try dsimp only at hK ⊢
        simp only [Act.put, List.setIfInBounds_toArray, List.set_cons_succ, List.set_cons_zero] at hK
        go_wp2
        exact hK _ _ rfl (Mod.refl _ _)
      refine opsOkA_cons ?_ ?_
      · intro K vs W hR hD hK
        have dq0 : vs 0 = .agg #[.slice a1 n1 d1, .slice a2 n2 d2, .slice a3 n3 d3] := hD 0 (by decide)
        have dq1 : vs 1 = .int .i64 va := hD 1 (by decide)
        clear hD
        try dsimp only at hK ⊢
        simp only [Act.put, List.setIfInBounds_toArray, List.set_cons_succ, List.set_cons_zero] at hK
        generalize vs 0 = vq0 at hK dq0 ⊢
        subst vq0
        generalize vs 1 = vq1 at hK dq1 ⊢
        subst vq1
        go_wp2_with (go_at_call 17; refine (r4edge_any G W a1 n1 d1 a2 n2 d2 a3 n3 d3 ((HSd.out.at (hR)).2.1) (by omega) va).mono ?_; rintro e' w' ⟨rfl, hm'⟩; rw [decide_eq_true HA.out])
        exact hK _ _ rfl hm'
      refine opsOkA_cons ?_ ?_
      · intro K vs W hR hD hK
        have dq2 : vs 2 = .bool true := hD 2 (by decide)
        clear hD
        try dsimp only at hK ⊢
        simp only [Act.put, List.setIfInBounds_toArray, List.set_cons_succ, List.set_cons_zero] at hK
        generalize vs 2 = vq2 at hK dq2 ⊢
        subst vq2
        go_wp2
        exact hK _ _ rfl (Mod.refl _ _)
      refine opsOkA_cons ?_ ?_
      · intro K vs W hR hD hK
        have dq3 : vs 3 = .bool true := hD 3 (by decide)
        clear hD
        try dsimp only at hK ⊢
        simp only [Act.put, List.setIfInBounds_toArray, List.set_cons_succ, List.set_cons_zero] at hK
        generalize vs 3 = vq3 at hK dq3 ⊢
        subst vq3
        have hbx := (HSd.out.at (hR)).1
        have q0 := hbx.cell 0 rfl
        have q1 := hbx.cell 1 rfl
        have q2 := hbx.cell 2 rfl
        go_wp2
        exact hK _ _ rfl (Mod.refl _ _)
      refine opsOkA_cons ?_ ?_
      · intro K vs W hR hD hK
        have dq3 : vs 3 = .bool true := hD 3 (by decide)
        clear hD
        try dsimp only at hK ⊢
        simp only [Act.put, List.setIfInBounds_toArray, List.set_cons_succ, List.set_cons_zero] at hK
        generalize vs 3 = vq3 at hK dq3 ⊢
        subst vq3
        go_wp2
        exact hK _ _ rfl (Mod.refl _ _)
      refine opsOkA_cons ?_ ?_
      · intro K vs W hR hD hK
        have dq3 : vs 3 = .bool true := hD 3 (by decide)
        have dq4 : vs 4 = .agg #[.slice a1 n1 d1, .slice a2 n2 d2, .slice a3 n3 d3] := hD 4 (by decide)
        have dq5 : vs 5 = .int .i64 vb := hD 5 (by decide)
        clear hD
        try dsimp only at hK ⊢
        simp only [Act.put, List.setIfInBounds_toArray, List.set_cons_succ, List.set_cons_zero] at hK
        generalize vs 3 = vq3 at hK dq3 ⊢
        subst vq3
        generalize vs 4 = vq4 at hK dq4 ⊢
        subst vq4
        generalize vs 5 = vq5 at hK dq5 ⊢
        subst vq5
        go_wp2_with (go_at_call 17; refine (r4edge_any G W a1 n1 d1 a2 n2 d2 a3 n3 d3 ((HSd.out.at (hR)).2.1) (by omega) vb).mono ?_; rintro e' w' ⟨rfl, hm'⟩; rw [decide_eq_false HB.out])
        exact hK _ _ rfl hm'
      refine opsOkA_cons ?_ ?_
      · intro K vs W hR hD hK
        have dq3 : vs 3 = .bool true := hD 3 (by decide)
        have dq6 : vs 6 = .bool false := hD 6 (by decide)
        clear hD
        try dsimp only at hK ⊢
        simp only [Act.put, List.setIfInBounds_toArray, List.set_cons_succ, List.set_cons_zero] at hK
        generalize vs 3 = vq3 at hK dq3 ⊢
        subst vq3
        generalize vs 6 = vq6 at hK dq6 ⊢
        subst vq6
        go_wp2
        exact hK _ _ rfl (Mod.refl _ _)
      refine opsOkA_cons ?_ ?_
      · intro K vs W hR hD hK
        have dq7 : vs 7 = .bool false := hD 7 (by decide)
        clear hD
        try dsimp only at hK ⊢
        simp only [Act.put, List.setIfInBounds_toArray, List.set_cons_succ, List.set_cons_zero] at hK
        generalize vs 7 = vq7 at hK dq7 ⊢
        subst vq7
        go_wp2
        exact hK _ _ rfl (Mod.refl _ _)
      refine opsOkA_cons ?_ ?_
      · intro K vs W hR hD hK
        have dq8 : vs 8 = .bool false := hD 8 (by decide)
        clear hD
        try dsimp only at hK ⊢
        simp only [Act.put, List.setIfInBounds_toArray, List.set_cons_succ, List.set_cons_zero] at hK
        generalize vs 8 = vq8 at hK dq8 ⊢
        subst vq8
        go_wp2
        exact hK _ _ rfl (Mod.refl _ _)
      refine opsOkA_cons ?_ ?_
      · intro K vs W hR hD hK
        have dq8 : vs 8 = .bool false := hD 8 (by decide)
        clear hD
        try dsimp only at hK ⊢
        simp only [Act.put, List.setIfInBounds_toArray, List.set_cons_succ, List.set_cons_zero] at hK
        generalize vs 8 = vq8 at hK dq8 ⊢
        subst vq8
        go_wp2
        exact hK _ _ rfl (Mod.refl _ _)
      refine opsOkA_cons ?_ ?_
      · intro K vs W hR hD hK
        have dq8 : vs 8 = .bool false := hD 8 (by decide)
        clear hD
        try dsimp only at hK ⊢
        simp only [Act.put, List.setIfInBounds_toArray, List.set_cons_succ, List.set_cons_zero] at hK
        generalize vs 8 = vq8 at hK dq8 ⊢
        subst vq8
        go_wp2
        exact hK _ _ rfl (Mod.refl _ _)
      refine opsOkA_cons ?_ ?_
      · intro K vs W hR hD hK
        have dq8 : vs 8 = .bool false := hD 8 (by decide)
        clear hD
        try dsimp only at hK ⊢
        simp only [Act.put, List.setIfInBounds_toArray, List.set_cons_succ, List.set_cons_zero] at hK
        generalize vs 8 = vq8 at hK dq8 ⊢
        subst vq8
        go_wp2_with fail
        exact hK _ _ rfl (Mod.refl _ _)
      refine opsOkA_cons ?_ ?_
      · intro K vs W hR hD hK
        have dq8 : vs 8 = .bool false := hD 8 (by decide)
        clear hD
        try dsimp only at hK ⊢
        simp only [Act.put, List.setIfInBounds_toArray, List.set_cons_succ, List.set_cons_zero] at hK
        generalize vs 8 = vq8 at hK dq8 ⊢
        subst vq8
        go_wp2
        exact hK _ _ rfl (Mod.refl _ _)
      refine opsOkA_cons ?_ ?_
      · intro K vs W hR hD hK
        have dq8 : vs 8 = .bool false := hD 8 (by decide)
        clear hD
        try dsimp only at hK ⊢
        simp only [Act.put, List.setIfInBounds_toArray, List.set_cons_succ, List.set_cons_zero] at hK
        generalize vs 8 = vq8 at hK dq8 ⊢
        subst vq8
        go_wp2
        exact hK _ _ rfl (Mod.refl _ _)
      refine opsOkA_cons ?_ ?_
      · intro K vs W hR hD hK
        have dq8 : vs 8 = .bool false := hD 8 (by decide)
        clear hD
        try dsimp only at hK ⊢
        simp only [Act.put, List.setIfInBounds_toArray, List.set_cons_succ, List.set_cons_zero] at hK
        generalize vs 8 = vq8 at hK dq8 ⊢
        subst vq8
        go_wp2
        exact hK _ _ rfl (Mod.refl _ _)
      refine opsOkA_cons ?_ ?_
      · intro K vs W hR hD hK
        have dq8 : vs 8 = .bool false := hD 8 (by decide)
        clear hD
        try dsimp only at hK ⊢
        simp only [Act.put, List.setIfInBounds_toArray, List.set_cons_succ, List.set_cons_zero] at hK
        generalize vs 8 = vq8 at hK dq8 ⊢
        subst vq8
        go_wp2
        exact hK _ _ rfl (Mod.refl _ _)
      refine opsOkA_cons ?_ ?_
      · intro K vs W hR hD hK
        have dq8 : vs 8 = .bool false := hD 8 (by decide)
        clear hD
        try dsimp only at hK ⊢
        simp only [Act.put, List.setIfInBounds_toArray, List.set_cons_succ, List.set_cons_zero] at hK
        generalize vs 8 = vq8 at hK dq8 ⊢
        subst vq8
        go_wp2
        exact hK _ _ rfl (Mod.refl _ _)
      refine opsOkA_cons ?_ ?_
      · intro K vs W hR hD hK
        have dq8 : vs 8 = .bool false := hD 8 (by decide)
        clear hD
        try dsimp only at hK ⊢
        simp only [Act.put, List.setIfInBounds_toArray, List.set_cons_succ, List.set_cons_zero] at hK
        generalize vs 8 = vq8 at hK dq8 ⊢
        subst vq8
        go_wp2_with fail
        exact hK _ _ rfl (Mod.refl _ _)
      refine opsOkA_cons ?_ ?_
      · intro K vs W hR hD hK
        have dq8 : vs 8 = .bool false := hD 8 (by decide)
        clear hD
        try dsimp only at hK ⊢
        simp only [Act.put, List.setIfInBounds_toArray, List.set_cons_succ, List.set_cons_zero] at hK
        generalize vs 8 = vq8 at hK dq8 ⊢
        subst vq8
        go_wp2
        exact hK _ _ rfl (Mod.refl _ _)
      refine opsOkA_cons ?_ ?_
      · intro K vs W hR hD hK
        have dq8 : vs 8 = .bool false := hD 8 (by decide)
        clear hD
        try dsimp only at hK ⊢
        simp only [Act.put, List.setIfInBounds_toArray, List.set_cons_succ, List.set_cons_zero] at hK
        generalize vs 8 = vq8 at hK dq8 ⊢
        subst vq8
        go_wp2
        exact hK _ _ rfl (Mod.refl _ _)
      refine opsOkA_cons ?_ ?_
      · intro K vs W hR hD hK
        have dq8 : vs 8 = .bool false := hD 8 (by decide)
        clear hD
        try dsimp only at hK ⊢
        simp only [Act.put, List.setIfInBounds_toArray, List.set_cons_succ, List.set_cons_zero] at hK
        generalize vs 8 = vq8 at hK dq8 ⊢
        subst vq8
        go_wp2
        exact hK _ _ rfl (Mod.refl _ _)
      refine opsOkA_cons ?_ ?_
      · intro K vs W hR hD hK
        have dq8 : vs 8 = .bool false := hD 8 (by decide)
        have dq21 : vs 21 = undef := hD 21 (by decide)
        clear hD
        try dsimp only at hK ⊢
        simp only [Act.put, List.setIfInBounds_toArray, List.set_cons_succ, List.set_cons_zero] at hK
        generalize vs 8 = vq8 at hK dq8 ⊢
        subst vq8
        generalize vs 21 = vq21 at hK dq21 ⊢
        subst vq21
        go_wp2
        exact hK _ _ rfl (Mod.refl _ _)
      refine opsOkA_cons ?_ ?_
      · intro K vs W hR hD hK
        have dq22 : vs 22 = .bool false := hD 22 (by decide)
        clear hD
        try dsimp only at hK ⊢
        simp only [Act.put, List.setIfInBounds_toArray, List.set_cons_succ, List.set_cons_zero] at hK
        generalize vs 22 = vq22 at hK dq22 ⊢
        subst vq22
        go_wp2
        exact hK _ _ rfl (Mod.refl _ _)
      refine opsOkA_cons ?_ ?_
      · intro K vs W hR hD hK
        have dq23 : vs 23 = .bool false := hD 23 (by decide)
        clear hD
        try dsimp only at hK ⊢
        simp only [Act.put, List.setIfInBounds_toArray, List.set_cons_succ, List.set_cons_zero] at hK
        generalize vs 23 = vq23 at hK dq23 ⊢
        subst vq23
        go_wp2
        exact hK _ _ rfl (Mod.refl _ _)
      refine opsOkA_cons ?_ ?_
      · intro K vs W hR hD hK
        have dq23 : vs 23 = .bool false := hD 23 (by decide)
        clear hD
        try dsimp only at hK ⊢
        simp only [Act.put, List.setIfInBounds_toArray, List.set_cons_succ, List.set_cons_zero] at hK
        generalize vs 23 = vq23 at hK dq23 ⊢
        subst vq23
        go_wp2
        exact hK _ _ rfl (Mod.refl _ _)
      refine opsOkA_cons ?_ ?_
      · intro K vs W hR hD hK
        have dq23 : vs 23 = .bool false := hD 23 (by decide)
        clear hD
        try dsimp only at hK ⊢
        simp only [Act.put, List.setIfInBounds_toArray, List.set_cons_succ, List.set_cons_zero] at hK
        generalize vs 23 = vq23 at hK dq23 ⊢
        subst vq23
        go_wp2
        exact hK _ _ rfl (Mod.refl _ _)
      refine opsOkA_cons ?_ ?_
      · intro K vs W hR hD hK
        have dq23 : vs 23 = .bool false := hD 23 (by decide)
        clear hD
        try dsimp only at hK ⊢
        simp only [Act.put, List.setIfInBounds_toArray, List.set_cons_succ, List.set_cons_zero] at hK
        generalize vs 23 = vq23 at hK dq23 ⊢
        subst vq23
        go_wp2_with fail
        exact hK _ _ rfl (Mod.refl _ _)
      refine opsOkA_cons ?_ ?_
      · intro K vs W hR hD hK
        have dq23 : vs 23 = .bool false := hD 23 (by decide)
        clear hD
        try dsimp only at hK ⊢
        simp only [Act.put, List.setIfInBounds_toArray, List.set_cons_succ, List.set_cons_zero] at hK
        generalize vs 23 = vq23 at hK dq23 ⊢
        subst vq23
        go_wp2
        exact hK _ _ rfl (Mod.refl _ _)
      refine opsOkA_cons ?_ ?_
      · intro K vs W hR hD hK
        have dq23 : vs 23 = .bool false := hD 23 (by decide)
        have dq28 : vs 28 = undef := hD 28 (by decide)
        clear hD
        try dsimp only at hK ⊢
        simp only [Act.put, List.setIfInBounds_toArray, List.set_cons_succ, List.set_cons_zero] at hK
        generalize vs 23 = vq23 at hK dq23 ⊢
        subst vq23
        generalize vs 28 = vq28 at hK dq28 ⊢
        subst vq28
        go_wp2
        exact hK _ _ rfl (Mod.refl _ _)
      refine opsOkA_cons ?_ ?_
      · intro K vs W hR hD hK
        have dq29 : vs 29 = .bool false := hD 29 (by decide)
        clear hD
        try dsimp only at hK ⊢
        simp only [Act.put, List.setIfInBounds_toArray, List.set_cons_succ, List.set_cons_zero] at hK
        generalize vs 29 = vq29 at hK dq29 ⊢
        subst vq29
        go_wp2
        exact hK _ _ rfl (Mod.refl _ _)
      exact opsOkA_nil
    · intro vs wq4 hR hF
      have dq30 : vs 30 = .bool false := hF 30 (by decide)
      clear hF
      try dsimp only
      generalize vs 30 = vq30 at dq30 ⊢
      subst dq30
      replace HS := Lib.hid (HSd.out.step hR)
      clear HSd hR
      have hbbx := (HS.out.now).1
      have qbx_0 := hbbx.cell 0 rfl
      have qbx_1 := hbbx.cell 1 rfl
      have qbx_2 := hbbx.cell 2 rfl
      have lbx := hbbx.lt
      clear hbbx
      go_wp2_with fail
      go_ret
      exact ⟨rfl, (HS.out.now).2.2⟩
  by_cases hE : (eAt G va).2.1 = (eAt G vb).1
  case neg =>
    rw [show turnB G va vb = false from decide_eq_false fun h => hE h.2.2.1]
    have HA := Lib.hid hA
    have HB := Lib.hid hB
    have HE := Lib.hid hE
    clear hA hB hE
    go_enter Try.func35, Try.ntmps35
    go_upto_region 1 with fail
    obtain ⟨bx, hbx⟩ : ∃ b, w.heap.size = b := ⟨_, rfl⟩
    obtain ⟨wq5, hwq5⟩ : ∃ W, World.alloc w (.cells #[.slice a1 n1 d1, .slice a2 n2 d2, .slice a3 n3 d3] 28) = W := ⟨_, rfl⟩
    have hBbx : Blk wq5 bx 28 [.slice a1 n1 d1, .slice a2 n2 d2, .slice a3 n3 d3] := by rw [← hwq5, ← hbx]; exact Blk.new _ 28 [.slice a1 n1 d1, .slice a2 n2 d2, .slice a3 n3 d3]
    have hzbx : wq5.heap.size = bx + 1 := by rw [← hwq5, ← hbx]; exact heap_size_alloc _ _
    replace HS := Lib.hid (HS.out.step (w' := wq5) (by rw [← hwq5]; exact Mod.alloc _ _ _))
    replace HS := Lib.hid ((Ev.blk hBbx).and HS.out)
    try rw [hwq5]
    try rw [hbx]
    clear hzbx hBbx hbx hwq5
    obtain ⟨ka, hka⟩ := Int.eq_ofNat_of_zero_le HA.out.1
    obtain ⟨kb, hkb⟩ := Int.eq_ofNat_of_zero_le HB.out.1
    subst hka hkb
    have hal : ka < G.E.length := by have := HA.out.2; omega
    have hbl : kb < G.E.length := by have := HB.out.2; omega
    have han : ka < n2 := by rw [← he.out]; exact hal
    have hbn : kb < n2 := by rw [← he.out]; exact hbl
    obtain ⟨xa, hxa⟩ : ∃ x, (G.E[ka]).1 = x := ⟨_, rfl⟩
    obtain ⟨ya, hya⟩ : ∃ x, (G.E[ka]).2.1 = x := ⟨_, rfl⟩
    obtain ⟨za, hza⟩ : ∃ x, (G.E[ka]).2.2 = x := ⟨_, rfl⟩
    obtain ⟨ab, ao, hpl, e0, e1, e2⟩ := rd3 (HS.out.now).2.1.re ka hal
    have hix := fun wx => run_indexS (P := Try.prog) wx 25 43 iE 3 Try.underlying25 hiE hsE a2 n2 d2 ka han ((HS.out.now).2.1.re.some_ (by have := han; omega))
    rw [hpl] at hix
    have HIa := Lib.hid hix
    clear hix hpl
    rw [hxa] at e0
    replace HS := Lib.hid ((Ev.cell e0).and HS.out)
    clear e0
    rw [hya] at e1
    replace HS := Lib.hid ((Ev.cell e1).and HS.out)
    clear e1
    rw [hza] at e2
    replace HS := Lib.hid ((Ev.cell e2).and HS.out)
    clear e2
    obtain ⟨xb, hxb⟩ : ∃ x, (G.E[kb]).1 = x := ⟨_, rfl⟩
    obtain ⟨yb, hyb⟩ : ∃ x, (G.E[kb]).2.1 = x := ⟨_, rfl⟩
    obtain ⟨zb, hzb⟩ : ∃ x, (G.E[kb]).2.2 = x := ⟨_, rfl⟩
    obtain ⟨bb, bo, hpl, e0, e1, e2⟩ := rd3 (HS.out.now).2.2.2.2.1.re kb hbl
    have hix := fun wx => run_indexS (P := Try.prog) wx 25 43 iE 3 Try.underlying25 hiE hsE a2 n2 d2 kb hbn ((HS.out.now).2.2.2.2.1.re.some_ (by have := hbn; omega))
    rw [hpl] at hix
    have HIb := Lib.hid hix
    clear hix hpl
    rw [hxb] at e0
    replace HS := Lib.hid ((Ev.cell e0).and HS.out)
    clear e0
    rw [hyb] at e1
    replace HS := Lib.hid ((Ev.cell e1).and HS.out)
    clear e1
    rw [hzb] at e2
    replace HS := Lib.hid ((Ev.cell e2).and HS.out)
    clear e2
    have zE : (ya == xb) = false := by have h := HE.out; rw [eAt_eq G ka hal, eAt_eq G kb hbl, hya, hxb] at h; simpa using h
    have ZE := Lib.hid zE
    clear zE hxa hya hza hxb hyb hzb
    go_upto_region 1 with fail
    have HSd := Lib.hid HS.out.drew
    refine wp_region_inv3 (act := ?actrt_r1_2) (Mod (fun _ => False)) (fun i => (rt_r1_2_F bx ab ao bb bo ka kb n1 d1 n2 d2 n3 d3 ya xb true a1 a2 a3).getD i (fun _ _ => True)) (fun i => rt_r1_2_D.getD i []) (by kernel_rfl) (by kernel_rfl) (by kernel_rfl) (by kernel_rfl) (fun _ => Mod.refl _ _)
      (fun _ _ _ h k => h.trans k (fun _ _ e => e) (fun _ _ e => e)) ?hactrt_r1_2 (stable_list ?_) ?_ ?_
    case hactrt_r1_2 => intro vs; simp only [putAll, Nat.zero_add, Nat.reduceAdd, Act.put, List.setIfInBounds_toArray, List.set_cons_succ, List.set_cons_zero]; exact rfl
    · unfold rt_r1_2_F
      exact stable_cons (stable_val _) <| stable_cons (stable_val _) <| stable_cons (stable_val _) <| stable_cons (stable_val _) <| stable_cons (stable_val _) <| stable_cons (stable_val _) <| stable_cons (stable_val _) <| stable_cons (stable_val _) <| stable_cons (stable_val _) <| stable_cons (stable_val _) <| stable_cons (stable_val _) <| stable_cons (stable_val _) <| stable_cons (stable_val _) <| stable_cons (stable_val _) <| stable_cons (stable_val _) <| stable_cons (stable_val _) <| stable_cons (stable_val _) <| stable_cons (stable_val _) <| stable_cons (stable_val _) <| stable_cons (stable_val _) <| stable_cons (stable_val _) <| stable_cons (stable_val _) <| stable_cons (stable_val _) <| stable_cons (stable_val _) <| stable_cons (stable_val _) <| stable_cons (stable_val _) <| stable_cons (stable_val _) <| stable_cons (stable_val _) <| stable_cons (stable_val _) <| stable_cons (stable_val _) <| stable_cons (stable_val _) <| stable_nil
    · refine opsOkA_cons ?_ ?_
      · intro K vs W hR hD hK
        clear hD
        try dsimp only at hK ⊢
        simp only [Act.put, List.setIfInBounds_toArray, List.set_cons_succ, List.set_cons_zero] at hK
        have hbx := (HSd.out.at (hR)).2.2.2.2.2.2.1
        have q0 := hbx.cell 0 rfl
        have q1 := hbx.cell 1 rfl
        have q2 := hbx.cell 2 rfl
        go_wp2
        exact hK _ _ rfl (Mod.refl _ _)
      refine opsOkA_cons ?_ ?_
      · intro K vs W hR hD hK
        clear hD
        try dsimp only at hK ⊢
        simp only [Act.put, List.setIfInBounds_toArray, List.set_cons_succ, List.set_cons_zero] at hK
        go_wp2
        exact hK _ _ rfl (Mod.refl _ _)
      refine opsOkA_cons ?_ ?_
      · intro K vs W hR hD hK
        have dq0 : vs 0 = .agg #[.slice a1 n1 d1, .slice a2 n2 d2, .slice a3 n3 d3] := hD 0 (by decide)
        have dq1 : vs 1 = .int .i64 (ka : Int) := hD 1 (by decide)
        clear hD
        try dsimp only at hK ⊢
        simp only [Act.put, List.setIfInBounds_toArray, List.set_cons_succ, List.set_cons_zero] at hK
        generalize vs 0 = vq0 at hK dq0 ⊢
        subst vq0
        generalize vs 1 = vq1 at hK dq1 ⊢
        subst vq1
        go_wp2_with (go_at_call 17; refine (r4edge_any G W a1 n1 d1 a2 n2 d2 a3 n3 d3 ((HSd.out.at (hR)).2.2.2.2.2.2.2.1) (by omega) (ka : Int)).mono ?_; rintro e' w' ⟨rfl, hm'⟩; rw [decide_eq_true HA.out])
        exact hK _ _ rfl hm'
      refine opsOkA_cons ?_ ?_
      · intro K vs W hR hD hK
        have dq2 : vs 2 = .bool true := hD 2 (by decide)
        clear hD
        try dsimp only at hK ⊢
        simp only [Act.put, List.setIfInBounds_toArray, List.set_cons_succ, List.set_cons_zero] at hK
        generalize vs 2 = vq2 at hK dq2 ⊢
        subst vq2
        go_wp2
        exact hK _ _ rfl (Mod.refl _ _)
      refine opsOkA_cons ?_ ?_
      · intro K vs W hR hD hK
        have dq3 : vs 3 = .bool true := hD 3 (by decide)
        clear hD
        try dsimp only at hK ⊢
        simp only [Act.put, List.setIfInBounds_toArray, List.set_cons_succ, List.set_cons_zero] at hK
        generalize vs 3 = vq3 at hK dq3 ⊢
        subst vq3
        have hbx := (HSd.out.at (hR)).2.2.2.2.2.2.1
        have q0 := hbx.cell 0 rfl
        have q1 := hbx.cell 1 rfl
        have q2 := hbx.cell 2 rfl
        go_wp2
        exact hK _ _ rfl (Mod.refl _ _)
      refine opsOkA_cons ?_ ?_
      · intro K vs W hR hD hK
        have dq3 : vs 3 = .bool true := hD 3 (by decide)
        clear hD
        try dsimp only at hK ⊢
        simp only [Act.put, List.setIfInBounds_toArray, List.set_cons_succ, List.set_cons_zero] at hK
        generalize vs 3 = vq3 at hK dq3 ⊢
        subst vq3
        go_wp2
        exact hK _ _ rfl (Mod.refl _ _)
      refine opsOkA_cons ?_ ?_
      · intro K vs W hR hD hK
        have dq3 : vs 3 = .bool true := hD 3 (by decide)
        have dq4 : vs 4 = .agg #[.slice a1 n1 d1, .slice a2 n2 d2, .slice a3 n3 d3] := hD 4 (by decide)
        have dq5 : vs 5 = .int .i64 (kb : Int) := hD 5 (by decide)
        clear hD
        try dsimp only at hK ⊢
        simp only [Act.put, List.setIfInBounds_toArray, List.set_cons_succ, List.set_cons_zero] at hK
        generalize vs 3 = vq3 at hK dq3 ⊢
        subst vq3
        generalize vs 4 = vq4 at hK dq4 ⊢
        subst vq4
        generalize vs 5 = vq5 at hK dq5 ⊢
        subst vq5
        go_wp2_with (go_at_call 17; refine (r4edge_any G W a1 n1 d1 a2 n2 d2 a3 n3 d3 ((HSd.out.at (hR)).2.2.2.2.2.2.2.1) (by omega) (kb : Int)).mono ?_; rintro e' w' ⟨rfl, hm'⟩; rw [decide_eq_true HB.out])
        exact hK _ _ rfl hm'
      refine opsOkA_cons ?_ ?_
      · intro K vs W hR hD hK
        have dq3 : vs 3 = .bool true := hD 3 (by decide)
        have dq6 : vs 6 = .bool true := hD 6 (by decide)
        clear hD
        try dsimp only at hK ⊢
        simp only [Act.put, List.setIfInBounds_toArray, List.set_cons_succ, List.set_cons_zero] at hK
        generalize vs 3 = vq3 at hK dq3 ⊢
        subst vq3
        generalize vs 6 = vq6 at hK dq6 ⊢
        subst vq6
        go_wp2
        exact hK _ _ rfl (Mod.refl _ _)
      refine opsOkA_cons ?_ ?_
      · intro K vs W hR hD hK
        have dq7 : vs 7 = .bool true := hD 7 (by decide)
        clear hD
        try dsimp only at hK ⊢
        simp only [Act.put, List.setIfInBounds_toArray, List.set_cons_succ, List.set_cons_zero] at hK
        generalize vs 7 = vq7 at hK dq7 ⊢
        subst vq7
        go_wp2
        exact hK _ _ rfl (Mod.refl _ _)
      refine opsOkA_cons ?_ ?_
      · intro K vs W hR hD hK
        have dq8 : vs 8 = .bool true := hD 8 (by decide)
        clear hD
        try dsimp only at hK ⊢
        simp only [Act.put, List.setIfInBounds_toArray, List.set_cons_succ, List.set_cons_zero] at hK
        generalize vs 8 = vq8 at hK dq8 ⊢
        subst vq8
        go_wp2
        exact hK _ _ rfl (Mod.refl _ _)
      refine opsOkA_cons ?_ ?_
      · intro K vs W hR hD hK
        have dq8 : vs 8 = .bool true := hD 8 (by decide)
        have dq9 : vs 9 = .pointer (some ⟨bx, 1, none⟩) := hD 9 (by decide)
        clear hD
        try dsimp only at hK ⊢
        simp only [Act.put, List.setIfInBounds_toArray, List.set_cons_succ, List.set_cons_zero] at hK
        generalize vs 8 = vq8 at hK dq8 ⊢
        subst vq8
        generalize vs 9 = vq9 at hK dq9 ⊢
        subst vq9
        have q0 := ((HSd.out.at (hR)).2.2.2.2.2.2.1).cell 1 rfl
        go_wp2
        exact hK _ _ rfl (Mod.refl _ _)
      refine opsOkA_cons ?_ ?_
      · intro K vs W hR hD hK
        have dq8 : vs 8 = .bool true := hD 8 (by decide)
        clear hD
        try dsimp only at hK ⊢
        simp only [Act.put, List.setIfInBounds_toArray, List.set_cons_succ, List.set_cons_zero] at hK
        generalize vs 8 = vq8 at hK dq8 ⊢
        subst vq8
        go_wp2
        exact hK _ _ rfl (Mod.refl _ _)
      refine opsOkA_cons ?_ ?_
      · intro K vs W hR hD hK
        have dq8 : vs 8 = .bool true := hD 8 (by decide)
        have dq10 : vs 10 = .slice a2 n2 d2 := hD 10 (by decide)
        have dq11 : vs 11 = .int .i64 (ka : Int) := hD 11 (by decide)
        clear hD
        try dsimp only at hK ⊢
        simp only [Act.put, List.setIfInBounds_toArray, List.set_cons_succ, List.set_cons_zero] at hK
        generalize vs 8 = vq8 at hK dq8 ⊢
        subst vq8
        generalize vs 10 = vq10 at hK dq10 ⊢
        subst vq10
        generalize vs 11 = vq11 at hK dq11 ⊢
        subst vq11
        have hix := HIa.out
        go_wp2_with fail
        exact hK _ _ rfl (Mod.refl _ _)
      refine opsOkA_cons ?_ ?_
      · intro K vs W hR hD hK
        have dq8 : vs 8 = .bool true := hD 8 (by decide)
        have dq12 : vs 12 = .pointer (some ⟨ab, ao, none⟩) := hD 12 (by decide)
        clear hD
        try dsimp only at hK ⊢
        simp only [Act.put, List.setIfInBounds_toArray, List.set_cons_succ, List.set_cons_zero] at hK
        generalize vs 8 = vq8 at hK dq8 ⊢
        subst vq8
        generalize vs 12 = vq12 at hK dq12 ⊢
        subst vq12
        go_wp2
        exact hK _ _ rfl (Mod.refl _ _)
      refine opsOkA_cons ?_ ?_
      · intro K vs W hR hD hK
        have dq8 : vs 8 = .bool true := hD 8 (by decide)
        have dq13 : vs 13 = .pointer (some ⟨ab, ao + 1, none⟩) := hD 13 (by decide)
        clear hD
        try dsimp only at hK ⊢
        simp only [Act.put, List.setIfInBounds_toArray, List.set_cons_succ, List.set_cons_zero] at hK
        generalize vs 8 = vq8 at hK dq8 ⊢
        subst vq8
        generalize vs 13 = vq13 at hK dq13 ⊢
        subst vq13
        have c0 := (HSd.out.at (hR)).2.2.2.2.1
        go_wp2
        exact hK _ _ rfl (Mod.refl _ _)
      refine opsOkA_cons ?_ ?_
      · intro K vs W hR hD hK
        have dq8 : vs 8 = .bool true := hD 8 (by decide)
        clear hD
        try dsimp only at hK ⊢
        simp only [Act.put, List.setIfInBounds_toArray, List.set_cons_succ, List.set_cons_zero] at hK
        generalize vs 8 = vq8 at hK dq8 ⊢
        subst vq8
        go_wp2
        exact hK _ _ rfl (Mod.refl _ _)
      refine opsOkA_cons ?_ ?_
      · intro K vs W hR hD hK
        have dq8 : vs 8 = .bool true := hD 8 (by decide)
        have dq15 : vs 15 = .pointer (some ⟨bx, 1, none⟩) := hD 15 (by decide)
        clear hD
        try dsimp only at hK ⊢
        simp only [Act.put, List.setIfInBounds_toArray, List.set_cons_succ, List.set_cons_zero] at hK
        generalize vs 8 = vq8 at hK dq8 ⊢
        subst vq8
        generalize vs 15 = vq15 at hK dq15 ⊢
        subst vq15
        have q0 := ((HSd.out.at (hR)).2.2.2.2.2.2.1).cell 1 rfl
        go_wp2
        exact hK _ _ rfl (Mod.refl _ _)
      refine opsOkA_cons ?_ ?_
      · intro K vs W hR hD hK
        have dq8 : vs 8 = .bool true := hD 8 (by decide)
        clear hD
        try dsimp only at hK ⊢
        simp only [Act.put, List.setIfInBounds_toArray, List.set_cons_succ, List.set_cons_zero] at hK
        generalize vs 8 = vq8 at hK dq8 ⊢
        subst vq8
        go_wp2
        exact hK _ _ rfl (Mod.refl _ _)
      refine opsOkA_cons ?_ ?_
      · intro K vs W hR hD hK
        have dq8 : vs 8 = .bool true := hD 8 (by decide)
        have dq16 : vs 16 = .slice a2 n2 d2 := hD 16 (by decide)
        have dq17 : vs 17 = .int .i64 (kb : Int) := hD 17 (by decide)
        clear hD
        try dsimp only at hK ⊢
        simp only [Act.put, List.setIfInBounds_toArray, List.set_cons_succ, List.set_cons_zero] at hK
        generalize vs 8 = vq8 at hK dq8 ⊢
        subst vq8
        generalize vs 16 = vq16 at hK dq16 ⊢
        subst vq16
        generalize vs 17 = vq17 at hK dq17 ⊢
        subst vq17
        have hix := HIb.out
        go_wp2_with fail
        exact hK _ _ rfl (Mod.refl _ _)
      refine opsOkA_cons ?_ ?_
      · intro K vs W hR hD hK
        have dq8 : vs 8 = .bool true := hD 8 (by decide)
        have dq18 : vs 18 = .pointer (some ⟨bb, bo, none⟩) := hD 18 (by decide)
        clear hD
        try dsimp only at hK ⊢
        simp only [Act.put, List.setIfInBounds_toArray, List.set_cons_succ, List.set_cons_zero] at hK
        generalize vs 8 = vq8 at hK dq8 ⊢
        subst vq8
        generalize vs 18 = vq18 at hK dq18 ⊢
        subst vq18
        go_wp2
        exact hK _ _ rfl (Mod.refl _ _)
      refine opsOkA_cons ?_ ?_
      · intro K vs W hR hD hK
        have dq8 : vs 8 = .bool true := hD 8 (by decide)
        have dq19 : vs 19 = .pointer (some ⟨bb, bo, none⟩) := hD 19 (by decide)
        clear hD
        try dsimp only at hK ⊢
        simp only [Act.put, List.setIfInBounds_toArray, List.set_cons_succ, List.set_cons_zero] at hK
        generalize vs 8 = vq8 at hK dq8 ⊢
        subst vq8
        generalize vs 19 = vq19 at hK dq19 ⊢
        subst vq19
        have c0 := (HSd.out.at (hR)).2.2.1
        go_wp2
        exact hK _ _ rfl (Mod.refl _ _)
      refine opsOkA_cons ?_ ?_
      · intro K vs W hR hD hK
        have dq8 : vs 8 = .bool true := hD 8 (by decide)
        have dq14 : vs 14 = .int .i64 ya := hD 14 (by decide)
        have dq20 : vs 20 = .int .i64 xb := hD 20 (by decide)
        clear hD
        try dsimp only at hK ⊢
        simp only [Act.put, List.setIfInBounds_toArray, List.set_cons_succ, List.set_cons_zero] at hK
        generalize vs 8 = vq8 at hK dq8 ⊢
        subst vq8
        generalize vs 14 = vq14 at hK dq14 ⊢
        subst vq14
        generalize vs 20 = vq20 at hK dq20 ⊢
        subst vq20
        have zE := ZE.out
        go_wp2
        exact hK _ _ rfl (Mod.refl _ _)
      refine opsOkA_cons ?_ ?_
      · intro K vs W hR hD hK
        have dq8 : vs 8 = .bool true := hD 8 (by decide)
        have dq21 : vs 21 = .bool false := hD 21 (by decide)
        clear hD
        try dsimp only at hK ⊢
        simp only [Act.put, List.setIfInBounds_toArray, List.set_cons_succ, List.set_cons_zero] at hK
        generalize vs 8 = vq8 at hK dq8 ⊢
        subst vq8
        generalize vs 21 = vq21 at hK dq21 ⊢
        subst vq21
        go_wp2
        exact hK _ _ rfl (Mod.refl _ _)
      refine opsOkA_cons ?_ ?_
      · intro K vs W hR hD hK
        have dq22 : vs 22 = .bool false := hD 22 (by decide)
        clear hD
        try dsimp only at hK ⊢
        simp only [Act.put, List.setIfInBounds_toArray, List.set_cons_succ, List.set_cons_zero] at hK
        generalize vs 22 = vq22 at hK dq22 ⊢
        subst vq22
        go_wp2
        exact hK _ _ rfl (Mod.refl _ _)
      refine opsOkA_cons ?_ ?_
      · intro K vs W hR hD hK
        have dq23 : vs 23 = .bool false := hD 23 (by decide)
        clear hD
        try dsimp only at hK ⊢
        simp only [Act.put, List.setIfInBounds_toArray, List.set_cons_succ, List.set_cons_zero] at hK
        generalize vs 23 = vq23 at hK dq23 ⊢
        subst vq23
        go_wp2
        exact hK _ _ rfl (Mod.refl _ _)
      refine opsOkA_cons ?_ ?_
      · intro K vs W hR hD hK
        have dq23 : vs 23 = .bool false := hD 23 (by decide)
        clear hD
        try dsimp only at hK ⊢
        simp only [Act.put, List.setIfInBounds_toArray, List.set_cons_succ, List.set_cons_zero] at hK
        generalize vs 23 = vq23 at hK dq23 ⊢
        subst vq23
        go_wp2
        exact hK _ _ rfl (Mod.refl _ _)
      refine opsOkA_cons ?_ ?_
      · intro K vs W hR hD hK
        have dq23 : vs 23 = .bool false := hD 23 (by decide)
        clear hD
        try dsimp only at hK ⊢
        simp only [Act.put, List.setIfInBounds_toArray, List.set_cons_succ, List.set_cons_zero] at hK
        generalize vs 23 = vq23 at hK dq23 ⊢
        subst vq23
        go_wp2
        exact hK _ _ rfl (Mod.refl _ _)
      refine opsOkA_cons ?_ ?_
      · intro K vs W hR hD hK
        have dq23 : vs 23 = .bool false := hD 23 (by decide)
        clear hD
        try dsimp only at hK ⊢
        simp only [Act.put, List.setIfInBounds_toArray, List.set_cons_succ, List.set_cons_zero] at hK
        generalize vs 23 = vq23 at hK dq23 ⊢
        subst vq23
        go_wp2_with fail
        exact hK _ _ rfl (Mod.refl _ _)
      refine opsOkA_cons ?_ ?_
      · intro K vs W hR hD hK
        have dq23 : vs 23 = .bool false := hD 23 (by decide)
        clear hD
        try dsimp only at hK ⊢
        simp only [Act.put, List.setIfInBounds_toArray, List.set_cons_succ, List.set_cons_zero] at hK
        generalize vs 23 = vq23 at hK dq23 ⊢
        subst vq23
        go_wp2
        exact hK _ _ rfl (Mod.refl _ _)
      refine opsOkA_cons ?_ ?_
      · intro K vs W hR hD hK
        have dq23 : vs 23 = .bool false := hD 23 (by decide)
        have dq28 : vs 28 = undef := hD 28 (by decide)
        clear hD
        try dsimp only at hK ⊢
        simp only [Act.put, List.setIfInBounds_toArray, List.set_cons_succ, List.set_cons_zero] at hK
        generalize vs 23 = vq23 at hK dq23 ⊢
        subst vq23
        generalize vs 28 = vq28 at hK dq28 ⊢
        subst vq28
        go_wp2
        exact hK _ _ rfl (Mod.refl _ _)
      refine opsOkA_cons ?_ ?_
      · intro K vs W hR hD hK
        have dq29 : vs 29 = .bool false := hD 29 (by decide)
        clear hD
        try dsimp only at hK ⊢
        simp only [Act.put, List.setIfInBounds_toArray, List.set_cons_succ, List.set_cons_zero] at hK
        generalize vs 29 = vq29 at hK dq29 ⊢
        subst vq29
        go_wp2
        exact hK _ _ rfl (Mod.refl _ _)
      exact opsOkA_nil
    · intro vs wq6 hR hF
      have dq30 : vs 30 = .bool false := hF 30 (by decide)
      clear hF
      try dsimp only
      generalize vs 30 = vq30 at dq30 ⊢
      subst dq30
      replace HS := Lib.hid (HSd.out.step hR)
      clear HSd hR
      have hbbx := (HS.out.now).2.2.2.2.2.2.1
      have qbx_0 := hbbx.cell 0 rfl
      have qbx_1 := hbbx.cell 1 rfl
      have qbx_2 := hbbx.cell 2 rfl
      have lbx := hbbx.lt
      clear hbbx
      go_wp2_with fail
      go_ret
      exact ⟨rfl, (HS.out.now).2.2.2.2.2.2.2.2⟩
  obtain ⟨bq, hbb⟩ : ∃ b, decide ((va, vb) ∈ G.B) = b := ⟨_, rfl⟩
  rw [show turnB G va vb = !bq from by rw [← hbb]; unfold turnB; by_cases h : (va, vb) ∈ G.B <;> simp [h, hA, hB, hE]]
  have HBB := Lib.hid hbb
  have HA := Lib.hid hA
  have HB := Lib.hid hB
  have HE := Lib.hid hE
  clear hA hB hE hbb
  go_enter Try.func35, Try.ntmps35
  go_upto_region 1 with fail
  obtain ⟨bx, hbx⟩ : ∃ b, w.heap.size = b := ⟨_, rfl⟩
  obtain ⟨wq7, hwq7⟩ : ∃ W, World.alloc w (.cells #[.slice a1 n1 d1, .slice a2 n2 d2, .slice a3 n3 d3] 28) = W := ⟨_, rfl⟩
  have hBbx : Blk wq7 bx 28 [.slice a1 n1 d1, .slice a2 n2 d2, .slice a3 n3 d3] := by rw [← hwq7, ← hbx]; exact Blk.new _ 28 [.slice a1 n1 d1, .slice a2 n2 d2, .slice a3 n3 d3]
  have hzbx : wq7.heap.size = bx + 1 := by rw [← hwq7, ← hbx]; exact heap_size_alloc _ _
  replace HS := Lib.hid (HS.out.step (w' := wq7) (by rw [← hwq7]; exact Mod.alloc _ _ _))
  replace HS := Lib.hid ((Ev.blk hBbx).and HS.out)
  try rw [hwq7]
  try rw [hbx]
  clear hzbx hBbx hbx hwq7
  obtain ⟨ka, hka⟩ := Int.eq_ofNat_of_zero_le HA.out.1
  obtain ⟨kb, hkb⟩ := Int.eq_ofNat_of_zero_le HB.out.1
  subst hka hkb
  have hal : ka < G.E.length := by have := HA.out.2; omega
  have hbl : kb < G.E.length := by have := HB.out.2; omega
  have han : ka < n2 := by rw [← he.out]; exact hal
  have hbn : kb < n2 := by rw [← he.out]; exact hbl
  obtain ⟨xa, hxa⟩ : ∃ x, (G.E[ka]).1 = x := ⟨_, rfl⟩
  obtain ⟨ya, hya⟩ : ∃ x, (G.E[ka]).2.1 = x := ⟨_, rfl⟩
  obtain ⟨za, hza⟩ : ∃ x, (G.E[ka]).2.2 = x := ⟨_, rfl⟩
  obtain ⟨ab, ao, hpl, e0, e1, e2⟩ := rd3 (HS.out.now).2.1.re ka hal
  have hix := fun wx => run_indexS (P := Try.prog) wx 25 43 iE 3 Try.underlying25 hiE hsE a2 n2 d2 ka han ((HS.out.now).2.1.re.some_ (by have := han; omega))
  rw [hpl] at hix
  have HIa := Lib.hid hix
  clear hix hpl
  rw [hxa] at e0
  replace HS := Lib.hid ((Ev.cell e0).and HS.out)
  clear e0
  rw [hya] at e1
  replace HS := Lib.hid ((Ev.cell e1).and HS.out)
  clear e1
  rw [hza] at e2
  replace HS := Lib.hid ((Ev.cell e2).and HS.out)
  clear e2
  obtain ⟨xb, hxb⟩ : ∃ x, (G.E[kb]).1 = x := ⟨_, rfl⟩
  obtain ⟨yb, hyb⟩ : ∃ x, (G.E[kb]).2.1 = x := ⟨_, rfl⟩
  obtain ⟨zb, hzb⟩ : ∃ x, (G.E[kb]).2.2 = x := ⟨_, rfl⟩
  obtain ⟨bb, bo, hpl, e0, e1, e2⟩ := rd3 (HS.out.now).2.2.2.2.1.re kb hbl
  have hix := fun wx => run_indexS (P := Try.prog) wx 25 43 iE 3 Try.underlying25 hiE hsE a2 n2 d2 kb hbn ((HS.out.now).2.2.2.2.1.re.some_ (by have := hbn; omega))
  rw [hpl] at hix
  have HIb := Lib.hid hix
  clear hix hpl
  rw [hxb] at e0
  replace HS := Lib.hid ((Ev.cell e0).and HS.out)
  clear e0
  rw [hyb] at e1
  replace HS := Lib.hid ((Ev.cell e1).and HS.out)
  clear e1
  rw [hzb] at e2
  replace HS := Lib.hid ((Ev.cell e2).and HS.out)
  clear e2
  have zE : (ya == xb) = true := by have h := HE.out; rw [eAt_eq G ka hal, eAt_eq G kb hbl, hya, hxb] at h; simpa using h
  have ZE := Lib.hid zE
  clear zE hxa hya hza hxb hyb hzb
  go_upto_region 1 with fail
  have HSd := Lib.hid HS.out.drew
  refine wp_region_inv3 (act := ?actrt_r1_3) (Mod (fun _ => False)) (fun i => (rt_r1_3_F bx ab ao bb bo ka kb n1 d1 n2 d2 n3 d3 ya xb bq a1 a2 a3).getD i (fun _ _ => True)) (fun i => rt_r1_3_D.getD i []) (by kernel_rfl) (by kernel_rfl) (by kernel_rfl) (by kernel_rfl) (fun _ => Mod.refl _ _)
    (fun _ _ _ h k => h.trans k (fun _ _ e => e) (fun _ _ e => e)) ?hactrt_r1_3 (stable_list ?_) ?_ ?_
  case hactrt_r1_3 => intro vs; simp only [putAll, Nat.zero_add, Nat.reduceAdd, Act.put, List.setIfInBounds_toArray, List.set_cons_succ, List.set_cons_zero]; exact rfl
  · unfold rt_r1_3_F
    exact stable_cons (stable_val _) <| stable_cons (stable_val _) <| stable_cons (stable_val _) <| stable_cons (stable_val _) <| stable_cons (stable_val _) <| stable_cons (stable_val _) <| stable_cons (stable_val _) <| stable_cons (stable_val _) <| stable_cons (stable_val _) <| stable_cons (stable_val _) <| stable_cons (stable_val _) <| stable_cons (stable_val _) <| stable_cons (stable_val _) <| stable_cons (stable_val _) <| stable_cons (stable_val _) <| stable_cons (stable_val _) <| stable_cons (stable_val _) <| stable_cons (stable_val _) <| stable_cons (stable_val _) <| stable_cons (stable_val _) <| stable_cons (stable_val _) <| stable_cons (stable_val _) <| stable_cons (stable_val _) <| stable_cons (stable_val _) <| stable_cons (stable_val _) <| stable_cons (stable_val _) <| stable_cons (stable_val _) <| stable_cons (stable_val _) <| stable_cons (stable_val _) <| stable_cons (stable_val _) <| stable_cons (stable_val _) <| stable_nil
  · refine opsOkA_cons ?_ ?_
    · intro K vs W hR hD hK
      clear hD
      try dsimp only at hK ⊢
      simp only [Act.put, List.setIfInBounds_toArray, List.set_cons_succ, List.set_cons_zero] at hK
      have hbx := (HSd.out.at (hR)).2.2.2.2.2.2.1
      have q0 := hbx.cell 0 rfl
      have q1 := hbx.cell 1 rfl
      have q2 := hbx.cell 2 rfl
      go_wp2
      exact hK _ _ rfl (Mod.refl _ _)
    refine opsOkA_cons ?_ ?_
    · intro K vs W hR hD hK
      clear hD
      try dsimp only at hK ⊢
      simp only [Act.put, List.setIfInBounds_toArray, List.set_cons_succ, List.set_cons_zero] at hK
      go_wp2
      exact hK _ _ rfl (Mod.refl _ _)
    refine opsOkA_cons ?_ ?_
    · intro K vs W hR hD hK
      have dq0 : vs 0 = .agg #[.slice a1 n1 d1, .slice a2 n2 d2, .slice a3 n3 d3] := hD 0 (by decide)
      have dq1 : vs 1 = .int .i64 (ka : Int) := hD 1 (by decide)
      clear hD
      try dsimp only at hK ⊢
      simp only [Act.put, List.setIfInBounds_toArray, List.set_cons_succ, List.set_cons_zero] at hK
      generalize vs 0 = vq0 at hK dq0 ⊢
      subst vq0
      generalize vs 1 = vq1 at hK dq1 ⊢
      subst vq1
      go_wp2_with (go_at_call 17; refine (r4edge_any G W a1 n1 d1 a2 n2 d2 a3 n3 d3 ((HSd.out.at (hR)).2.2.2.2.2.2.2.1) (by omega) (ka : Int)).mono ?_; rintro e' w' ⟨rfl, hm'⟩; rw [decide_eq_true HA.out])
      exact hK _ _ rfl hm'
    refine opsOkA_cons ?_ ?_
    · intro K vs W hR hD hK
      have dq2 : vs 2 = .bool true := hD 2 (by decide)
      clear hD
      try dsimp only at hK ⊢
      simp only [Act.put, List.setIfInBounds_toArray, List.set_cons_succ, List.set_cons_zero] at hK
      generalize vs 2 = vq2 at hK dq2 ⊢
      subst vq2
      go_wp2
      exact hK _ _ rfl (Mod.refl _ _)
    refine opsOkA_cons ?_ ?_
    · intro K vs W hR hD hK
      have dq3 : vs 3 = .bool true := hD 3 (by decide)
      clear hD
      try dsimp only at hK ⊢
      simp only [Act.put, List.setIfInBounds_toArray, List.set_cons_succ, List.set_cons_zero] at hK
      generalize vs 3 = vq3 at hK dq3 ⊢
      subst vq3
      have hbx := (HSd.out.at (hR)).2.2.2.2.2.2.1
      have q0 := hbx.cell 0 rfl
      have q1 := hbx.cell 1 rfl
      have q2 := hbx.cell 2 rfl
      go_wp2
      exact hK _ _ rfl (Mod.refl _ _)
    refine opsOkA_cons ?_ ?_
    · intro K vs W hR hD hK
      have dq3 : vs 3 = .bool true := hD 3 (by decide)
      clear hD
      try dsimp only at hK ⊢
      simp only [Act.put, List.setIfInBounds_toArray, List.set_cons_succ, List.set_cons_zero] at hK
      generalize vs 3 = vq3 at hK dq3 ⊢
      subst vq3
      go_wp2
      exact hK _ _ rfl (Mod.refl _ _)
    refine opsOkA_cons ?_ ?_
    · intro K vs W hR hD hK
      have dq3 : vs 3 = .bool true := hD 3 (by decide)
      have dq4 : vs 4 = .agg #[.slice a1 n1 d1, .slice a2 n2 d2, .slice a3 n3 d3] := hD 4 (by decide)
      have dq5 : vs 5 = .int .i64 (kb : Int) := hD 5 (by decide)
      clear hD
      try dsimp only at hK ⊢
      simp only [Act.put, List.setIfInBounds_toArray, List.set_cons_succ, List.set_cons_zero] at hK
      generalize vs 3 = vq3 at hK dq3 ⊢
      subst vq3
      generalize vs 4 = vq4 at hK dq4 ⊢
      subst vq4
      generalize vs 5 = vq5 at hK dq5 ⊢
      subst vq5
      go_wp2_with (go_at_call 17; refine (r4edge_any G W a1 n1 d1 a2 n2 d2 a3 n3 d3 ((HSd.out.at (hR)).2.2.2.2.2.2.2.1) (by omega) (kb : Int)).mono ?_; rintro e' w' ⟨rfl, hm'⟩; rw [decide_eq_true HB.out])
      exact hK _ _ rfl hm'
    refine opsOkA_cons ?_ ?_
    · intro K vs W hR hD hK
      have dq3 : vs 3 = .bool true := hD 3 (by decide)
      have dq6 : vs 6 = .bool true := hD 6 (by decide)
      clear hD
      try dsimp only at hK ⊢
      simp only [Act.put, List.setIfInBounds_toArray, List.set_cons_succ, List.set_cons_zero] at hK
      generalize vs 3 = vq3 at hK dq3 ⊢
      subst vq3
      generalize vs 6 = vq6 at hK dq6 ⊢
      subst vq6
      go_wp2
      exact hK _ _ rfl (Mod.refl _ _)
    refine opsOkA_cons ?_ ?_
    · intro K vs W hR hD hK
      have dq7 : vs 7 = .bool true := hD 7 (by decide)
      clear hD
      try dsimp only at hK ⊢
      simp only [Act.put, List.setIfInBounds_toArray, List.set_cons_succ, List.set_cons_zero] at hK
      generalize vs 7 = vq7 at hK dq7 ⊢
      subst vq7
      go_wp2
      exact hK _ _ rfl (Mod.refl _ _)
    refine opsOkA_cons ?_ ?_
    · intro K vs W hR hD hK
      have dq8 : vs 8 = .bool true := hD 8 (by decide)
      clear hD
      try dsimp only at hK ⊢
      simp only [Act.put, List.setIfInBounds_toArray, List.set_cons_succ, List.set_cons_zero] at hK
      generalize vs 8 = vq8 at hK dq8 ⊢
      subst vq8
      go_wp2
      exact hK _ _ rfl (Mod.refl _ _)
    refine opsOkA_cons ?_ ?_
    · intro K vs W hR hD hK
      have dq8 : vs 8 = .bool true := hD 8 (by decide)
      have dq9 : vs 9 = .pointer (some ⟨bx, 1, none⟩) := hD 9 (by decide)
      clear hD
      try dsimp only at hK ⊢
      simp only [Act.put, List.setIfInBounds_toArray, List.set_cons_succ, List.set_cons_zero] at hK
      generalize vs 8 = vq8 at hK dq8 ⊢
      subst vq8
      generalize vs 9 = vq9 at hK dq9 ⊢
      subst vq9
      have q0 := ((HSd.out.at (hR)).2.2.2.2.2.2.1).cell 1 rfl
      go_wp2
      exact hK _ _ rfl (Mod.refl _ _)
    refine opsOkA_cons ?_ ?_
    · intro K vs W hR hD hK
      have dq8 : vs 8 = .bool true := hD 8 (by decide)
      clear hD
      try dsimp only at hK ⊢
      simp only [Act.put, List.setIfInBounds_toArray, List.set_cons_succ, List.set_cons_zero] at hK
      generalize vs 8 = vq8 at hK dq8 ⊢
      subst vq8
      go_wp2
      exact hK _ _ rfl (Mod.refl _ _)
    refine opsOkA_cons ?_ ?_
    · intro K vs W hR hD hK
      have dq8 : vs 8 = .bool true := hD 8 (by decide)
      have dq10 : vs 10 = .slice a2 n2 d2 := hD 10 (by decide)
      have dq11 : vs 11 = .int .i64 (ka : Int) := hD 11 (by decide)
      clear hD
      try dsimp only at hK ⊢
      simp only [Act.put, List.setIfInBounds_toArray, List.set_cons_succ, List.set_cons_zero] at hK
      generalize vs 8 = vq8 at hK dq8 ⊢
      subst vq8
      generalize vs 10 = vq10 at hK dq10 ⊢
      subst vq10
      generalize vs 11 = vq11 at hK dq11 ⊢
      subst vq11
      have hix := HIa.out
      go_wp2_with fail
      exact hK _ _ rfl (Mod.refl _ _)
    refine opsOkA_cons ?_ ?_
    · intro K vs W hR hD hK
      have dq8 : vs 8 = .bool true := hD 8 (by decide)
      have dq12 : vs 12 = .pointer (some ⟨ab, ao, none⟩) := hD 12 (by decide)
      clear hD
      try dsimp only at hK ⊢
      simp only [Act.put, List.setIfInBounds_toArray, List.set_cons_succ, List.set_cons_zero] at hK
      generalize vs 8 = vq8 at hK dq8 ⊢
      subst vq8
      generalize vs 12 = vq12 at hK dq12 ⊢
      subst vq12
      go_wp2
      exact hK _ _ rfl (Mod.refl _ _)
    refine opsOkA_cons ?_ ?_
    · intro K vs W hR hD hK
      have dq8 : vs 8 = .bool true := hD 8 (by decide)
      have dq13 : vs 13 = .pointer (some ⟨ab, ao + 1, none⟩) := hD 13 (by decide)
      clear hD
      try dsimp only at hK ⊢
      simp only [Act.put, List.setIfInBounds_toArray, List.set_cons_succ, List.set_cons_zero] at hK
      generalize vs 8 = vq8 at hK dq8 ⊢
      subst vq8
      generalize vs 13 = vq13 at hK dq13 ⊢
      subst vq13
      have c0 := (HSd.out.at (hR)).2.2.2.2.1
      go_wp2
      exact hK _ _ rfl (Mod.refl _ _)
    refine opsOkA_cons ?_ ?_
    · intro K vs W hR hD hK
      have dq8 : vs 8 = .bool true := hD 8 (by decide)
      clear hD
      try dsimp only at hK ⊢
      simp only [Act.put, List.setIfInBounds_toArray, List.set_cons_succ, List.set_cons_zero] at hK
      generalize vs 8 = vq8 at hK dq8 ⊢
      subst vq8
      go_wp2
      exact hK _ _ rfl (Mod.refl _ _)
    refine opsOkA_cons ?_ ?_
    · intro K vs W hR hD hK
      have dq8 : vs 8 = .bool true := hD 8 (by decide)
      have dq15 : vs 15 = .pointer (some ⟨bx, 1, none⟩) := hD 15 (by decide)
      clear hD
      try dsimp only at hK ⊢
      simp only [Act.put, List.setIfInBounds_toArray, List.set_cons_succ, List.set_cons_zero] at hK
      generalize vs 8 = vq8 at hK dq8 ⊢
      subst vq8
      generalize vs 15 = vq15 at hK dq15 ⊢
      subst vq15
      have q0 := ((HSd.out.at (hR)).2.2.2.2.2.2.1).cell 1 rfl
      go_wp2
      exact hK _ _ rfl (Mod.refl _ _)
    refine opsOkA_cons ?_ ?_
    · intro K vs W hR hD hK
      have dq8 : vs 8 = .bool true := hD 8 (by decide)
      clear hD
      try dsimp only at hK ⊢
      simp only [Act.put, List.setIfInBounds_toArray, List.set_cons_succ, List.set_cons_zero] at hK
      generalize vs 8 = vq8 at hK dq8 ⊢
      subst vq8
      go_wp2
      exact hK _ _ rfl (Mod.refl _ _)
    refine opsOkA_cons ?_ ?_
    · intro K vs W hR hD hK
      have dq8 : vs 8 = .bool true := hD 8 (by decide)
      have dq16 : vs 16 = .slice a2 n2 d2 := hD 16 (by decide)
      have dq17 : vs 17 = .int .i64 (kb : Int) := hD 17 (by decide)
      clear hD
      try dsimp only at hK ⊢
      simp only [Act.put, List.setIfInBounds_toArray, List.set_cons_succ, List.set_cons_zero] at hK
      generalize vs 8 = vq8 at hK dq8 ⊢
      subst vq8
      generalize vs 16 = vq16 at hK dq16 ⊢
      subst vq16
      generalize vs 17 = vq17 at hK dq17 ⊢
      subst vq17
      have hix := HIb.out
      go_wp2_with fail
      exact hK _ _ rfl (Mod.refl _ _)
    refine opsOkA_cons ?_ ?_
    · intro K vs W hR hD hK
      have dq8 : vs 8 = .bool true := hD 8 (by decide)
      have dq18 : vs 18 = .pointer (some ⟨bb, bo, none⟩) := hD 18 (by decide)
      clear hD
      try dsimp only at hK ⊢
      simp only [Act.put, List.setIfInBounds_toArray, List.set_cons_succ, List.set_cons_zero] at hK
      generalize vs 8 = vq8 at hK dq8 ⊢
      subst vq8
      generalize vs 18 = vq18 at hK dq18 ⊢
      subst vq18
      go_wp2
      exact hK _ _ rfl (Mod.refl _ _)
    refine opsOkA_cons ?_ ?_
    · intro K vs W hR hD hK
      have dq8 : vs 8 = .bool true := hD 8 (by decide)
      have dq19 : vs 19 = .pointer (some ⟨bb, bo, none⟩) := hD 19 (by decide)
      clear hD
      try dsimp only at hK ⊢
      simp only [Act.put, List.setIfInBounds_toArray, List.set_cons_succ, List.set_cons_zero] at hK
      generalize vs 8 = vq8 at hK dq8 ⊢
      subst vq8
      generalize vs 19 = vq19 at hK dq19 ⊢
      subst vq19
      have c0 := (HSd.out.at (hR)).2.2.1
      go_wp2
      exact hK _ _ rfl (Mod.refl _ _)
    refine opsOkA_cons ?_ ?_
    · intro K vs W hR hD hK
      have dq8 : vs 8 = .bool true := hD 8 (by decide)
      have dq14 : vs 14 = .int .i64 ya := hD 14 (by decide)
      have dq20 : vs 20 = .int .i64 xb := hD 20 (by decide)
      clear hD
      try dsimp only at hK ⊢
      simp only [Act.put, List.setIfInBounds_toArray, List.set_cons_succ, List.set_cons_zero] at hK
      generalize vs 8 = vq8 at hK dq8 ⊢
      subst vq8
      generalize vs 14 = vq14 at hK dq14 ⊢
      subst vq14
      generalize vs 20 = vq20 at hK dq20 ⊢
      subst vq20
      have zE := ZE.out
      go_wp2
      exact hK _ _ rfl (Mod.refl _ _)
    refine opsOkA_cons ?_ ?_
    · intro K vs W hR hD hK
      have dq8 : vs 8 = .bool true := hD 8 (by decide)
      have dq21 : vs 21 = .bool true := hD 21 (by decide)
      clear hD
      try dsimp only at hK ⊢
      simp only [Act.put, List.setIfInBounds_toArray, List.set_cons_succ, List.set_cons_zero] at hK
      generalize vs 8 = vq8 at hK dq8 ⊢
      subst vq8
      generalize vs 21 = vq21 at hK dq21 ⊢
      subst vq21
      go_wp2
      exact hK _ _ rfl (Mod.refl _ _)
    refine opsOkA_cons ?_ ?_
    · intro K vs W hR hD hK
      have dq22 : vs 22 = .bool true := hD 22 (by decide)
      clear hD
      try dsimp only at hK ⊢
      simp only [Act.put, List.setIfInBounds_toArray, List.set_cons_succ, List.set_cons_zero] at hK
      generalize vs 22 = vq22 at hK dq22 ⊢
      subst vq22
      go_wp2
      exact hK _ _ rfl (Mod.refl _ _)
    refine opsOkA_cons ?_ ?_
    · intro K vs W hR hD hK
      have dq23 : vs 23 = .bool true := hD 23 (by decide)
      clear hD
      try dsimp only at hK ⊢
      simp only [Act.put, List.setIfInBounds_toArray, List.set_cons_succ, List.set_cons_zero] at hK
      generalize vs 23 = vq23 at hK dq23 ⊢
      subst vq23
      have hbx := (HSd.out.at (hR)).2.2.2.2.2.2.1
      have q0 := hbx.cell 0 rfl
      have q1 := hbx.cell 1 rfl
      have q2 := hbx.cell 2 rfl
      go_wp2
      exact hK _ _ rfl (Mod.refl _ _)
    refine opsOkA_cons ?_ ?_
    · intro K vs W hR hD hK
      have dq23 : vs 23 = .bool true := hD 23 (by decide)
      clear hD
      try dsimp only at hK ⊢
      simp only [Act.put, List.setIfInBounds_toArray, List.set_cons_succ, List.set_cons_zero] at hK
      generalize vs 23 = vq23 at hK dq23 ⊢
      subst vq23
      go_wp2
      exact hK _ _ rfl (Mod.refl _ _)
    refine opsOkA_cons ?_ ?_
    · intro K vs W hR hD hK
      have dq23 : vs 23 = .bool true := hD 23 (by decide)
      clear hD
      try dsimp only at hK ⊢
      simp only [Act.put, List.setIfInBounds_toArray, List.set_cons_succ, List.set_cons_zero] at hK
      generalize vs 23 = vq23 at hK dq23 ⊢
      subst vq23
      go_wp2
      exact hK _ _ rfl (Mod.refl _ _)
    refine opsOkA_cons ?_ ?_
    · intro K vs W hR hD hK
      have dq23 : vs 23 = .bool true := hD 23 (by decide)
      have dq24 : vs 24 = .agg #[.slice a1 n1 d1, .slice a2 n2 d2, .slice a3 n3 d3] := hD 24 (by decide)
      have dq25 : vs 25 = .int .i64 (ka : Int) := hD 25 (by decide)
      have dq26 : vs 26 = .int .i64 (kb : Int) := hD 26 (by decide)
      clear hD
      try dsimp only at hK ⊢
      simp only [Act.put, List.setIfInBounds_toArray, List.set_cons_succ, List.set_cons_zero] at hK
      generalize vs 23 = vq23 at hK dq23 ⊢
      subst vq23
      generalize vs 24 = vq24 at hK dq24 ⊢
      subst vq24
      generalize vs 25 = vq25 at hK dq25 ⊢
      subst vq25
      generalize vs 26 = vq26 at hK dq26 ⊢
      subst vq26
      go_wp2_with (go_at_call 57; refine (r4banned_any G W a1 n1 d1 a2 n2 d2 a3 n3 d3 ((HSd.out.at (hR)).2.2.2.2.2.2.2.1) (by have := ((HSd.out.at (hR)).2.2.2.2.2.2.2.1).b; omega) (ka : Int) (kb : Int)).mono ?_; rintro e' w' ⟨rfl, hm'⟩; rw [HBB.out])
      exact hK _ _ rfl hm'
    refine opsOkA_cons ?_ ?_
    · intro K vs W hR hD hK
      have dq23 : vs 23 = .bool true := hD 23 (by decide)
      have dq27 : vs 27 = .bool bq := hD 27 (by decide)
      clear hD
      try dsimp only at hK ⊢
      simp only [Act.put, List.setIfInBounds_toArray, List.set_cons_succ, List.set_cons_zero] at hK
      generalize vs 23 = vq23 at hK dq23 ⊢
      subst vq23
      generalize vs 27 = vq27 at hK dq27 ⊢
      subst vq27
      go_wp2
      exact hK _ _ rfl (Mod.refl _ _)
    refine opsOkA_cons ?_ ?_
    · intro K vs W hR hD hK
      have dq23 : vs 23 = .bool true := hD 23 (by decide)
      have dq28 : vs 28 = .bool (!bq) := hD 28 (by decide)
      clear hD
      try dsimp only at hK ⊢
      simp only [Act.put, List.setIfInBounds_toArray, List.set_cons_succ, List.set_cons_zero] at hK
      generalize vs 23 = vq23 at hK dq23 ⊢
      subst vq23
      generalize vs 28 = vq28 at hK dq28 ⊢
      subst vq28
      go_wp2
      exact hK _ _ rfl (Mod.refl _ _)
    refine opsOkA_cons ?_ ?_
    · intro K vs W hR hD hK
      have dq29 : vs 29 = .bool (!bq) := hD 29 (by decide)
      clear hD
      try dsimp only at hK ⊢
      simp only [Act.put, List.setIfInBounds_toArray, List.set_cons_succ, List.set_cons_zero] at hK
      generalize vs 29 = vq29 at hK dq29 ⊢
      subst vq29
      go_wp2
      exact hK _ _ rfl (Mod.refl _ _)
    exact opsOkA_nil
  · intro vs wq8 hR hF
    have dq30 : vs 30 = .bool (!bq) := hF 30 (by decide)
    clear hF
    try dsimp only
    generalize vs 30 = vq30 at dq30 ⊢
    subst dq30
    replace HS := Lib.hid (HSd.out.step hR)
    clear HSd hR
    have hbbx := (HS.out.now).2.2.2.2.2.2.1
    have qbx_0 := hbbx.cell 0 rfl
    have qbx_1 := hbbx.cell 1 rfl
    have qbx_2 := hbbx.cell 2 rfl
    have lbx := hbbx.lt
    clear hbbx
    go_wp2_with fail
    go_ret
    exact ⟨rfl, (HS.out.now).2.2.2.2.2.2.2.2⟩
end Go.Proofs.Ytbjdjafkpldbnaa
