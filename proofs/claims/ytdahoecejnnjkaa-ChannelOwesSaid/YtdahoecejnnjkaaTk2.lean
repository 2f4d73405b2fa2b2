/- taker's Take by contract. -/
import Derived.Test.YtdahoecejnnjkaaTk1
import Derived.Deep.DeepCutAuto
import Derived.Deep.CutBlock
namespace Go.Proofs.Ytdahoecejnnjkaa
open Go.RowKit Mile
set_option maxRecDepth 100000
/-- What each operation of the statement leaves. -/
def tn_r1_0_F (p : Nat) (N : Nat) (sv : Int) : List (Value → World → Prop) :=
  [IsV (.pointer (some ⟨p, 0, none⟩)),
   IsV (.bool false),
   IsV (.bool false),
   IsV (.int .i64 sv),
   IsV (.pointer (some ⟨p, 0, none⟩)),
   IsV (.pointer (some ⟨p, 0, none⟩)),
   IsV (.pointer (some ⟨p, 0, none⟩)),
   IsV (.int .i64 (N : Int)),
   IsV (.bool true),
   IsV (.bool true),
   IsV (.bool true),
   IsV (undef),
   IsV (undef),
   IsV (undef),
   IsV (undef),
   IsV (undef),
   IsV (undef),
   IsV (undef),
   IsV (undef),
   IsV (undef),
   IsV (undef),
   IsV (undef),
   IsV (undef),
   IsV (.bool true),
   IsV (.bool true),
   IsV (undef),
   IsV (undef),
   IsV (undef),
   IsV (undef),
   IsV (undef),
   IsV (undef),
   IsV (.bool true)]
def tn_r1_0_D : List (List Nat) := [[], [0], [1], [2], [2], [2, 4], [2, 5], [2, 6], [2, 3, 7], [2, 8], [9], [10], [10], [10], [10], [10], [10], [10], [10], [10], [10], [10], [10], [10, 22], [23], [24], [24], [24], [24], [24], [24], [24, 30]]

/-- What each operation of the statement leaves. -/
def tn_r1_1_F (p : Nat) (r : Nat) (M : Nat) (N : Nat) (sv : Int) : List (Value → World → Prop) :=
  [IsV (.pointer (some ⟨p, 0, none⟩)),
   IsV (.bool false),
   IsV (.bool false),
   IsV (.int .i64 sv),
   IsV (.pointer (some ⟨p, 0, none⟩)),
   IsV (.pointer (some ⟨p, 0, none⟩)),
   IsV (.pointer (some ⟨p, 0, none⟩)),
   IsV (.int .i64 (N : Int)),
   IsV (.bool false),
   IsV (.bool false),
   IsV (.bool false),
   IsV (.int .i64 sv),
   IsV (.pointer (some ⟨p, 0, none⟩)),
   IsV (.pointer (some ⟨p, 0, none⟩)),
   IsV (.pointer (some ⟨p, 0, none⟩)),
   IsV (.int .i64 (N : Int)),
   IsV (.pointer (some ⟨p, 0, none⟩)),
   IsV (.pointer (some ⟨p, 0, none⟩)),
   IsV (.pointer (some ⟨p, 1, none⟩)),
   IsV (.slice (some ⟨r, 0, none⟩) M M),
   IsV (.int .i64 (M : Int)),
   IsV (.int .i64 ((N : Int) + (M : Int))),
   IsV (.bool true),
   IsV (.bool true),
   IsV (.bool true),
   IsV (undef),
   IsV (undef),
   IsV (undef),
   IsV (undef),
   IsV (undef),
   IsV (undef),
   IsV (.bool true)]
def tn_r1_1_D : List (List Nat) := [[], [0], [1], [2], [2], [2, 4], [2, 5], [2, 6], [2, 3, 7], [2, 8], [9], [10], [10], [10, 12], [10, 13], [10, 14], [10], [10, 16], [10, 17], [10, 18], [10, 19], [10, 15, 20], [10, 11, 21], [10, 22], [23], [24], [24], [24], [24], [24], [24], [24, 30]]

/-- What each operation of the statement leaves. -/
def tn_r1_2_F (p : Nat) (r : Nat) (M : Nat) (N : Nat) (s : Nat) (q : Nat) : List (Value → World → Prop) :=
  [IsV (.pointer (some ⟨p, 0, none⟩)),
   IsV (.bool false),
   IsV (.bool false),
   IsV (.int .i64 (s : Int)),
   IsV (.pointer (some ⟨p, 0, none⟩)),
   IsV (.pointer (some ⟨p, 0, none⟩)),
   IsV (.pointer (some ⟨p, 0, none⟩)),
   IsV (.int .i64 (N : Int)),
   IsV (.bool false),
   IsV (.bool false),
   IsV (.bool false),
   IsV (.int .i64 (s : Int)),
   IsV (.pointer (some ⟨p, 0, none⟩)),
   IsV (.pointer (some ⟨p, 0, none⟩)),
   IsV (.pointer (some ⟨p, 0, none⟩)),
   IsV (.int .i64 (N : Int)),
   IsV (.pointer (some ⟨p, 0, none⟩)),
   IsV (.pointer (some ⟨p, 0, none⟩)),
   IsV (.pointer (some ⟨p, 1, none⟩)),
   IsV (.slice (some ⟨r, 0, none⟩) M M),
   IsV (.int .i64 (M : Int)),
   IsV (.int .i64 ((N : Int) + (M : Int))),
   IsV (.bool false),
   IsV (.bool false),
   IsV (.bool false),
   IsV (.pointer (some ⟨p, 0, none⟩)),
   IsV (.int .i64 (s : Int)),
   IsV (.pointer (some ⟨r, q * 2, none⟩)),
   IsV (.pointer (some ⟨r, q * 2, none⟩)),
   IsV (.pointer (some ⟨r, q * 2, none⟩)),
   IsV (.bool true),
   IsV (.bool true)]
def tn_r1_2_D : List (List Nat) := [[], [0], [1], [2], [2], [2, 4], [2, 5], [2, 6], [2, 3, 7], [2, 8], [9], [10], [10], [10, 12], [10, 13], [10, 14], [10], [10, 16], [10, 17], [10, 18], [10, 19], [10, 15, 20], [10, 11, 21], [10, 22], [23], [24], [24], [24, 25, 26], [24, 27], [24, 28], [24, 29], [24, 30]]

set_option maxHeartbeats 16000000 in
theorem tktake_no (w : World) (p r M N : Nat) (f : Hld) (h : TK w p r M N f) (hNb : N ≤ 1000000000000) (sv : Int) (hno : sv < (N : Int) ∨ (N : Int) + (M : Int) ≤ sv ∨ ∃ s : Nat, sv = (s : Int) ∧ f s ≠ none) (a : Option Addr) (n c : Nat) :
    Calls Try.prog 39 #[.pointer (some ⟨p, 0, none⟩), .int .i64 sv, .slice a n c] w fun e w' => e = .returned (.tuple #[.slice none 0 0, .bool false]) ∧ Mod (fun _ => False) w w' := by
  have HS : Hid (Ev (Mod (fun _ => False) w) w) := Lib.hid (Ev.mod w)
  replace HS := Lib.hid ((Ev.blk h.blk).and HS.out)
  have hbp := (HS.out.now).1
  have qp_0 := hbp.cell 0 rfl
  have qp_1 := hbp.cell 1 rfl
  have lp := hbp.lt
  clear hbp
  have hW := h.W0
  have hW6 := h.W16
  go_enter Try.func39, Try.ntmps39
  go_upto_region 1 with fail
  rcases hno with h1 | h1 | ⟨s, hs, hf⟩
  · skip
    have Z8 := Lib.hid (show decide (sv < (N : Int)) = true from by simp; omega)
    clear qp_0 qp_1 lp
    have HSd := Lib.hid HS.out.drew
    refine wp_region_inv3 (act := ?acttn_r1_0) (Mod (fun _ => False)) (fun i => (tn_r1_0_F p N sv).getD i (fun _ _ => True)) (fun i => tn_r1_0_D.getD i []) (by kernel_rfl) (by kernel_rfl) (by kernel_rfl) (by kernel_rfl) (fun _ => Mod.refl _ _)
      (fun _ _ _ h k => h.trans k (fun _ _ e => e) (fun _ _ e => e)) ?hacttn_r1_0 (stable_list ?_) ?_ ?_
    case hacttn_r1_0 => intro vs; simp only [putAll, Nat.zero_add, Nat.reduceAdd, Act.put, List.setIfInBounds_toArray, List.set_cons_succ, List.set_cons_zero]; exact rfl
    · unfold tn_r1_0_F
      exact stable_cons (stable_val _) <| stable_cons (stable_val _) <| stable_cons (stable_val _) <| stable_cons (stable_val _) <| stable_cons (stable_val _) <| stable_cons (stable_val _) <| stable_cons (stable_val _) <| stable_cons (stable_val _) <| stable_cons (stable_val _) <| stable_cons (stable_val _) <| stable_cons (stable_val _) <| stable_cons (stable_val _) <| stable_cons (stable_val _) <| stable_cons (stable_val _) <| stable_cons (stable_val _) <| stable_cons (stable_val _) <| stable_cons (stable_val _) <| stable_cons (stable_val _) <| stable_cons (stable_val _) <| stable_cons (stable_val _) <| stable_cons (stable_val _) <| stable_cons (stable_val _) <| stable_cons (stable_val _) <| stable_cons (stable_val _) <| stable_cons (stable_val _) <| stable_cons (stable_val _) <| stable_cons (stable_val _) <| stable_cons (stable_val _) <| stable_cons (stable_val _) <| stable_cons (stable_val _) <| stable_cons (stable_val _) <| stable_cons (stable_val _) <| stable_nil
    · refine opsOkA_cons ?_ ?_
      · intro K vs W hR hD hK
        clear hD
        try dsimp only at hK ⊢
        simp only [Act.put, List.setIfInBounds_toArray, List.set_cons_succ, List.set_cons_zero] at hK
        go_wp2
        exact hK _ _ rfl (Mod.refl _ _)
      refine opsOkA_cons ?_ ?_
      · intro K vs W hR hD hK
        have dq0 : vs 0 = .pointer (some ⟨p, 0, none⟩) := hD 0 (by decide)
        clear hD
        try dsimp only at hK ⊢
        simp only [Act.put, List.setIfInBounds_toArray, List.set_cons_succ, List.set_cons_zero] at hK
        generalize vs 0 = vq0 at hK dq0 ⊢
        subst vq0
        go_wp2
        exact hK _ _ rfl (Mod.refl _ _)
      refine opsOkA_cons ?_ ?_
      · intro K vs W hR hD hK
        have dq1 : vs 1 = .bool false := hD 1 (by decide)
        clear hD
        try dsimp only at hK ⊢
        simp only [Act.put, List.setIfInBounds_toArray, List.set_cons_succ, List.set_cons_zero] at hK
        generalize vs 1 = vq1 at hK dq1 ⊢
        subst vq1
        go_wp2
        exact hK _ _ rfl (Mod.refl _ _)
      refine opsOkA_cons ?_ ?_
      · intro K vs W hR hD hK
        have dq2 : vs 2 = .bool false := hD 2 (by decide)
        clear hD
        try dsimp only at hK ⊢
        simp only [Act.put, List.setIfInBounds_toArray, List.set_cons_succ, List.set_cons_zero] at hK
        generalize vs 2 = vq2 at hK dq2 ⊢
        subst vq2
        go_wp2
        exact hK _ _ rfl (Mod.refl _ _)
      refine opsOkA_cons ?_ ?_
      · intro K vs W hR hD hK
        have dq2 : vs 2 = .bool false := hD 2 (by decide)
        clear hD
        try dsimp only at hK ⊢
        simp only [Act.put, List.setIfInBounds_toArray, List.set_cons_succ, List.set_cons_zero] at hK
        generalize vs 2 = vq2 at hK dq2 ⊢
        subst vq2
        go_wp2
        exact hK _ _ rfl (Mod.refl _ _)
      refine opsOkA_cons ?_ ?_
      · intro K vs W hR hD hK
        have dq2 : vs 2 = .bool false := hD 2 (by decide)
        have dq4 : vs 4 = .pointer (some ⟨p, 0, none⟩) := hD 4 (by decide)
        clear hD
        try dsimp only at hK ⊢
        simp only [Act.put, List.setIfInBounds_toArray, List.set_cons_succ, List.set_cons_zero] at hK
        generalize vs 2 = vq2 at hK dq2 ⊢
        subst vq2
        generalize vs 4 = vq4 at hK dq4 ⊢
        subst vq4
        go_wp2
        exact hK _ _ rfl (Mod.refl _ _)
      refine opsOkA_cons ?_ ?_
      · intro K vs W hR hD hK
        have dq2 : vs 2 = .bool false := hD 2 (by decide)
        have dq5 : vs 5 = .pointer (some ⟨p, 0, none⟩) := hD 5 (by decide)
        clear hD
        try dsimp only at hK ⊢
        simp only [Act.put, List.setIfInBounds_toArray, List.set_cons_succ, List.set_cons_zero] at hK
        generalize vs 2 = vq2 at hK dq2 ⊢
        subst vq2
        generalize vs 5 = vq5 at hK dq5 ⊢
        subst vq5
        go_wp2
        exact hK _ _ rfl (Mod.refl _ _)
      refine opsOkA_cons ?_ ?_
      · intro K vs W hR hD hK
        have dq2 : vs 2 = .bool false := hD 2 (by decide)
        have dq6 : vs 6 = .pointer (some ⟨p, 0, none⟩) := hD 6 (by decide)
        clear hD
        try dsimp only at hK ⊢
        simp only [Act.put, List.setIfInBounds_toArray, List.set_cons_succ, List.set_cons_zero] at hK
        generalize vs 2 = vq2 at hK dq2 ⊢
        subst vq2
        generalize vs 6 = vq6 at hK dq6 ⊢
        subst vq6
        have q0 := ((HSd.out.at (hR)).1).cell 0 rfl
        go_wp2
        exact hK _ _ rfl (Mod.refl _ _)
      refine opsOkA_cons ?_ ?_
      · intro K vs W hR hD hK
        have dq2 : vs 2 = .bool false := hD 2 (by decide)
        have dq3 : vs 3 = .int .i64 sv := hD 3 (by decide)
        have dq7 : vs 7 = .int .i64 (N : Int) := hD 7 (by decide)
        clear hD
        try dsimp only at hK ⊢
        simp only [Act.put, List.setIfInBounds_toArray, List.set_cons_succ, List.set_cons_zero] at hK
        generalize vs 2 = vq2 at hK dq2 ⊢
        subst vq2
        generalize vs 3 = vq3 at hK dq3 ⊢
        subst vq3
        generalize vs 7 = vq7 at hK dq7 ⊢
        subst vq7
        have zz := Z8.out
        go_wp2
        exact hK _ _ rfl (Mod.refl _ _)
      refine opsOkA_cons ?_ ?_
      · intro K vs W hR hD hK
        have dq2 : vs 2 = .bool false := hD 2 (by decide)
        have dq8 : vs 8 = .bool true := hD 8 (by decide)
        clear hD
        try dsimp only at hK ⊢
        simp only [Act.put, List.setIfInBounds_toArray, List.set_cons_succ, List.set_cons_zero] at hK
        generalize vs 2 = vq2 at hK dq2 ⊢
        subst vq2
        generalize vs 8 = vq8 at hK dq8 ⊢
        subst vq8
        go_wp2
        exact hK _ _ rfl (Mod.refl _ _)
      refine opsOkA_cons ?_ ?_
      · intro K vs W hR hD hK
        have dq9 : vs 9 = .bool true := hD 9 (by decide)
        clear hD
        try dsimp only at hK ⊢
        simp only [Act.put, List.setIfInBounds_toArray, List.set_cons_succ, List.set_cons_zero] at hK
        generalize vs 9 = vq9 at hK dq9 ⊢
        subst vq9
        go_wp2
        exact hK _ _ rfl (Mod.refl _ _)
      refine opsOkA_cons ?_ ?_
      · intro K vs W hR hD hK
        have dq10 : vs 10 = .bool true := hD 10 (by decide)
        clear hD
        try dsimp only at hK ⊢
        simp only [Act.put, List.setIfInBounds_toArray, List.set_cons_succ, List.set_cons_zero] at hK
        generalize vs 10 = vq10 at hK dq10 ⊢
        subst vq10
        go_wp2
        exact hK _ _ rfl (Mod.refl _ _)
      refine opsOkA_cons ?_ ?_
      · intro K vs W hR hD hK
        have dq10 : vs 10 = .bool true := hD 10 (by decide)
        clear hD
        try dsimp only at hK ⊢
        simp only [Act.put, List.setIfInBounds_toArray, List.set_cons_succ, List.set_cons_zero] at hK
        generalize vs 10 = vq10 at hK dq10 ⊢
        subst vq10
        go_wp2
        exact hK _ _ rfl (Mod.refl _ _)
      refine opsOkA_cons ?_ ?_
      · intro K vs W hR hD hK
        have dq10 : vs 10 = .bool true := hD 10 (by decide)
        clear hD
        try dsimp only at hK ⊢
        simp only [Act.put, List.setIfInBounds_toArray, List.set_cons_succ, List.set_cons_zero] at hK
        generalize vs 10 = vq10 at hK dq10 ⊢
        subst vq10
        go_wp2
        exact hK _ _ rfl (Mod.refl _ _)
      refine opsOkA_cons ?_ ?_
      · intro K vs W hR hD hK
        have dq10 : vs 10 = .bool true := hD 10 (by decide)
        clear hD
        try dsimp only at hK ⊢
        simp only [Act.put, List.setIfInBounds_toArray, List.set_cons_succ, List.set_cons_zero] at hK
        generalize vs 10 = vq10 at hK dq10 ⊢
        subst vq10
        go_wp2
        exact hK _ _ rfl (Mod.refl _ _)
      refine opsOkA_cons ?_ ?_
      · intro K vs W hR hD hK
        have dq10 : vs 10 = .bool true := hD 10 (by decide)
        clear hD
        try dsimp only at hK ⊢
        simp only [Act.put, List.setIfInBounds_toArray, List.set_cons_succ, List.set_cons_zero] at hK
        generalize vs 10 = vq10 at hK dq10 ⊢
        subst vq10
        go_wp2
        exact hK _ _ rfl (Mod.refl _ _)
      refine opsOkA_cons ?_ ?_
      · intro K vs W hR hD hK
        have dq10 : vs 10 = .bool true := hD 10 (by decide)
        clear hD
        try dsimp only at hK ⊢
        simp only [Act.put, List.setIfInBounds_toArray, List.set_cons_succ, List.set_cons_zero] at hK
        generalize vs 10 = vq10 at hK dq10 ⊢
        subst vq10
        go_wp2
        exact hK _ _ rfl (Mod.refl _ _)
      refine opsOkA_cons ?_ ?_
      · intro K vs W hR hD hK
        have dq10 : vs 10 = .bool true := hD 10 (by decide)
        clear hD
        try dsimp only at hK ⊢
        simp only [Act.put, List.setIfInBounds_toArray, List.set_cons_succ, List.set_cons_zero] at hK
        generalize vs 10 = vq10 at hK dq10 ⊢
        subst vq10
        go_wp2
        exact hK _ _ rfl (Mod.refl _ _)
      refine opsOkA_cons ?_ ?_
      · intro K vs W hR hD hK
        have dq10 : vs 10 = .bool true := hD 10 (by decide)
        clear hD
        try dsimp only at hK ⊢
        simp only [Act.put, List.setIfInBounds_toArray, List.set_cons_succ, List.set_cons_zero] at hK
        generalize vs 10 = vq10 at hK dq10 ⊢
        subst vq10
        go_wp2
        exact hK _ _ rfl (Mod.refl _ _)
      refine opsOkA_cons ?_ ?_
      · intro K vs W hR hD hK
        have dq10 : vs 10 = .bool true := hD 10 (by decide)
        clear hD
        try dsimp only at hK ⊢
        simp only [Act.put, List.setIfInBounds_toArray, List.set_cons_succ, List.set_cons_zero] at hK
        generalize vs 10 = vq10 at hK dq10 ⊢
        subst vq10
        go_wp2
        exact hK _ _ rfl (Mod.refl _ _)
      refine opsOkA_cons ?_ ?_
      · intro K vs W hR hD hK
        have dq10 : vs 10 = .bool true := hD 10 (by decide)
        clear hD
        try dsimp only at hK ⊢
        simp only [Act.put, List.setIfInBounds_toArray, List.set_cons_succ, List.set_cons_zero] at hK
        generalize vs 10 = vq10 at hK dq10 ⊢
        subst vq10
        go_wp2_with fail
        exact hK _ _ rfl (Mod.refl _ _)
      refine opsOkA_cons ?_ ?_
      · intro K vs W hR hD hK
        have dq10 : vs 10 = .bool true := hD 10 (by decide)
        clear hD
        try dsimp only at hK ⊢
        simp only [Act.put, List.setIfInBounds_toArray, List.set_cons_succ, List.set_cons_zero] at hK
        generalize vs 10 = vq10 at hK dq10 ⊢
        subst vq10
        go_wp2
        exact hK _ _ rfl (Mod.refl _ _)
      refine opsOkA_cons ?_ ?_
      · intro K vs W hR hD hK
        have dq10 : vs 10 = .bool true := hD 10 (by decide)
        clear hD
        try dsimp only at hK ⊢
        simp only [Act.put, List.setIfInBounds_toArray, List.set_cons_succ, List.set_cons_zero] at hK
        generalize vs 10 = vq10 at hK dq10 ⊢
        subst vq10
        go_wp2
        exact hK _ _ rfl (Mod.refl _ _)
      refine opsOkA_cons ?_ ?_
      · intro K vs W hR hD hK
        have dq10 : vs 10 = .bool true := hD 10 (by decide)
        have dq22 : vs 22 = undef := hD 22 (by decide)
        clear hD
        try dsimp only at hK ⊢
        simp only [Act.put, List.setIfInBounds_toArray, List.set_cons_succ, List.set_cons_zero] at hK
        generalize vs 10 = vq10 at hK dq10 ⊢
        subst vq10
        generalize vs 22 = vq22 at hK dq22 ⊢
        subst vq22
        go_wp2
        exact hK _ _ rfl (Mod.refl _ _)
      refine opsOkA_cons ?_ ?_
      · intro K vs W hR hD hK
        have dq23 : vs 23 = .bool true := hD 23 (by decide)
        clear hD
        try dsimp only at hK ⊢
        simp only [Act.put, List.setIfInBounds_toArray, List.set_cons_succ, List.set_cons_zero] at hK
        generalize vs 23 = vq23 at hK dq23 ⊢
        subst vq23
        go_wp2
        exact hK _ _ rfl (Mod.refl _ _)
      refine opsOkA_cons ?_ ?_
      · intro K vs W hR hD hK
        have dq24 : vs 24 = .bool true := hD 24 (by decide)
        clear hD
        try dsimp only at hK ⊢
        simp only [Act.put, List.setIfInBounds_toArray, List.set_cons_succ, List.set_cons_zero] at hK
        generalize vs 24 = vq24 at hK dq24 ⊢
        subst vq24
        go_wp2
        exact hK _ _ rfl (Mod.refl _ _)
      refine opsOkA_cons ?_ ?_
      · intro K vs W hR hD hK
        have dq24 : vs 24 = .bool true := hD 24 (by decide)
        clear hD
        try dsimp only at hK ⊢
        simp only [Act.put, List.setIfInBounds_toArray, List.set_cons_succ, List.set_cons_zero] at hK
        generalize vs 24 = vq24 at hK dq24 ⊢
        subst vq24
        go_wp2
        exact hK _ _ rfl (Mod.refl _ _)
      refine opsOkA_cons ?_ ?_
      · intro K vs W hR hD hK
        have dq24 : vs 24 = .bool true := hD 24 (by decide)
        clear hD
        try dsimp only at hK ⊢
        simp only [Act.put, List.setIfInBounds_toArray, List.set_cons_succ, List.set_cons_zero] at hK
        generalize vs 24 = vq24 at hK dq24 ⊢
        subst vq24
        go_wp2_with fail
        exact hK _ _ rfl (Mod.refl _ _)
      refine opsOkA_cons ?_ ?_
      · intro K vs W hR hD hK
        have dq24 : vs 24 = .bool true := hD 24 (by decide)
        clear hD
        try dsimp only at hK ⊢
        simp only [Act.put, List.setIfInBounds_toArray, List.set_cons_succ, List.set_cons_zero] at hK
        generalize vs 24 = vq24 at hK dq24 ⊢
        subst vq24
        go_wp2
        exact hK _ _ rfl (Mod.refl _ _)
      refine opsOkA_cons ?_ ?_
      · intro K vs W hR hD hK
        have dq24 : vs 24 = .bool true := hD 24 (by decide)
        clear hD
        try dsimp only at hK ⊢
        simp only [Act.put, List.setIfInBounds_toArray, List.set_cons_succ, List.set_cons_zero] at hK
        generalize vs 24 = vq24 at hK dq24 ⊢
        subst vq24
        go_wp2
        exact hK _ _ rfl (Mod.refl _ _)
      refine opsOkA_cons ?_ ?_
      · intro K vs W hR hD hK
        have dq24 : vs 24 = .bool true := hD 24 (by decide)
        clear hD
        try dsimp only at hK ⊢
        simp only [Act.put, List.setIfInBounds_toArray, List.set_cons_succ, List.set_cons_zero] at hK
        generalize vs 24 = vq24 at hK dq24 ⊢
        subst vq24
        go_wp2
        exact hK _ _ rfl (Mod.refl _ _)
      refine opsOkA_cons ?_ ?_
      · intro K vs W hR hD hK
        have dq24 : vs 24 = .bool true := hD 24 (by decide)
        have dq30 : vs 30 = undef := hD 30 (by decide)
        clear hD
        try dsimp only at hK ⊢
        simp only [Act.put, List.setIfInBounds_toArray, List.set_cons_succ, List.set_cons_zero] at hK
        generalize vs 24 = vq24 at hK dq24 ⊢
        subst vq24
        generalize vs 30 = vq30 at hK dq30 ⊢
        subst vq30
        go_wp2
        exact hK _ _ rfl (Mod.refl _ _)
      exact opsOkA_nil
    · intro vs wq1 hR hF
      have dq31 : vs 31 = .bool true := hF 31 (by decide)
      clear hF
      try dsimp only
      generalize vs 31 = vq31 at dq31 ⊢
      subst dq31
      replace HS := Lib.hid (HSd.out.step hR)
      clear HSd hR
      have hbp := (HS.out.now).1
      have qp_0 := hbp.cell 0 rfl
      have qp_1 := hbp.cell 1 rfl
      have lp := hbp.lt
      clear hbp
      go_wp2_with fail
      go_ret2
      exact ⟨rfl, (HS.out.now).2⟩
  · skip
    have Z8 := Lib.hid (show decide (sv < (N : Int)) = false from by simp; omega)
    have Z22 := Lib.hid (show decide ((N : Int) + (M : Int) ≤ sv) = true from by simp; omega)
    clear qp_0 qp_1 lp
    have HSd := Lib.hid HS.out.drew
    refine wp_region_inv3 (act := ?acttn_r1_1) (Mod (fun _ => False)) (fun i => (tn_r1_1_F p r M N sv).getD i (fun _ _ => True)) (fun i => tn_r1_1_D.getD i []) (by kernel_rfl) (by kernel_rfl) (by kernel_rfl) (by kernel_rfl) (fun _ => Mod.refl _ _)
      (fun _ _ _ h k => h.trans k (fun _ _ e => e) (fun _ _ e => e)) ?hacttn_r1_1 (stable_list ?_) ?_ ?_
    case hacttn_r1_1 => intro vs; simp only [putAll, Nat.zero_add, Nat.reduceAdd, Act.put, List.setIfInBounds_toArray, List.set_cons_succ, List.set_cons_zero]; exact rfl
    · unfold tn_r1_1_F
      exact stable_cons (stable_val _) <| stable_cons (stable_val _) <| stable_cons (stable_val _) <| stable_cons (stable_val _) <| stable_cons (stable_val _) <| stable_cons (stable_val _) <| stable_cons (stable_val _) <| stable_cons (stable_val _) <| stable_cons (stable_val _) <| stable_cons (stable_val _) <| stable_cons (stable_val _) <| stable_cons (stable_val _) <| stable_cons (stable_val _) <| stable_cons (stable_val _) <| stable_cons (stable_val _) <| stable_cons (stable_val _) <| stable_cons (stable_val _) <| stable_cons (stable_val _) <| stable_cons (stable_val _) <| stable_cons (stable_val _) <| stable_cons (stable_val _) <| stable_cons (stable_val _) <| stable_cons (stable_val _) <| stable_cons (stable_val _) <| stable_cons (stable_val _) <| stable_cons (stable_val _) <| stable_cons (stable_val _) <| stable_cons (stable_val _) <| stable_cons (stable_val _) <| stable_cons (stable_val _) <| stable_cons (stable_val _) <| stable_cons (stable_val _) <| stable_nil
    · refine opsOkA_cons ?_ ?_
      · intro K vs W hR hD hK
        clear hD
        try dsimp only at hK ⊢
        simp only [Act.put, List.setIfInBounds_toArray, List.set_cons_succ, List.set_cons_zero] at hK
        go_wp2
        exact hK _ _ rfl (Mod.refl _ _)
      refine opsOkA_cons ?_ ?_
      · intro K vs W hR hD hK
        have dq0 : vs 0 = .pointer (some ⟨p, 0, none⟩) := hD 0 (by decide)
        clear hD
        try dsimp only at hK ⊢
        simp only [Act.put, List.setIfInBounds_toArray, List.set_cons_succ, List.set_cons_zero] at hK
        generalize vs 0 = vq0 at hK dq0 ⊢
        subst vq0
        go_wp2
        exact hK _ _ rfl (Mod.refl _ _)
      refine opsOkA_cons ?_ ?_
      · intro K vs W hR hD hK
        have dq1 : vs 1 = .bool false := hD 1 (by decide)
        clear hD
        try dsimp only at hK ⊢
        simp only [Act.put, List.setIfInBounds_toArray, List.set_cons_succ, List.set_cons_zero] at hK
        generalize vs 1 = vq1 at hK dq1 ⊢
        subst vq1
        go_wp2
        exact hK _ _ rfl (Mod.refl _ _)
      refine opsOkA_cons ?_ ?_
      · intro K vs W hR hD hK
        have dq2 : vs 2 = .bool false := hD 2 (by decide)
        clear hD
        try dsimp only at hK ⊢
        simp only [Act.put, List.setIfInBounds_toArray, List.set_cons_succ, List.set_cons_zero] at hK
        generalize vs 2 = vq2 at hK dq2 ⊢
        subst vq2
        go_wp2
        exact hK _ _ rfl (Mod.refl _ _)
      refine opsOkA_cons ?_ ?_
      · intro K vs W hR hD hK
        have dq2 : vs 2 = .bool false := hD 2 (by decide)
        clear hD
        try dsimp only at hK ⊢
        simp only [Act.put, List.setIfInBounds_toArray, List.set_cons_succ, List.set_cons_zero] at hK
        generalize vs 2 = vq2 at hK dq2 ⊢
        subst vq2
        go_wp2
        exact hK _ _ rfl (Mod.refl _ _)
      refine opsOkA_cons ?_ ?_
      · intro K vs W hR hD hK
        have dq2 : vs 2 = .bool false := hD 2 (by decide)
        have dq4 : vs 4 = .pointer (some ⟨p, 0, none⟩) := hD 4 (by decide)
        clear hD
        try dsimp only at hK ⊢
        simp only [Act.put, List.setIfInBounds_toArray, List.set_cons_succ, List.set_cons_zero] at hK
        generalize vs 2 = vq2 at hK dq2 ⊢
        subst vq2
        generalize vs 4 = vq4 at hK dq4 ⊢
        subst vq4
        go_wp2
        exact hK _ _ rfl (Mod.refl _ _)
      refine opsOkA_cons ?_ ?_
      · intro K vs W hR hD hK
        have dq2 : vs 2 = .bool false := hD 2 (by decide)
        have dq5 : vs 5 = .pointer (some ⟨p, 0, none⟩) := hD 5 (by decide)
        clear hD
        try dsimp only at hK ⊢
        simp only [Act.put, List.setIfInBounds_toArray, List.set_cons_succ, List.set_cons_zero] at hK
        generalize vs 2 = vq2 at hK dq2 ⊢
        subst vq2
        generalize vs 5 = vq5 at hK dq5 ⊢
        subst vq5
        go_wp2
        exact hK _ _ rfl (Mod.refl _ _)
      refine opsOkA_cons ?_ ?_
      · intro K vs W hR hD hK
        have dq2 : vs 2 = .bool false := hD 2 (by decide)
        have dq6 : vs 6 = .pointer (some ⟨p, 0, none⟩) := hD 6 (by decide)
        clear hD
        try dsimp only at hK ⊢
        simp only [Act.put, List.setIfInBounds_toArray, List.set_cons_succ, List.set_cons_zero] at hK
        generalize vs 2 = vq2 at hK dq2 ⊢
        subst vq2
        generalize vs 6 = vq6 at hK dq6 ⊢
        subst vq6
        have q0 := ((HSd.out.at (hR)).1).cell 0 rfl
        go_wp2
        exact hK _ _ rfl (Mod.refl _ _)
      refine opsOkA_cons ?_ ?_
      · intro K vs W hR hD hK
        have dq2 : vs 2 = .bool false := hD 2 (by decide)
        have dq3 : vs 3 = .int .i64 sv := hD 3 (by decide)
        have dq7 : vs 7 = .int .i64 (N : Int) := hD 7 (by decide)
        clear hD
        try dsimp only at hK ⊢
        simp only [Act.put, List.setIfInBounds_toArray, List.set_cons_succ, List.set_cons_zero] at hK
        generalize vs 2 = vq2 at hK dq2 ⊢
        subst vq2
        generalize vs 3 = vq3 at hK dq3 ⊢
        subst vq3
        generalize vs 7 = vq7 at hK dq7 ⊢
        subst vq7
        have zz := Z8.out
        go_wp2
        exact hK _ _ rfl (Mod.refl _ _)
      refine opsOkA_cons ?_ ?_
      · intro K vs W hR hD hK
        have dq2 : vs 2 = .bool false := hD 2 (by decide)
        have dq8 : vs 8 = .bool false := hD 8 (by decide)
        clear hD
        try dsimp only at hK ⊢
        simp only [Act.put, List.setIfInBounds_toArray, List.set_cons_succ, List.set_cons_zero] at hK
        generalize vs 2 = vq2 at hK dq2 ⊢
        subst vq2
        generalize vs 8 = vq8 at hK dq8 ⊢
        subst vq8
        go_wp2
        exact hK _ _ rfl (Mod.refl _ _)
      refine opsOkA_cons ?_ ?_
      · intro K vs W hR hD hK
        have dq9 : vs 9 = .bool false := hD 9 (by decide)
        clear hD
        try dsimp only at hK ⊢
        simp only [Act.put, List.setIfInBounds_toArray, List.set_cons_succ, List.set_cons_zero] at hK
        generalize vs 9 = vq9 at hK dq9 ⊢
        subst vq9
        go_wp2
        exact hK _ _ rfl (Mod.refl _ _)
      refine opsOkA_cons ?_ ?_
      · intro K vs W hR hD hK
        have dq10 : vs 10 = .bool false := hD 10 (by decide)
        clear hD
        try dsimp only at hK ⊢
        simp only [Act.put, List.setIfInBounds_toArray, List.set_cons_succ, List.set_cons_zero] at hK
        generalize vs 10 = vq10 at hK dq10 ⊢
        subst vq10
        go_wp2
        exact hK _ _ rfl (Mod.refl _ _)
      refine opsOkA_cons ?_ ?_
      · intro K vs W hR hD hK
        have dq10 : vs 10 = .bool false := hD 10 (by decide)
        clear hD
        try dsimp only at hK ⊢
        simp only [Act.put, List.setIfInBounds_toArray, List.set_cons_succ, List.set_cons_zero] at hK
        generalize vs 10 = vq10 at hK dq10 ⊢
        subst vq10
        go_wp2
        exact hK _ _ rfl (Mod.refl _ _)
      refine opsOkA_cons ?_ ?_
      · intro K vs W hR hD hK
        have dq10 : vs 10 = .bool false := hD 10 (by decide)
        have dq12 : vs 12 = .pointer (some ⟨p, 0, none⟩) := hD 12 (by decide)
        clear hD
        try dsimp only at hK ⊢
        simp only [Act.put, List.setIfInBounds_toArray, List.set_cons_succ, List.set_cons_zero] at hK
        generalize vs 10 = vq10 at hK dq10 ⊢
        subst vq10
        generalize vs 12 = vq12 at hK dq12 ⊢
        subst vq12
        go_wp2
        exact hK _ _ rfl (Mod.refl _ _)
      refine opsOkA_cons ?_ ?_
      · intro K vs W hR hD hK
        have dq10 : vs 10 = .bool false := hD 10 (by decide)
        have dq13 : vs 13 = .pointer (some ⟨p, 0, none⟩) := hD 13 (by decide)
        clear hD
        try dsimp only at hK ⊢
        simp only [Act.put, List.setIfInBounds_toArray, List.set_cons_succ, List.set_cons_zero] at hK
        generalize vs 10 = vq10 at hK dq10 ⊢
        subst vq10
        generalize vs 13 = vq13 at hK dq13 ⊢
        subst vq13
        go_wp2
        exact hK _ _ rfl (Mod.refl _ _)
      refine opsOkA_cons ?_ ?_
      · intro K vs W hR hD hK
        have dq10 : vs 10 = .bool false := hD 10 (by decide)
        have dq14 : vs 14 = .pointer (some ⟨p, 0, none⟩) := hD 14 (by decide)
        clear hD
        try dsimp only at hK ⊢
        simp only [Act.put, List.setIfInBounds_toArray, List.set_cons_succ, List.set_cons_zero] at hK
        generalize vs 10 = vq10 at hK dq10 ⊢
        subst vq10
        generalize vs 14 = vq14 at hK dq14 ⊢
        subst vq14
        have q0 := ((HSd.out.at (hR)).1).cell 0 rfl
        go_wp2
        exact hK _ _ rfl (Mod.refl _ _)
      refine opsOkA_cons ?_ ?_
      · intro K vs W hR hD hK
        have dq10 : vs 10 = .bool false := hD 10 (by decide)
        clear hD
        try dsimp only at hK ⊢
        simp only [Act.put, List.setIfInBounds_toArray, List.set_cons_succ, List.set_cons_zero] at hK
        generalize vs 10 = vq10 at hK dq10 ⊢
        subst vq10
        go_wp2
        exact hK _ _ rfl (Mod.refl _ _)
      refine opsOkA_cons ?_ ?_
      · intro K vs W hR hD hK
        have dq10 : vs 10 = .bool false := hD 10 (by decide)
        have dq16 : vs 16 = .pointer (some ⟨p, 0, none⟩) := hD 16 (by decide)
        clear hD
        try dsimp only at hK ⊢
        simp only [Act.put, List.setIfInBounds_toArray, List.set_cons_succ, List.set_cons_zero] at hK
        generalize vs 10 = vq10 at hK dq10 ⊢
        subst vq10
        generalize vs 16 = vq16 at hK dq16 ⊢
        subst vq16
        go_wp2
        exact hK _ _ rfl (Mod.refl _ _)
      refine opsOkA_cons ?_ ?_
      · intro K vs W hR hD hK
        have dq10 : vs 10 = .bool false := hD 10 (by decide)
        have dq17 : vs 17 = .pointer (some ⟨p, 0, none⟩) := hD 17 (by decide)
        clear hD
        try dsimp only at hK ⊢
        simp only [Act.put, List.setIfInBounds_toArray, List.set_cons_succ, List.set_cons_zero] at hK
        generalize vs 10 = vq10 at hK dq10 ⊢
        subst vq10
        generalize vs 17 = vq17 at hK dq17 ⊢
        subst vq17
        go_wp2
        exact hK _ _ rfl (Mod.refl _ _)
      refine opsOkA_cons ?_ ?_
      · intro K vs W hR hD hK
        have dq10 : vs 10 = .bool false := hD 10 (by decide)
        have dq18 : vs 18 = .pointer (some ⟨p, 1, none⟩) := hD 18 (by decide)
        clear hD
        try dsimp only at hK ⊢
        simp only [Act.put, List.setIfInBounds_toArray, List.set_cons_succ, List.set_cons_zero] at hK
        generalize vs 10 = vq10 at hK dq10 ⊢
        subst vq10
        generalize vs 18 = vq18 at hK dq18 ⊢
        subst vq18
        have q0 := ((HSd.out.at (hR)).1).cell 1 rfl
        go_wp2
        exact hK _ _ rfl (Mod.refl _ _)
      refine opsOkA_cons ?_ ?_
      · intro K vs W hR hD hK
        have dq10 : vs 10 = .bool false := hD 10 (by decide)
        have dq19 : vs 19 = .slice (some ⟨r, 0, none⟩) M M := hD 19 (by decide)
        clear hD
        try dsimp only at hK ⊢
        simp only [Act.put, List.setIfInBounds_toArray, List.set_cons_succ, List.set_cons_zero] at hK
        generalize vs 10 = vq10 at hK dq10 ⊢
        subst vq10
        generalize vs 19 = vq19 at hK dq19 ⊢
        subst vq19
        go_wp2_with fail
        exact hK _ _ rfl (Mod.refl _ _)
      refine opsOkA_cons ?_ ?_
      · intro K vs W hR hD hK
        have dq10 : vs 10 = .bool false := hD 10 (by decide)
        have dq15 : vs 15 = .int .i64 (N : Int) := hD 15 (by decide)
        have dq20 : vs 20 = .int .i64 (M : Int) := hD 20 (by decide)
        clear hD
        try dsimp only at hK ⊢
        simp only [Act.put, List.setIfInBounds_toArray, List.set_cons_succ, List.set_cons_zero] at hK
        generalize vs 10 = vq10 at hK dq10 ⊢
        subst vq10
        generalize vs 15 = vq15 at hK dq15 ⊢
        subst vq15
        generalize vs 20 = vq20 at hK dq20 ⊢
        subst vq20
        go_wp2
        exact hK _ _ rfl (Mod.refl _ _)
      refine opsOkA_cons ?_ ?_
      · intro K vs W hR hD hK
        have dq10 : vs 10 = .bool false := hD 10 (by decide)
        have dq11 : vs 11 = .int .i64 sv := hD 11 (by decide)
        have dq21 : vs 21 = .int .i64 ((N : Int) + (M : Int)) := hD 21 (by decide)
        clear hD
        try dsimp only at hK ⊢
        simp only [Act.put, List.setIfInBounds_toArray, List.set_cons_succ, List.set_cons_zero] at hK
        generalize vs 10 = vq10 at hK dq10 ⊢
        subst vq10
        generalize vs 11 = vq11 at hK dq11 ⊢
        subst vq11
        generalize vs 21 = vq21 at hK dq21 ⊢
        subst vq21
        have zz := Z22.out
        go_wp2
        exact hK _ _ rfl (Mod.refl _ _)
      refine opsOkA_cons ?_ ?_
      · intro K vs W hR hD hK
        have dq10 : vs 10 = .bool false := hD 10 (by decide)
        have dq22 : vs 22 = .bool true := hD 22 (by decide)
        clear hD
        try dsimp only at hK ⊢
        simp only [Act.put, List.setIfInBounds_toArray, List.set_cons_succ, List.set_cons_zero] at hK
        generalize vs 10 = vq10 at hK dq10 ⊢
        subst vq10
        generalize vs 22 = vq22 at hK dq22 ⊢
        subst vq22
        go_wp2
        exact hK _ _ rfl (Mod.refl _ _)
      refine opsOkA_cons ?_ ?_
      · intro K vs W hR hD hK
        have dq23 : vs 23 = .bool true := hD 23 (by decide)
        clear hD
        try dsimp only at hK ⊢
        simp only [Act.put, List.setIfInBounds_toArray, List.set_cons_succ, List.set_cons_zero] at hK
        generalize vs 23 = vq23 at hK dq23 ⊢
        subst vq23
        go_wp2
        exact hK _ _ rfl (Mod.refl _ _)
      refine opsOkA_cons ?_ ?_
      · intro K vs W hR hD hK
        have dq24 : vs 24 = .bool true := hD 24 (by decide)
        clear hD
        try dsimp only at hK ⊢
        simp only [Act.put, List.setIfInBounds_toArray, List.set_cons_succ, List.set_cons_zero] at hK
        generalize vs 24 = vq24 at hK dq24 ⊢
        subst vq24
        go_wp2
        exact hK _ _ rfl (Mod.refl _ _)
      refine opsOkA_cons ?_ ?_
      · intro K vs W hR hD hK
        have dq24 : vs 24 = .bool true := hD 24 (by decide)
        clear hD
        try dsimp only at hK ⊢
        simp only [Act.put, List.setIfInBounds_toArray, List.set_cons_succ, List.set_cons_zero] at hK
        generalize vs 24 = vq24 at hK dq24 ⊢
        subst vq24
        go_wp2
        exact hK _ _ rfl (Mod.refl _ _)
      refine opsOkA_cons ?_ ?_
      · intro K vs W hR hD hK
        have dq24 : vs 24 = .bool true := hD 24 (by decide)
        clear hD
        try dsimp only at hK ⊢
        simp only [Act.put, List.setIfInBounds_toArray, List.set_cons_succ, List.set_cons_zero] at hK
        generalize vs 24 = vq24 at hK dq24 ⊢
        subst vq24
        go_wp2_with fail
        exact hK _ _ rfl (Mod.refl _ _)
      refine opsOkA_cons ?_ ?_
      · intro K vs W hR hD hK
        have dq24 : vs 24 = .bool true := hD 24 (by decide)
        clear hD
        try dsimp only at hK ⊢
        simp only [Act.put, List.setIfInBounds_toArray, List.set_cons_succ, List.set_cons_zero] at hK
        generalize vs 24 = vq24 at hK dq24 ⊢
        subst vq24
        go_wp2
        exact hK _ _ rfl (Mod.refl _ _)
      refine opsOkA_cons ?_ ?_
      · intro K vs W hR hD hK
        have dq24 : vs 24 = .bool true := hD 24 (by decide)
        clear hD
        try dsimp only at hK ⊢
        simp only [Act.put, List.setIfInBounds_toArray, List.set_cons_succ, List.set_cons_zero] at hK
        generalize vs 24 = vq24 at hK dq24 ⊢
        subst vq24
        go_wp2
        exact hK _ _ rfl (Mod.refl _ _)
      refine opsOkA_cons ?_ ?_
      · intro K vs W hR hD hK
        have dq24 : vs 24 = .bool true := hD 24 (by decide)
        clear hD
        try dsimp only at hK ⊢
        simp only [Act.put, List.setIfInBounds_toArray, List.set_cons_succ, List.set_cons_zero] at hK
        generalize vs 24 = vq24 at hK dq24 ⊢
        subst vq24
        go_wp2
        exact hK _ _ rfl (Mod.refl _ _)
      refine opsOkA_cons ?_ ?_
      · intro K vs W hR hD hK
        have dq24 : vs 24 = .bool true := hD 24 (by decide)
        have dq30 : vs 30 = undef := hD 30 (by decide)
        clear hD
        try dsimp only at hK ⊢
        simp only [Act.put, List.setIfInBounds_toArray, List.set_cons_succ, List.set_cons_zero] at hK
        generalize vs 24 = vq24 at hK dq24 ⊢
        subst vq24
        generalize vs 30 = vq30 at hK dq30 ⊢
        subst vq30
        go_wp2
        exact hK _ _ rfl (Mod.refl _ _)
      exact opsOkA_nil
    · intro vs wq2 hR hF
      have dq31 : vs 31 = .bool true := hF 31 (by decide)
      clear hF
      try dsimp only
      generalize vs 31 = vq31 at dq31 ⊢
      subst dq31
      replace HS := Lib.hid (HSd.out.step hR)
      clear HSd hR
      have hbp := (HS.out.now).1
      have qp_0 := hbp.cell 0 rfl
      have qp_1 := hbp.cell 1 rfl
      have lp := hbp.lt
      clear hbp
      go_wp2_with fail
      go_ret2
      exact ⟨rfl, (HS.out.now).2⟩
  · skip
    subst hs
    obtain ⟨cs, hcs, hok⟩ := h.row
    have hsup := h.sup s hf
    have hat := (hok.2 s hsup.1 hsup.2).1
    obtain ⟨q, hq⟩ : ∃ q, s % M = q := ⟨_, rfl⟩
    rw [hq] at hat
    have hso : (f s).isSome = true := by cases hx : f s with | none => exact absurd hx hf | some b => rfl
    rw [hso] at hat
    have HQ := Lib.hid hq
    clear hq hok hso hf
    replace HS := Lib.hid ((Ev.cell (hcs.cell _ hat)).and HS.out)
    clear hcs hat
    have h1 := hsup.1
    have h2 := hsup.2
    clear hsup
    have Z8 := Lib.hid (show decide (s < N) = false from by simp; omega)
    have Z22 := Lib.hid (show decide ((N : Int) + (M : Int) ≤ (s : Int)) = false from by simp; omega)
    clear qp_0 qp_1 lp
    have HSd := Lib.hid HS.out.drew
    refine wp_region_inv3 (act := ?acttn_r1_2) (Mod (fun _ => False)) (fun i => (tn_r1_2_F p r M N s q).getD i (fun _ _ => True)) (fun i => tn_r1_2_D.getD i []) (by kernel_rfl) (by kernel_rfl) (by kernel_rfl) (by kernel_rfl) (fun _ => Mod.refl _ _)
      (fun _ _ _ h k => h.trans k (fun _ _ e => e) (fun _ _ e => e)) ?hacttn_r1_2 (stable_list ?_) ?_ ?_
    case hacttn_r1_2 => intro vs; simp only [putAll, Nat.zero_add, Nat.reduceAdd, Act.put, List.setIfInBounds_toArray, List.set_cons_succ, List.set_cons_zero]; exact rfl
    · unfold tn_r1_2_F
      exact stable_cons (stable_val _) <| stable_cons (stable_val _) <| stable_cons (stable_val _) <| stable_cons (stable_val _) <| stable_cons (stable_val _) <| stable_cons (stable_val _) <| stable_cons (stable_val _) <| stable_cons (stable_val _) <| stable_cons (stable_val _) <| stable_cons (stable_val _) <| stable_cons (stable_val _) <| stable_cons (stable_val _) <| stable_cons (stable_val _) <| stable_cons (stable_val _) <| stable_cons (stable_val _) <| stable_cons (stable_val _) <| stable_cons (stable_val _) <| stable_cons (stable_val _) <| stable_cons (stable_val _) <| stable_cons (stable_val _) <| stable_cons (stable_val _) <| stable_cons (stable_val _) <| stable_cons (stable_val _) <| stable_cons (stable_val _) <| stable_cons (stable_val _) <| stable_cons (stable_val _) <| stable_cons (stable_val _) <| stable_cons (stable_val _) <| stable_cons (stable_val _) <| stable_cons (stable_val _) <| stable_cons (stable_val _) <| stable_cons (stable_val _) <| stable_nil
    · refine opsOkA_cons ?_ ?_
      · intro K vs W hR hD hK
        clear hD
        try dsimp only at hK ⊢
        simp only [Act.put, List.setIfInBounds_toArray, List.set_cons_succ, List.set_cons_zero] at hK
        go_wp2
        exact hK _ _ rfl (Mod.refl _ _)
      refine opsOkA_cons ?_ ?_
      · intro K vs W hR hD hK
        have dq0 : vs 0 = .pointer (some ⟨p, 0, none⟩) := hD 0 (by decide)
        clear hD
        try dsimp only at hK ⊢
        simp only [Act.put, List.setIfInBounds_toArray, List.set_cons_succ, List.set_cons_zero] at hK
        generalize vs 0 = vq0 at hK dq0 ⊢
        subst vq0
        go_wp2
        exact hK _ _ rfl (Mod.refl _ _)
      refine opsOkA_cons ?_ ?_
      · intro K vs W hR hD hK
        have dq1 : vs 1 = .bool false := hD 1 (by decide)
        clear hD
        try dsimp only at hK ⊢
        simp only [Act.put, List.setIfInBounds_toArray, List.set_cons_succ, List.set_cons_zero] at hK
        generalize vs 1 = vq1 at hK dq1 ⊢
        subst vq1
        go_wp2
        exact hK _ _ rfl (Mod.refl _ _)
      refine opsOkA_cons ?_ ?_
      · intro K vs W hR hD hK
        have dq2 : vs 2 = .bool false := hD 2 (by decide)
        clear hD
        try dsimp only at hK ⊢
        simp only [Act.put, List.setIfInBounds_toArray, List.set_cons_succ, List.set_cons_zero] at hK
        generalize vs 2 = vq2 at hK dq2 ⊢
        subst vq2
        go_wp2
        exact hK _ _ rfl (Mod.refl _ _)
      refine opsOkA_cons ?_ ?_
      · intro K vs W hR hD hK
        have dq2 : vs 2 = .bool false := hD 2 (by decide)
        clear hD
        try dsimp only at hK ⊢
        simp only [Act.put, List.setIfInBounds_toArray, List.set_cons_succ, List.set_cons_zero] at hK
        generalize vs 2 = vq2 at hK dq2 ⊢
        subst vq2
        go_wp2
        exact hK _ _ rfl (Mod.refl _ _)
      refine opsOkA_cons ?_ ?_
      · intro K vs W hR hD hK
        have dq2 : vs 2 = .bool false := hD 2 (by decide)
        have dq4 : vs 4 = .pointer (some ⟨p, 0, none⟩) := hD 4 (by decide)
        clear hD
        try dsimp only at hK ⊢
        simp only [Act.put, List.setIfInBounds_toArray, List.set_cons_succ, List.set_cons_zero] at hK
        generalize vs 2 = vq2 at hK dq2 ⊢
        subst vq2
        generalize vs 4 = vq4 at hK dq4 ⊢
        subst vq4
        go_wp2
        exact hK _ _ rfl (Mod.refl _ _)
      refine opsOkA_cons ?_ ?_
      · intro K vs W hR hD hK
        have dq2 : vs 2 = .bool false := hD 2 (by decide)
        have dq5 : vs 5 = .pointer (some ⟨p, 0, none⟩) := hD 5 (by decide)
        clear hD
        try dsimp only at hK ⊢
        simp only [Act.put, List.setIfInBounds_toArray, List.set_cons_succ, List.set_cons_zero] at hK
        generalize vs 2 = vq2 at hK dq2 ⊢
        subst vq2
        generalize vs 5 = vq5 at hK dq5 ⊢
        subst vq5
        go_wp2
        exact hK _ _ rfl (Mod.refl _ _)
      refine opsOkA_cons ?_ ?_
      · intro K vs W hR hD hK
        have dq2 : vs 2 = .bool false := hD 2 (by decide)
        have dq6 : vs 6 = .pointer (some ⟨p, 0, none⟩) := hD 6 (by decide)
        clear hD
        try dsimp only at hK ⊢
        simp only [Act.put, List.setIfInBounds_toArray, List.set_cons_succ, List.set_cons_zero] at hK
        generalize vs 2 = vq2 at hK dq2 ⊢
        subst vq2
        generalize vs 6 = vq6 at hK dq6 ⊢
        subst vq6
        have q0 := ((HSd.out.at (hR)).2.1).cell 0 rfl
        go_wp2
        exact hK _ _ rfl (Mod.refl _ _)
      refine opsOkA_cons ?_ ?_
      · intro K vs W hR hD hK
        have dq2 : vs 2 = .bool false := hD 2 (by decide)
        have dq3 : vs 3 = .int .i64 (s : Int) := hD 3 (by decide)
        have dq7 : vs 7 = .int .i64 (N : Int) := hD 7 (by decide)
        clear hD
        try dsimp only at hK ⊢
        simp only [Act.put, List.setIfInBounds_toArray, List.set_cons_succ, List.set_cons_zero] at hK
        generalize vs 2 = vq2 at hK dq2 ⊢
        subst vq2
        generalize vs 3 = vq3 at hK dq3 ⊢
        subst vq3
        generalize vs 7 = vq7 at hK dq7 ⊢
        subst vq7
        have zz := Z8.out
        go_wp2
        exact hK _ _ rfl (Mod.refl _ _)
      refine opsOkA_cons ?_ ?_
      · intro K vs W hR hD hK
        have dq2 : vs 2 = .bool false := hD 2 (by decide)
        have dq8 : vs 8 = .bool false := hD 8 (by decide)
        clear hD
        try dsimp only at hK ⊢
        simp only [Act.put, List.setIfInBounds_toArray, List.set_cons_succ, List.set_cons_zero] at hK
        generalize vs 2 = vq2 at hK dq2 ⊢
        subst vq2
        generalize vs 8 = vq8 at hK dq8 ⊢
        subst vq8
        go_wp2
        exact hK _ _ rfl (Mod.refl _ _)
      refine opsOkA_cons ?_ ?_
      · intro K vs W hR hD hK
        have dq9 : vs 9 = .bool false := hD 9 (by decide)
        clear hD
        try dsimp only at hK ⊢
        simp only [Act.put, List.setIfInBounds_toArray, List.set_cons_succ, List.set_cons_zero] at hK
        generalize vs 9 = vq9 at hK dq9 ⊢
        subst vq9
        go_wp2
        exact hK _ _ rfl (Mod.refl _ _)
      refine opsOkA_cons ?_ ?_
      · intro K vs W hR hD hK
        have dq10 : vs 10 = .bool false := hD 10 (by decide)
        clear hD
        try dsimp only at hK ⊢
        simp only [Act.put, List.setIfInBounds_toArray, List.set_cons_succ, List.set_cons_zero] at hK
        generalize vs 10 = vq10 at hK dq10 ⊢
        subst vq10
        go_wp2
        exact hK _ _ rfl (Mod.refl _ _)
      refine opsOkA_cons ?_ ?_
      · intro K vs W hR hD hK
        have dq10 : vs 10 = .bool false := hD 10 (by decide)
        clear hD
        try dsimp only at hK ⊢
        simp only [Act.put, List.setIfInBounds_toArray, List.set_cons_succ, List.set_cons_zero] at hK
        generalize vs 10 = vq10 at hK dq10 ⊢
        subst vq10
        go_wp2
        exact hK _ _ rfl (Mod.refl _ _)
      refine opsOkA_cons ?_ ?_
      · intro K vs W hR hD hK
        have dq10 : vs 10 = .bool false := hD 10 (by decide)
        have dq12 : vs 12 = .pointer (some ⟨p, 0, none⟩) := hD 12 (by decide)
        clear hD
        try dsimp only at hK ⊢
        simp only [Act.put, List.setIfInBounds_toArray, List.set_cons_succ, List.set_cons_zero] at hK
        generalize vs 10 = vq10 at hK dq10 ⊢
        subst vq10
        generalize vs 12 = vq12 at hK dq12 ⊢
        subst vq12
        go_wp2
        exact hK _ _ rfl (Mod.refl _ _)
      refine opsOkA_cons ?_ ?_
      · intro K vs W hR hD hK
        have dq10 : vs 10 = .bool false := hD 10 (by decide)
        have dq13 : vs 13 = .pointer (some ⟨p, 0, none⟩) := hD 13 (by decide)
        clear hD
        try dsimp only at hK ⊢
        simp only [Act.put, List.setIfInBounds_toArray, List.set_cons_succ, List.set_cons_zero] at hK
        generalize vs 10 = vq10 at hK dq10 ⊢
        subst vq10
        generalize vs 13 = vq13 at hK dq13 ⊢
        subst vq13
        go_wp2
        exact hK _ _ rfl (Mod.refl _ _)
      refine opsOkA_cons ?_ ?_
      · intro K vs W hR hD hK
        have dq10 : vs 10 = .bool false := hD 10 (by decide)
        have dq14 : vs 14 = .pointer (some ⟨p, 0, none⟩) := hD 14 (by decide)
        clear hD
        try dsimp only at hK ⊢
        simp only [Act.put, List.setIfInBounds_toArray, List.set_cons_succ, List.set_cons_zero] at hK
        generalize vs 10 = vq10 at hK dq10 ⊢
        subst vq10
        generalize vs 14 = vq14 at hK dq14 ⊢
        subst vq14
        have q0 := ((HSd.out.at (hR)).2.1).cell 0 rfl
        go_wp2
        exact hK _ _ rfl (Mod.refl _ _)
      refine opsOkA_cons ?_ ?_
      · intro K vs W hR hD hK
        have dq10 : vs 10 = .bool false := hD 10 (by decide)
        clear hD
        try dsimp only at hK ⊢
        simp only [Act.put, List.setIfInBounds_toArray, List.set_cons_succ, List.set_cons_zero] at hK
        generalize vs 10 = vq10 at hK dq10 ⊢
        subst vq10
        go_wp2
        exact hK _ _ rfl (Mod.refl _ _)
      refine opsOkA_cons ?_ ?_
      · intro K vs W hR hD hK
        have dq10 : vs 10 = .bool false := hD 10 (by decide)
        have dq16 : vs 16 = .pointer (some ⟨p, 0, none⟩) := hD 16 (by decide)
        clear hD
        try dsimp only at hK ⊢
        simp only [Act.put, List.setIfInBounds_toArray, List.set_cons_succ, List.set_cons_zero] at hK
        generalize vs 10 = vq10 at hK dq10 ⊢
        subst vq10
        generalize vs 16 = vq16 at hK dq16 ⊢
        subst vq16
        go_wp2
        exact hK _ _ rfl (Mod.refl _ _)
      refine opsOkA_cons ?_ ?_
      · intro K vs W hR hD hK
        have dq10 : vs 10 = .bool false := hD 10 (by decide)
        have dq17 : vs 17 = .pointer (some ⟨p, 0, none⟩) := hD 17 (by decide)
        clear hD
        try dsimp only at hK ⊢
        simp only [Act.put, List.setIfInBounds_toArray, List.set_cons_succ, List.set_cons_zero] at hK
        generalize vs 10 = vq10 at hK dq10 ⊢
        subst vq10
        generalize vs 17 = vq17 at hK dq17 ⊢
        subst vq17
        go_wp2
        exact hK _ _ rfl (Mod.refl _ _)
      refine opsOkA_cons ?_ ?_
      · intro K vs W hR hD hK
        have dq10 : vs 10 = .bool false := hD 10 (by decide)
        have dq18 : vs 18 = .pointer (some ⟨p, 1, none⟩) := hD 18 (by decide)
        clear hD
        try dsimp only at hK ⊢
        simp only [Act.put, List.setIfInBounds_toArray, List.set_cons_succ, List.set_cons_zero] at hK
        generalize vs 10 = vq10 at hK dq10 ⊢
        subst vq10
        generalize vs 18 = vq18 at hK dq18 ⊢
        subst vq18
        have q0 := ((HSd.out.at (hR)).2.1).cell 1 rfl
        go_wp2
        exact hK _ _ rfl (Mod.refl _ _)
      refine opsOkA_cons ?_ ?_
      · intro K vs W hR hD hK
        have dq10 : vs 10 = .bool false := hD 10 (by decide)
        have dq19 : vs 19 = .slice (some ⟨r, 0, none⟩) M M := hD 19 (by decide)
        clear hD
        try dsimp only at hK ⊢
        simp only [Act.put, List.setIfInBounds_toArray, List.set_cons_succ, List.set_cons_zero] at hK
        generalize vs 10 = vq10 at hK dq10 ⊢
        subst vq10
        generalize vs 19 = vq19 at hK dq19 ⊢
        subst vq19
        go_wp2_with fail
        exact hK _ _ rfl (Mod.refl _ _)
      refine opsOkA_cons ?_ ?_
      · intro K vs W hR hD hK
        have dq10 : vs 10 = .bool false := hD 10 (by decide)
        have dq15 : vs 15 = .int .i64 (N : Int) := hD 15 (by decide)
        have dq20 : vs 20 = .int .i64 (M : Int) := hD 20 (by decide)
        clear hD
        try dsimp only at hK ⊢
        simp only [Act.put, List.setIfInBounds_toArray, List.set_cons_succ, List.set_cons_zero] at hK
        generalize vs 10 = vq10 at hK dq10 ⊢
        subst vq10
        generalize vs 15 = vq15 at hK dq15 ⊢
        subst vq15
        generalize vs 20 = vq20 at hK dq20 ⊢
        subst vq20
        go_wp2
        exact hK _ _ rfl (Mod.refl _ _)
      refine opsOkA_cons ?_ ?_
      · intro K vs W hR hD hK
        have dq10 : vs 10 = .bool false := hD 10 (by decide)
        have dq11 : vs 11 = .int .i64 (s : Int) := hD 11 (by decide)
        have dq21 : vs 21 = .int .i64 ((N : Int) + (M : Int)) := hD 21 (by decide)
        clear hD
        try dsimp only at hK ⊢
        simp only [Act.put, List.setIfInBounds_toArray, List.set_cons_succ, List.set_cons_zero] at hK
        generalize vs 10 = vq10 at hK dq10 ⊢
        subst vq10
        generalize vs 11 = vq11 at hK dq11 ⊢
        subst vq11
        generalize vs 21 = vq21 at hK dq21 ⊢
        subst vq21
        have zz := Z22.out
        go_wp2
        exact hK _ _ rfl (Mod.refl _ _)
      refine opsOkA_cons ?_ ?_
      · intro K vs W hR hD hK
        have dq10 : vs 10 = .bool false := hD 10 (by decide)
        have dq22 : vs 22 = .bool false := hD 22 (by decide)
        clear hD
        try dsimp only at hK ⊢
        simp only [Act.put, List.setIfInBounds_toArray, List.set_cons_succ, List.set_cons_zero] at hK
        generalize vs 10 = vq10 at hK dq10 ⊢
        subst vq10
        generalize vs 22 = vq22 at hK dq22 ⊢
        subst vq22
        go_wp2
        exact hK _ _ rfl (Mod.refl _ _)
      refine opsOkA_cons ?_ ?_
      · intro K vs W hR hD hK
        have dq23 : vs 23 = .bool false := hD 23 (by decide)
        clear hD
        try dsimp only at hK ⊢
        simp only [Act.put, List.setIfInBounds_toArray, List.set_cons_succ, List.set_cons_zero] at hK
        generalize vs 23 = vq23 at hK dq23 ⊢
        subst vq23
        go_wp2
        exact hK _ _ rfl (Mod.refl _ _)
      refine opsOkA_cons ?_ ?_
      · intro K vs W hR hD hK
        have dq24 : vs 24 = .bool false := hD 24 (by decide)
        clear hD
        try dsimp only at hK ⊢
        simp only [Act.put, List.setIfInBounds_toArray, List.set_cons_succ, List.set_cons_zero] at hK
        generalize vs 24 = vq24 at hK dq24 ⊢
        subst vq24
        go_wp2
        exact hK _ _ rfl (Mod.refl _ _)
      refine opsOkA_cons ?_ ?_
      · intro K vs W hR hD hK
        have dq24 : vs 24 = .bool false := hD 24 (by decide)
        clear hD
        try dsimp only at hK ⊢
        simp only [Act.put, List.setIfInBounds_toArray, List.set_cons_succ, List.set_cons_zero] at hK
        generalize vs 24 = vq24 at hK dq24 ⊢
        subst vq24
        go_wp2
        exact hK _ _ rfl (Mod.refl _ _)
      refine opsOkA_cons ?_ ?_
      · intro K vs W hR hD hK
        have dq24 : vs 24 = .bool false := hD 24 (by decide)
        have dq25 : vs 25 = .pointer (some ⟨p, 0, none⟩) := hD 25 (by decide)
        have dq26 : vs 26 = .int .i64 (s : Int) := hD 26 (by decide)
        clear hD
        try dsimp only at hK ⊢
        simp only [Act.put, List.setIfInBounds_toArray, List.set_cons_succ, List.set_cons_zero] at hK
        generalize vs 24 = vq24 at hK dq24 ⊢
        subst vq24
        generalize vs 25 = vq25 at hK dq25 ⊢
        subst vq25
        generalize vs 26 = vq26 at hK dq26 ⊢
        subst vq26
        go_wp2_with (go_at_call 54; refine (tkat_any W p r M N hW ((HSd.out.at (hR)).2.1) s).mono ?_; rintro e' w' ⟨rfl, hm'⟩; rw [HQ.out])
        exact hK _ _ rfl hm'
      refine opsOkA_cons ?_ ?_
      · intro K vs W hR hD hK
        have dq24 : vs 24 = .bool false := hD 24 (by decide)
        have dq27 : vs 27 = .pointer (some ⟨r, q * 2, none⟩) := hD 27 (by decide)
        clear hD
        try dsimp only at hK ⊢
        simp only [Act.put, List.setIfInBounds_toArray, List.set_cons_succ, List.set_cons_zero] at hK
        generalize vs 24 = vq24 at hK dq24 ⊢
        subst vq24
        generalize vs 27 = vq27 at hK dq27 ⊢
        subst vq27
        go_wp2
        exact hK _ _ rfl (Mod.refl _ _)
      refine opsOkA_cons ?_ ?_
      · intro K vs W hR hD hK
        have dq24 : vs 24 = .bool false := hD 24 (by decide)
        have dq28 : vs 28 = .pointer (some ⟨r, q * 2, none⟩) := hD 28 (by decide)
        clear hD
        try dsimp only at hK ⊢
        simp only [Act.put, List.setIfInBounds_toArray, List.set_cons_succ, List.set_cons_zero] at hK
        generalize vs 24 = vq24 at hK dq24 ⊢
        subst vq24
        generalize vs 28 = vq28 at hK dq28 ⊢
        subst vq28
        go_wp2
        exact hK _ _ rfl (Mod.refl _ _)
      refine opsOkA_cons ?_ ?_
      · intro K vs W hR hD hK
        have dq24 : vs 24 = .bool false := hD 24 (by decide)
        have dq29 : vs 29 = .pointer (some ⟨r, q * 2, none⟩) := hD 29 (by decide)
        clear hD
        try dsimp only at hK ⊢
        simp only [Act.put, List.setIfInBounds_toArray, List.set_cons_succ, List.set_cons_zero] at hK
        generalize vs 24 = vq24 at hK dq24 ⊢
        subst vq24
        generalize vs 29 = vq29 at hK dq29 ⊢
        subst vq29
        have cr := (HSd.out.at (hR)).1
        go_wp2
        exact hK _ _ rfl (Mod.refl _ _)
      refine opsOkA_cons ?_ ?_
      · intro K vs W hR hD hK
        have dq24 : vs 24 = .bool false := hD 24 (by decide)
        have dq30 : vs 30 = .bool true := hD 30 (by decide)
        clear hD
        try dsimp only at hK ⊢
        simp only [Act.put, List.setIfInBounds_toArray, List.set_cons_succ, List.set_cons_zero] at hK
        generalize vs 24 = vq24 at hK dq24 ⊢
        subst vq24
        generalize vs 30 = vq30 at hK dq30 ⊢
        subst vq30
        go_wp2
        exact hK _ _ rfl (Mod.refl _ _)
      exact opsOkA_nil
    · intro vs wq3 hR hF
      have dq31 : vs 31 = .bool true := hF 31 (by decide)
      clear hF
      try dsimp only
      generalize vs 31 = vq31 at dq31 ⊢
      subst dq31
      replace HS := Lib.hid (HSd.out.step hR)
      clear HSd hR
      have hbp := (HS.out.now).2.1
      have qp_0 := hbp.cell 0 rfl
      have qp_1 := hbp.cell 1 rfl
      have lp := hbp.lt
      clear hbp
      go_wp2_with fail
      go_ret2
      exact ⟨rfl, (HS.out.now).2.2⟩
/-- What each operation of the statement leaves. -/
def ty_r1_0_F (p : Nat) (r : Nat) (M : Nat) (N : Nat) (s : Nat) (q : Nat) : List (Value → World → Prop) :=
  [IsV (.pointer (some ⟨p, 0, none⟩)),
   IsV (.bool false),
   IsV (.bool false),
   IsV (.int .i64 (s : Int)),
   IsV (.pointer (some ⟨p, 0, none⟩)),
   IsV (.pointer (some ⟨p, 0, none⟩)),
   IsV (.pointer (some ⟨p, 0, none⟩)),
   IsV (.int .i64 (N : Int)),
   IsV (.bool false),
   IsV (.bool false),
   IsV (.bool false),
   IsV (.int .i64 (s : Int)),
   IsV (.pointer (some ⟨p, 0, none⟩)),
   IsV (.pointer (some ⟨p, 0, none⟩)),
   IsV (.pointer (some ⟨p, 0, none⟩)),
   IsV (.int .i64 (N : Int)),
   IsV (.pointer (some ⟨p, 0, none⟩)),
   IsV (.pointer (some ⟨p, 0, none⟩)),
   IsV (.pointer (some ⟨p, 1, none⟩)),
   IsV (.slice (some ⟨r, 0, none⟩) M M),
   IsV (.int .i64 (M : Int)),
   IsV (.int .i64 ((N : Int) + (M : Int))),
   IsV (.bool false),
   IsV (.bool false),
   IsV (.bool false),
   IsV (.pointer (some ⟨p, 0, none⟩)),
   IsV (.int .i64 (s : Int)),
   IsV (.pointer (some ⟨r, q * 2, none⟩)),
   IsV (.pointer (some ⟨r, q * 2, none⟩)),
   IsV (.pointer (some ⟨r, q * 2, none⟩)),
   IsV (.bool false),
   IsV (.bool false)]
def ty_r1_0_D : List (List Nat) := [[], [0], [1], [2], [2], [2, 4], [2, 5], [2, 6], [2, 3, 7], [2, 8], [9], [10], [10], [10, 12], [10, 13], [10, 14], [10], [10, 16], [10, 17], [10, 18], [10, 19], [10, 15, 20], [10, 11, 21], [10, 22], [23], [24], [24], [24, 25, 26], [24, 27], [24, 28], [24, 29], [24, 30]]

set_option maxHeartbeats 32000000 in
theorem tktake_low (w : World) (p r M N : Nat) (f : Hld) (h : TK w p r M N f) (hNb : N ≤ 1000000000000) (s : Nat) (hs : N ≤ s ∧ s < N + M) (hf : f s = none) (a : Option Addr) (n c : Nat) (bs : List Int) (hn : bs.length = n) (hr : Rd w 1 (.slice a n c) n (bs.map (Value.int .u8))) (hnb : n ≤ 100000) :
    Calls Try.prog 39 #[.pointer (some ⟨p, 0, none⟩), .int .i64 (s : Int), .slice a n c] w (TakeQ p r M N (putH f s bs) w) := by
  have HS : Hid (Ev (Mod (fun _ => False) w) w) := Lib.hid (Ev.mod w)
  replace HS := Lib.hid ((Ev.blk h.blk).and HS.out)
  replace HS := Lib.hid ((Ev.rd hr).and HS.out)
  obtain ⟨iB, hiB, hzB, hsB, hbB⟩ := info_parts Tk.infoB
  have hW := h.W0
  have hW6 := h.W16
  have HNE := Lib.hid h.ne
  have HSUP := Lib.hid h.sup
  obtain ⟨cs, hcs, hok⟩ := h.row
  have hat := (hok.2 s hs.1 hs.2).1
  obtain ⟨v0, hav, _⟩ := (hok.2 s hs.1 hs.2).2
  rw [hf] at hat
  replace hat : cs[s % M * 2]? = some (.bool false) := hat
  obtain ⟨q, hq⟩ : ∃ q, s % M = q := ⟨_, rfl⟩
  rw [hq] at hat hav
  have HQ := Lib.hid hq
  have HOK := Lib.hid hok
  have HAT := Lib.hid hat
  have HAV := Lib.hid hav
  have hplt := h.blk.lt
  have hrlt := hcs.lt
  have hs1 := hs.1
  have hs2 := hs.2
  have HF := Lib.hid hf
  have HN := Lib.hid hn
  replace HS := Lib.hid ((Ev.blk hcs).and HS.out)
  clear hq hok hat hav h hcs hr hs hf hn
  have hbp := (HS.out.now).2.2.1
  have qp_0 := hbp.cell 0 rfl
  have qp_1 := hbp.cell 1 rfl
  have lp := hbp.lt
  clear hbp
  go_enter Try.func39, Try.ntmps39
  go_upto_region 1 with fail
  have Z8 := Lib.hid (show decide (s < N) = false from by simp; omega)
  have Z22 := Lib.hid (show decide ((N : Int) + (M : Int) ≤ (s : Int)) = false from by simp; omega)
  clear qp_0 qp_1 lp
  have HSd := Lib.hid HS.out.drew
  refine wp_region_inv3 (act := ?actty_r1_0) (Mod (fun _ => False)) (fun i => (ty_r1_0_F p r M N s q).getD i (fun _ _ => True)) (fun i => ty_r1_0_D.getD i []) (by kernel_rfl) (by kernel_rfl) (by kernel_rfl) (by kernel_rfl) (fun _ => Mod.refl _ _)
    (fun _ _ _ h k => h.trans k (fun _ _ e => e) (fun _ _ e => e)) ?hactty_r1_0 (stable_list ?_) ?_ ?_
  case hactty_r1_0 => intro vs; simp only [putAll, Nat.zero_add, Nat.reduceAdd, Act.put, List.setIfInBounds_toArray, List.set_cons_succ, List.set_cons_zero]; exact rfl
  · unfold ty_r1_0_F
    exact stable_cons (stable_val _) <| stable_cons (stable_val _) <| stable_cons (stable_val _) <| stable_cons (stable_val _) <| stable_cons (stable_val _) <| stable_cons (stable_val _) <| stable_cons (stable_val _) <| stable_cons (stable_val _) <| stable_cons (stable_val _) <| stable_cons (stable_val _) <| stable_cons (stable_val _) <| stable_cons (stable_val _) <| stable_cons (stable_val _) <| stable_cons (stable_val _) <| stable_cons (stable_val _) <| stable_cons (stable_val _) <| stable_cons (stable_val _) <| stable_cons (stable_val _) <| stable_cons (stable_val _) <| stable_cons (stable_val _) <| stable_cons (stable_val _) <| stable_cons (stable_val _) <| stable_cons (stable_val _) <| stable_cons (stable_val _) <| stable_cons (stable_val _) <| stable_cons (stable_val _) <| stable_cons (stable_val _) <| stable_cons (stable_val _) <| stable_cons (stable_val _) <| stable_cons (stable_val _) <| stable_cons (stable_val _) <| stable_cons (stable_val _) <| stable_nil
  · refine opsOkA_cons ?_ ?_
    · intro K vs W hR hD hK
      clear hD
      try dsimp only at hK ⊢
      simp only [Act.put, List.setIfInBounds_toArray, List.set_cons_succ, List.set_cons_zero] at hK
      go_wp2
      exact hK _ _ rfl (Mod.refl _ _)
    refine opsOkA_cons ?_ ?_
    · intro K vs W hR hD hK
      have dq0 : vs 0 = .pointer (some ⟨p, 0, none⟩) := hD 0 (by decide)
      clear hD
      try dsimp only at hK ⊢
      simp only [Act.put, List.setIfInBounds_toArray, List.set_cons_succ, List.set_cons_zero] at hK
      generalize vs 0 = vq0 at hK dq0 ⊢
      subst vq0
      go_wp2
      exact hK _ _ rfl (Mod.refl _ _)
    refine opsOkA_cons ?_ ?_
    · intro K vs W hR hD hK
      have dq1 : vs 1 = .bool false := hD 1 (by decide)
      clear hD
      try dsimp only at hK ⊢
      simp only [Act.put, List.setIfInBounds_toArray, List.set_cons_succ, List.set_cons_zero] at hK
      generalize vs 1 = vq1 at hK dq1 ⊢
      subst vq1
      go_wp2
      exact hK _ _ rfl (Mod.refl _ _)
    refine opsOkA_cons ?_ ?_
    · intro K vs W hR hD hK
      have dq2 : vs 2 = .bool false := hD 2 (by decide)
      clear hD
      try dsimp only at hK ⊢
      simp only [Act.put, List.setIfInBounds_toArray, List.set_cons_succ, List.set_cons_zero] at hK
      generalize vs 2 = vq2 at hK dq2 ⊢
      subst vq2
      go_wp2
      exact hK _ _ rfl (Mod.refl _ _)
    refine opsOkA_cons ?_ ?_
    · intro K vs W hR hD hK
      have dq2 : vs 2 = .bool false := hD 2 (by decide)
      clear hD
      try dsimp only at hK ⊢
      simp only [Act.put, List.setIfInBounds_toArray, List.set_cons_succ, List.set_cons_zero] at hK
      generalize vs 2 = vq2 at hK dq2 ⊢
      subst vq2
      go_wp2
      exact hK _ _ rfl (Mod.refl _ _)
    refine opsOkA_cons ?_ ?_
    · intro K vs W hR hD hK
      have dq2 : vs 2 = .bool false := hD 2 (by decide)
      have dq4 : vs 4 = .pointer (some ⟨p, 0, none⟩) := hD 4 (by decide)
      clear hD
      try dsimp only at hK ⊢
      simp only [Act.put, List.setIfInBounds_toArray, List.set_cons_succ, List.set_cons_zero] at hK
      generalize vs 2 = vq2 at hK dq2 ⊢
      subst vq2
      generalize vs 4 = vq4 at hK dq4 ⊢
      subst vq4
      go_wp2
      exact hK _ _ rfl (Mod.refl _ _)
    refine opsOkA_cons ?_ ?_
    · intro K vs W hR hD hK
      have dq2 : vs 2 = .bool false := hD 2 (by decide)
      have dq5 : vs 5 = .pointer (some ⟨p, 0, none⟩) := hD 5 (by decide)
      clear hD
      try dsimp only at hK ⊢
      simp only [Act.put, List.setIfInBounds_toArray, List.set_cons_succ, List.set_cons_zero] at hK
      generalize vs 2 = vq2 at hK dq2 ⊢
      subst vq2
      generalize vs 5 = vq5 at hK dq5 ⊢
      subst vq5
      go_wp2
      exact hK _ _ rfl (Mod.refl _ _)
    refine opsOkA_cons ?_ ?_
    · intro K vs W hR hD hK
      have dq2 : vs 2 = .bool false := hD 2 (by decide)
      have dq6 : vs 6 = .pointer (some ⟨p, 0, none⟩) := hD 6 (by decide)
      clear hD
      try dsimp only at hK ⊢
      simp only [Act.put, List.setIfInBounds_toArray, List.set_cons_succ, List.set_cons_zero] at hK
      generalize vs 2 = vq2 at hK dq2 ⊢
      subst vq2
      generalize vs 6 = vq6 at hK dq6 ⊢
      subst vq6
      have q0 := ((HSd.out.at (hR)).2.2.1).cell 0 rfl
      go_wp2
      exact hK _ _ rfl (Mod.refl _ _)
    refine opsOkA_cons ?_ ?_
    · intro K vs W hR hD hK
      have dq2 : vs 2 = .bool false := hD 2 (by decide)
      have dq3 : vs 3 = .int .i64 (s : Int) := hD 3 (by decide)
      have dq7 : vs 7 = .int .i64 (N : Int) := hD 7 (by decide)
      clear hD
      try dsimp only at hK ⊢
      simp only [Act.put, List.setIfInBounds_toArray, List.set_cons_succ, List.set_cons_zero] at hK
      generalize vs 2 = vq2 at hK dq2 ⊢
      subst vq2
      generalize vs 3 = vq3 at hK dq3 ⊢
      subst vq3
      generalize vs 7 = vq7 at hK dq7 ⊢
      subst vq7
      have zz := Z8.out
      go_wp2
      exact hK _ _ rfl (Mod.refl _ _)
    refine opsOkA_cons ?_ ?_
    · intro K vs W hR hD hK
      have dq2 : vs 2 = .bool false := hD 2 (by decide)
      have dq8 : vs 8 = .bool false := hD 8 (by decide)
      clear hD
      try dsimp only at hK ⊢
      simp only [Act.put, List.setIfInBounds_toArray, List.set_cons_succ, List.set_cons_zero] at hK
      generalize vs 2 = vq2 at hK dq2 ⊢
      subst vq2
      generalize vs 8 = vq8 at hK dq8 ⊢
      subst vq8
      go_wp2
      exact hK _ _ rfl (Mod.refl _ _)
    refine opsOkA_cons ?_ ?_
    · intro K vs W hR hD hK
      have dq9 : vs 9 = .bool false := hD 9 (by decide)
      clear hD
      try dsimp only at hK ⊢
      simp only [Act.put, List.setIfInBounds_toArray, List.set_cons_succ, List.set_cons_zero] at hK
      generalize vs 9 = vq9 at hK dq9 ⊢
      subst vq9
      go_wp2
      exact hK _ _ rfl (Mod.refl _ _)
    refine opsOkA_cons ?_ ?_
    · intro K vs W hR hD hK
      have dq10 : vs 10 = .bool false := hD 10 (by decide)
      clear hD
      try dsimp only at hK ⊢
      simp only [Act.put, List.setIfInBounds_toArray, List.set_cons_succ, List.set_cons_zero] at hK
      generalize vs 10 = vq10 at hK dq10 ⊢
      subst vq10
      go_wp2
      exact hK _ _ rfl (Mod.refl _ _)
    refine opsOkA_cons ?_ ?_
    · intro K vs W hR hD hK
      have dq10 : vs 10 = .bool false := hD 10 (by decide)
      clear hD
      try dsimp only at hK ⊢
      simp only [Act.put, List.setIfInBounds_toArray, List.set_cons_succ, List.set_cons_zero] at hK
      generalize vs 10 = vq10 at hK dq10 ⊢
      subst vq10
      go_wp2
      exact hK _ _ rfl (Mod.refl _ _)
    refine opsOkA_cons ?_ ?_
    · intro K vs W hR hD hK
      have dq10 : vs 10 = .bool false := hD 10 (by decide)
      have dq12 : vs 12 = .pointer (some ⟨p, 0, none⟩) := hD 12 (by decide)
      clear hD
      try dsimp only at hK ⊢
      simp only [Act.put, List.setIfInBounds_toArray, List.set_cons_succ, List.set_cons_zero] at hK
      generalize vs 10 = vq10 at hK dq10 ⊢
      subst vq10
      generalize vs 12 = vq12 at hK dq12 ⊢
      subst vq12
      go_wp2
      exact hK _ _ rfl (Mod.refl _ _)
    refine opsOkA_cons ?_ ?_
    · intro K vs W hR hD hK
      have dq10 : vs 10 = .bool false := hD 10 (by decide)
      have dq13 : vs 13 = .pointer (some ⟨p, 0, none⟩) := hD 13 (by decide)
      clear hD
      try dsimp only at hK ⊢
      simp only [Act.put, List.setIfInBounds_toArray, List.set_cons_succ, List.set_cons_zero] at hK
      generalize vs 10 = vq10 at hK dq10 ⊢
      subst vq10
      generalize vs 13 = vq13 at hK dq13 ⊢
      subst vq13
      go_wp2
      exact hK _ _ rfl (Mod.refl _ _)
    refine opsOkA_cons ?_ ?_
    · intro K vs W hR hD hK
      have dq10 : vs 10 = .bool false := hD 10 (by decide)
      have dq14 : vs 14 = .pointer (some ⟨p, 0, none⟩) := hD 14 (by decide)
      clear hD
      try dsimp only at hK ⊢
      simp only [Act.put, List.setIfInBounds_toArray, List.set_cons_succ, List.set_cons_zero] at hK
      generalize vs 10 = vq10 at hK dq10 ⊢
      subst vq10
      generalize vs 14 = vq14 at hK dq14 ⊢
      subst vq14
      have q0 := ((HSd.out.at (hR)).2.2.1).cell 0 rfl
      go_wp2
      exact hK _ _ rfl (Mod.refl _ _)
    refine opsOkA_cons ?_ ?_
    · intro K vs W hR hD hK
      have dq10 : vs 10 = .bool false := hD 10 (by decide)
      clear hD
      try dsimp only at hK ⊢
      simp only [Act.put, List.setIfInBounds_toArray, List.set_cons_succ, List.set_cons_zero] at hK
      generalize vs 10 = vq10 at hK dq10 ⊢
      subst vq10
      go_wp2
      exact hK _ _ rfl (Mod.refl _ _)
    refine opsOkA_cons ?_ ?_
    · intro K vs W hR hD hK
      have dq10 : vs 10 = .bool false := hD 10 (by decide)
      have dq16 : vs 16 = .pointer (some ⟨p, 0, none⟩) := hD 16 (by decide)
      clear hD
      try dsimp only at hK ⊢
      simp only [Act.put, List.setIfInBounds_toArray, List.set_cons_succ, List.set_cons_zero] at hK
      generalize vs 10 = vq10 at hK dq10 ⊢
      subst vq10
      generalize vs 16 = vq16 at hK dq16 ⊢
      subst vq16
      go_wp2
      exact hK _ _ rfl (Mod.refl _ _)
    refine opsOkA_cons ?_ ?_
    · intro K vs W hR hD hK
      have dq10 : vs 10 = .bool false := hD 10 (by decide)
      have dq17 : vs 17 = .pointer (some ⟨p, 0, none⟩) := hD 17 (by decide)
      clear hD
      try dsimp only at hK ⊢
      simp only [Act.put, List.setIfInBounds_toArray, List.set_cons_succ, List.set_cons_zero] at hK
      generalize vs 10 = vq10 at hK dq10 ⊢
      subst vq10
      generalize vs 17 = vq17 at hK dq17 ⊢
      subst vq17
      go_wp2
      exact hK _ _ rfl (Mod.refl _ _)
    refine opsOkA_cons ?_ ?_
    · intro K vs W hR hD hK
      have dq10 : vs 10 = .bool false := hD 10 (by decide)
      have dq18 : vs 18 = .pointer (some ⟨p, 1, none⟩) := hD 18 (by decide)
      clear hD
      try dsimp only at hK ⊢
      simp only [Act.put, List.setIfInBounds_toArray, List.set_cons_succ, List.set_cons_zero] at hK
      generalize vs 10 = vq10 at hK dq10 ⊢
      subst vq10
      generalize vs 18 = vq18 at hK dq18 ⊢
      subst vq18
      have q0 := ((HSd.out.at (hR)).2.2.1).cell 1 rfl
      go_wp2
      exact hK _ _ rfl (Mod.refl _ _)
    refine opsOkA_cons ?_ ?_
    · intro K vs W hR hD hK
      have dq10 : vs 10 = .bool false := hD 10 (by decide)
      have dq19 : vs 19 = .slice (some ⟨r, 0, none⟩) M M := hD 19 (by decide)
      clear hD
      try dsimp only at hK ⊢
      simp only [Act.put, List.setIfInBounds_toArray, List.set_cons_succ, List.set_cons_zero] at hK
      generalize vs 10 = vq10 at hK dq10 ⊢
      subst vq10
      generalize vs 19 = vq19 at hK dq19 ⊢
      subst vq19
      go_wp2_with fail
      exact hK _ _ rfl (Mod.refl _ _)
    refine opsOkA_cons ?_ ?_
    · intro K vs W hR hD hK
      have dq10 : vs 10 = .bool false := hD 10 (by decide)
      have dq15 : vs 15 = .int .i64 (N : Int) := hD 15 (by decide)
      have dq20 : vs 20 = .int .i64 (M : Int) := hD 20 (by decide)
      clear hD
      try dsimp only at hK ⊢
      simp only [Act.put, List.setIfInBounds_toArray, List.set_cons_succ, List.set_cons_zero] at hK
      generalize vs 10 = vq10 at hK dq10 ⊢
      subst vq10
      generalize vs 15 = vq15 at hK dq15 ⊢
      subst vq15
      generalize vs 20 = vq20 at hK dq20 ⊢
      subst vq20
      go_wp2
      exact hK _ _ rfl (Mod.refl _ _)
    refine opsOkA_cons ?_ ?_
    · intro K vs W hR hD hK
      have dq10 : vs 10 = .bool false := hD 10 (by decide)
      have dq11 : vs 11 = .int .i64 (s : Int) := hD 11 (by decide)
      have dq21 : vs 21 = .int .i64 ((N : Int) + (M : Int)) := hD 21 (by decide)
      clear hD
      try dsimp only at hK ⊢
      simp only [Act.put, List.setIfInBounds_toArray, List.set_cons_succ, List.set_cons_zero] at hK
      generalize vs 10 = vq10 at hK dq10 ⊢
      subst vq10
      generalize vs 11 = vq11 at hK dq11 ⊢
      subst vq11
      generalize vs 21 = vq21 at hK dq21 ⊢
      subst vq21
      have zz := Z22.out
      go_wp2
      exact hK _ _ rfl (Mod.refl _ _)
    refine opsOkA_cons ?_ ?_
    · intro K vs W hR hD hK
      have dq10 : vs 10 = .bool false := hD 10 (by decide)
      have dq22 : vs 22 = .bool false := hD 22 (by decide)
      clear hD
      try dsimp only at hK ⊢
      simp only [Act.put, List.setIfInBounds_toArray, List.set_cons_succ, List.set_cons_zero] at hK
      generalize vs 10 = vq10 at hK dq10 ⊢
      subst vq10
      generalize vs 22 = vq22 at hK dq22 ⊢
      subst vq22
      go_wp2
      exact hK _ _ rfl (Mod.refl _ _)
    refine opsOkA_cons ?_ ?_
    · intro K vs W hR hD hK
      have dq23 : vs 23 = .bool false := hD 23 (by decide)
      clear hD
      try dsimp only at hK ⊢
      simp only [Act.put, List.setIfInBounds_toArray, List.set_cons_succ, List.set_cons_zero] at hK
      generalize vs 23 = vq23 at hK dq23 ⊢
      subst vq23
      go_wp2
      exact hK _ _ rfl (Mod.refl _ _)
    refine opsOkA_cons ?_ ?_
    · intro K vs W hR hD hK
      have dq24 : vs 24 = .bool false := hD 24 (by decide)
      clear hD
      try dsimp only at hK ⊢
      simp only [Act.put, List.setIfInBounds_toArray, List.set_cons_succ, List.set_cons_zero] at hK
      generalize vs 24 = vq24 at hK dq24 ⊢
      subst vq24
      go_wp2
      exact hK _ _ rfl (Mod.refl _ _)
    refine opsOkA_cons ?_ ?_
    · intro K vs W hR hD hK
      have dq24 : vs 24 = .bool false := hD 24 (by decide)
      clear hD
      try dsimp only at hK ⊢
      simp only [Act.put, List.setIfInBounds_toArray, List.set_cons_succ, List.set_cons_zero] at hK
      generalize vs 24 = vq24 at hK dq24 ⊢
      subst vq24
      go_wp2
      exact hK _ _ rfl (Mod.refl _ _)
    refine opsOkA_cons ?_ ?_
    · intro K vs W hR hD hK
      have dq24 : vs 24 = .bool false := hD 24 (by decide)
      have dq25 : vs 25 = .pointer (some ⟨p, 0, none⟩) := hD 25 (by decide)
      have dq26 : vs 26 = .int .i64 (s : Int) := hD 26 (by decide)
      clear hD
      try dsimp only at hK ⊢
      simp only [Act.put, List.setIfInBounds_toArray, List.set_cons_succ, List.set_cons_zero] at hK
      generalize vs 24 = vq24 at hK dq24 ⊢
      subst vq24
      generalize vs 25 = vq25 at hK dq25 ⊢
      subst vq25
      generalize vs 26 = vq26 at hK dq26 ⊢
      subst vq26
      go_wp2_with (go_at_call 54; refine (tkat_any W p r M N hW ((HSd.out.at (hR)).2.2.1) s).mono ?_; rintro e' w' ⟨rfl, hm'⟩; rw [HQ.out])
      exact hK _ _ rfl hm'
    refine opsOkA_cons ?_ ?_
    · intro K vs W hR hD hK
      have dq24 : vs 24 = .bool false := hD 24 (by decide)
      have dq27 : vs 27 = .pointer (some ⟨r, q * 2, none⟩) := hD 27 (by decide)
      clear hD
      try dsimp only at hK ⊢
      simp only [Act.put, List.setIfInBounds_toArray, List.set_cons_succ, List.set_cons_zero] at hK
      generalize vs 24 = vq24 at hK dq24 ⊢
      subst vq24
      generalize vs 27 = vq27 at hK dq27 ⊢
      subst vq27
      go_wp2
      exact hK _ _ rfl (Mod.refl _ _)
    refine opsOkA_cons ?_ ?_
    · intro K vs W hR hD hK
      have dq24 : vs 24 = .bool false := hD 24 (by decide)
      have dq28 : vs 28 = .pointer (some ⟨r, q * 2, none⟩) := hD 28 (by decide)
      clear hD
      try dsimp only at hK ⊢
      simp only [Act.put, List.setIfInBounds_toArray, List.set_cons_succ, List.set_cons_zero] at hK
      generalize vs 24 = vq24 at hK dq24 ⊢
      subst vq24
      generalize vs 28 = vq28 at hK dq28 ⊢
      subst vq28
      go_wp2
      exact hK _ _ rfl (Mod.refl _ _)
    refine opsOkA_cons ?_ ?_
    · intro K vs W hR hD hK
      have dq24 : vs 24 = .bool false := hD 24 (by decide)
      have dq29 : vs 29 = .pointer (some ⟨r, q * 2, none⟩) := hD 29 (by decide)
      clear hD
      try dsimp only at hK ⊢
      simp only [Act.put, List.setIfInBounds_toArray, List.set_cons_succ, List.set_cons_zero] at hK
      generalize vs 24 = vq24 at hK dq24 ⊢
      subst vq24
      generalize vs 29 = vq29 at hK dq29 ⊢
      subst vq29
      have cr := ((HSd.out.at (hR)).1).cell _ HAT.out
      go_wp2
      exact hK _ _ rfl (Mod.refl _ _)
    refine opsOkA_cons ?_ ?_
    · intro K vs W hR hD hK
      have dq24 : vs 24 = .bool false := hD 24 (by decide)
      have dq30 : vs 30 = .bool false := hD 30 (by decide)
      clear hD
      try dsimp only at hK ⊢
      simp only [Act.put, List.setIfInBounds_toArray, List.set_cons_succ, List.set_cons_zero] at hK
      generalize vs 24 = vq24 at hK dq24 ⊢
      subst vq24
      generalize vs 30 = vq30 at hK dq30 ⊢
      subst vq30
      go_wp2
      exact hK _ _ rfl (Mod.refl _ _)
    exact opsOkA_nil
  · intro vs wq1 hR hF
    have dq31 : vs 31 = .bool false := hF 31 (by decide)
    clear hF
    try dsimp only
    generalize vs 31 = vq31 at dq31 ⊢
    subst dq31
    replace HS := Lib.hid (HSd.out.step hR)
    clear HSd hR
    have hbp := (HS.out.now).2.2.1
    have qp_0 := hbp.cell 0 rfl
    have qp_1 := hbp.cell 1 rfl
    have lp := hbp.lt
    clear hbp
    clear Z8 Z22
    go_wp2_with fail
    refine (tkat_any _ p r M N hW ((HS.out.now).2.2.1) s).mono ?_
    rintro e wq2 ⟨rfl, hmm⟩
    replace HS := Lib.hid (HS.out.step hmm)
    clear hmm
    clear qp_0 qp_1 lp
    have hbp := (HS.out.now).2.2.1
    have qp_0 := hbp.cell 0 rfl
    have qp_1 := hbp.cell 1 rfl
    have lp := hbp.lt
    clear hbp
    rw [HQ.out]
    have HMZ := Lib.hid ((HS.out.now).2.2.2)
    go_wp2_with fail
    refine (clone_any _ (.slice a n c) bs (by rw [HN.out]; exact (HS.out.now).2.1) (by have := HN.out; omega)).mono ?_
    rintro e wq3 ⟨v2, rfl, hF, hmm, a2, c2, rfl⟩
    replace HS := Lib.hid (HS.out.step hmm)
    clear hmm
    clear qp_0 qp_1 lp
    have hbp := (HS.out.now).2.2.1
    have qp_0 := hbp.cell 0 rfl
    have qp_1 := hbp.cell 1 rfl
    have lp := hbp.lt
    clear hbp
    rw [HN.out]
    have hmod2 := (HS.out.now).2.2.2
    have hlow : ∀ k, (Value.slice a2 n c2).ownBlock = some k → w.heap.size ≤ k := fun k hk => by have h1 := (World.ownsRow.lt hF k (by rw [HN.out]; exact hk)).1; have h2 := HMZ.out.size; omega
    have hv2 : BodyV wq3 p r (some bs) (.slice a2 n c2) := ⟨a2, n, c2, rfl, HN.out, by have h := Rd.ofOwn hF; rw [HN.out] at h; exact h, fun k hk => ⟨by have h1 := hlow k hk; omega, by have h1 := hlow k hk; omega, IsT.own hF (by rw [HN.out]; exact hk)⟩⟩
    have HV2 := Lib.hid hv2
    clear hF hlow hv2
    have hbr := (HS.out.now).1
    have hbp := (HS.out.now).2.2.1
    have k0 := hbr.cell _ HAT.out
    have k1 := hbr.cell _ HAV.out
    have f0 := hbr.free (q * 2)
    have f1 := hbr.free (q * 2 + 1)
    go_upto_region 4 with fail
    clear qp_0 qp_1 lp
    have hb3 := (hbr.set (q * 2) (.bool true)).set (q * 2 + 1) (.slice a2 n c2)
    have hbp3 := (hbp.setOther ⟨r, q * 2, none⟩ (.bool true) HNE.out).setOther ⟨r, q * 2 + 1, none⟩ (.slice a2 n c2) HNE.out
    have hm3 : Mod (fun k => k = p ∨ k = r) wq3 ((wq3.setCell ⟨r, q * 2, none⟩ (.bool true)).setCell ⟨r, q * 2 + 1, none⟩ (.slice a2 n c2)) := (Mod.setCell _ _ _ (.inr rfl)).trans (Mod.setCell _ _ _ (.inr rfl)) (fun _ _ e => e) (fun _ _ e => e)
    obtain ⟨w3, hw3⟩ : ∃ x, (wq3.setCell ⟨r, q * 2, none⟩ (.bool true)).setCell ⟨r, q * 2 + 1, none⟩ (.slice a2 n c2) = x := ⟨_, rfl⟩
    rw [hw3] at hb3 hbp3 hm3
    rw [hw3]
    clear hw3 k0 k1 f0 f1 hbr hbp
    have hok2 : RowOk wq3 p r M N f cs := ⟨HOK.out.1, fun t g1 g2 => by obtain ⟨y1, y2, y3, y4⟩ := HOK.out.2 t g1 g2; exact ⟨y1, y2, y3, y4.keep hmod2 (fun _ _ e => e.elim)⟩⟩
    have htk3 : TKv wq3 w3 p r M N (putH f s bs) := ⟨hW, hW6, HNE.out, hbp3, ⟨_, hb3, by have h := hok2.put ⟨hs1, hs2⟩ HV2.out; rw [HQ.out] at h; exact h⟩, putH_sup HSUP.out ⟨hs1, hs2⟩⟩
    obtain ⟨g, hg⟩ : ∃ g, putH f s bs = g := ⟨_, rfl⟩
    have hgs := putH_sup (bs := bs) HSUP.out ⟨hs1, hs2⟩
    rw [hg] at htk3 hgs
    have HTP : Hid (∀ e w', TakeQ p r M N g w e w' → TakeQ p r M N (putH f s bs) w e w') := Lib.hid (by rw [hg]; exact fun _ _ h => h)
    have HTK := Lib.hid htk3
    have HM3 := Lib.hid hm3
    have HMD := Lib.hid hmod2
    have HGS := Lib.hid hgs
    clear hb3 hbp3 hm3 hok2 htk3 hg hgs hmod2
    have qp0 := HTK.out.blk.cell 0 rfl
    go_wp2_with fail
    refine (tkat_any w3 p r M N hW HTK.out.blk N).mono ?_
    rintro e w4 ⟨rfl, hm4⟩
    have HTK4 := Lib.hid (HTK.out.later hm4)
    have HM4 := Lib.hid (HM3.out.trans hm4 (H := fun k => k = p ∨ k = r) (fun _ _ e => e) (fun _ _ e => e.elim))
    clear hm4 qp0
    go_wp2_with fail
    go_loopw [6, 8] (fun gv fv wr => (∃ (j : Nat) (ag : Option Addr) (cg : Nat) (vs : List Value) (pre : List (List Int)), gv = .slice ag j cg ∧ fv = .pointer (some ⟨r, (N + j) % M * 2, none⟩) ∧ pre.length = j ∧ j ≤ M ∧ World.ownsRow wr wq3.heap.size 38 1 (.slice ag j cg) j vs ∧ BodiesV wq3 p r pre vs ∧ TKv wq3 wr p r M (N + j) (fromH g (N + j)) ∧ pre ++ runL g (M - j) (N + j) = runL g M N) ∧ Mod (fun k => k = p ∨ k = r) wq3 wr) (fun gv _ _ => M - lenS gv)
    case atStart => exact ⟨⟨0, none, 0, [], [], rfl, rfl, rfl, by omega, World.ownsRow_nil _ _ _ _, BodiesV.nil _ _ _, by rw [Nat.add_zero, fromH_id (fun t ht => (HGS.out t ht).1)]; exact HTK4.out, rfl⟩, HM4.out⟩
    case round =>
      obtain ⟨⟨j, ag, cg, vs, pre, rfl, rfl, hpl, hjM, ho, hbv, htk, hpr⟩, hmr⟩ := hrel
      obtain ⟨wo, hwo⟩ : ∃ x : World, x = wr := ⟨_, rfl⟩
      subst hwo
      have HPL := Lib.hid hpl
      have HBV := Lib.hid hbv
      have HTO := Lib.hid htk
      have HPR := Lib.hid hpr
      have HMR := Lib.hid hmr
      have HO := Lib.hid ho
      obtain ⟨cr, hcr, hkr⟩ := htk.row
      obtain ⟨z1, vb, z2, z3⟩ := hkr.2 (N + j) (by omega) (by omega)
      rw [fromH_at] at z1 z3
      obtain ⟨ab, nb, cb, rfl, z4, z5, z6⟩ := z3
      obtain ⟨q2, hq2⟩ : ∃ y, (N + j) % M = y := ⟨_, rfl⟩
      rw [hq2] at z1 z2 ⊢
      have HQ2 := Lib.hid hq2
      have c0 := hcr.cell _ z1
      have c1 := hcr.cell _ z2
      have g0 := hcr.free (q2 * 2)
      have g1 := hcr.free (q2 * 2 + 1)
      have HZ1 := Lib.hid z1
      have HZ2 := Lib.hid z2
      have HZ4 := Lib.hid z4
      have HZ5 := Lib.hid z5
      have HZ6 := Lib.hid z6
      have HCR := Lib.hid hcr
      have HKR := Lib.hid hkr
      clear z1 z2 z4 z5 z6 hq2 hkr hpl hbv hpr hmr ho htk
      cases hgj : g (N + j) with
      | none =>
        rw [hgj] at c0
        replace c0 : wo.cell? ⟨r, q2 * 2, none⟩ = some (.bool false) := c0
        have hpe : pre = runL g M N := by have h := HPR.out; rw [runL_stop hgj, List.append_nil] at h; exact h
        have HPE := Lib.hid hpe
        clear hpe c1 g0 g1 hcr
        go_wp2_with fail
        go_ret2
        refine HTP.out _ _ ⟨ag, j, cg, vs, rfl, by rw [← HPE.out]; exact HPL.out, Rd.ofOwn HO.out, by rw [← HPE.out]; exact HBV.out.keep HMR.out (fun _ _ e => e), HTO.out.up HMR.out (fun _ _ e => e), HMD.out.trans HMR.out (fun _ _ e => e.elim) (fun _ _ e => e), fun k hk => Nat.le_trans HMD.out.size (HO.out.lt k hk).1⟩
      | some b =>
        have hjl : j < M := by have := HGS.out (N + j) (by rw [hgj]; exact fun h => by cases h); omega
        rw [hgj] at c0
        replace c0 : wo.cell? ⟨r, q2 * 2, none⟩ = some (.bool true) := c0
        have hb1 : j + 1 ≤ maxLen := by unfold maxLen; omega
        have hoa := fun o => Own.base (Own.keep HO.out (Mod.alloc (fun _ => False) wo o) (fun _ _ e => e)) (Nat.zero_le _)
        have hrlt2 : r < wq3.heap.size := by have := HMD.out.size; omega
        have hplt2 : p < wq3.heap.size := by have := HMD.out.size; omega
        go_upto_region 6 with (first | (at_builtin; refine wpList_append_any rfl (.tmp 64) (.tmp 69) 48 rfl 38 iB (.slice none 0 0) 1 24 Try.underlying48 hiB hzB hsB hbB rfl (by decide) _ j vs rfl (hoa _) _ 1 [.slice ab nb cb] rfl (Rd.lit _ _ _ _ 1 rfl rfl (by decide)) (by intro u hu; simp at hu; subst hu; rfl) hb1 (by omega) ?_; intro v4 w5 hap; obtain ⟨a4, c4, rfl⟩ := hap.form; have ho4 := hap.own; have lo4 := hap.low (B := wq3.heap.size) (by have h1 := HMR.out.size; simp; omega) (fun k hk => (HO.out.lt k hk).1); have hm5 : Mod (fun k => k = p ∨ k = r) wq3 w5 := (HMR.out.thenAlloc _).trans hap.mod (fun _ _ e => e) (fun i hi e => (by have := (HO.out.lt i e).1; omega)); have hap5 : ∀ k, (Value.slice ag j cg).ownBlock = some k → k ≠ p ∧ k ≠ r := (fun k hk => (by have := (HO.out.lt k hk).1; omega)); have hb5 : Blk w5 r 121 cr := (HCR.out.alloc _).keep hap.mod (fun e => (hap5 r e).2 rfl); have hp5 : Blk w5 p 110 [.int .i64 ((N + j : Nat) : Int), .slice (some ⟨r, 0, none⟩) M M] := (HTO.out.blk.alloc _).keep hap.mod (fun e => (hap5 p e).1 rfl); have ho5 := Own.rebase ho4 lo4; have HO5 := Lib.hid ho5; have HM5 := Lib.hid hm5; have HB5 := Lib.hid hb5; have HP5 := Lib.hid hp5; clear hap ho4 lo4 hm5 ho5 hap5 hb5 hp5 hoa c0 c1 g0 g1 hcr; have y0 := HB5.out.cell _ HZ1.out; have y1 := HB5.out.cell _ HZ2.out; have y2 := HB5.out.free (q2 * 2); have y3 := HB5.out.free (q2 * 2 + 1); have hpa := (HP5.out.setOther ⟨r, q2 * 2, none⟩ (.bool false) HNE.out).setOther ⟨r, q2 * 2 + 1, none⟩ (.slice none 0 0) HNE.out; have x0 := hpa.cell 0 rfl; have x1 := hpa.free 0))
        have hp6 := hpa.set 0 (.int .i64 (((N : Int) + (j : Int)) + 1))
        have hb6 := ((HB5.out.set (q2 * 2) (.bool false)).set (q2 * 2 + 1) (.slice none 0 0)).setOther ⟨p, 0, none⟩ (.int .i64 (((N : Int) + (j : Int)) + 1)) (fun h => HNE.out h.symm)
        have hs6 : Mod (fun k => k = p ∨ k = r) w5 (((w5.setCell ⟨r, q2 * 2, none⟩ (.bool false)).setCell ⟨r, q2 * 2 + 1, none⟩ (.slice none 0 0)).setCell ⟨p, 0, none⟩ (.int .i64 (((N : Int) + (j : Int)) + 1))) := ((Mod.setCell _ _ _ (.inr rfl)).trans (Mod.setCell _ _ _ (.inr rfl)) (fun _ _ e => e) (fun _ _ e => e)).trans (Mod.setCell _ _ _ (.inl rfl)) (fun _ _ e => e) (fun _ _ e => e)
        have ho6 : World.ownsRow (((w5.setCell ⟨r, q2 * 2, none⟩ (.bool false)).setCell ⟨r, q2 * 2 + 1, none⟩ (.slice none 0 0)).setCell ⟨p, 0, none⟩ (.int .i64 (((N : Int) + (j : Int)) + 1))) wq3.heap.size 38 1 (.slice a4 (j + 1) c4) (j + 1) (vs ++ [.slice ab nb cb]) := Own.keep HO5.out hs6 (fun k hk e => by have h1 := (HO5.out.lt k hk).1; rcases e with e | e <;> omega)
        obtain ⟨w6, hw6⟩ : ∃ x, ((w5.setCell ⟨r, q2 * 2, none⟩ (.bool false)).setCell ⟨r, q2 * 2 + 1, none⟩ (.slice none 0 0)).setCell ⟨p, 0, none⟩ (.int .i64 (((N : Int) + (j : Int)) + 1)) = x := ⟨_, rfl⟩
        rw [hw6] at hp6 hb6 hs6 ho6
        rw [hw6]
        clear hw6
        have hm6 := HM5.out.trans hs6 (H := fun k => k = p ∨ k = r) (fun _ _ e => e) (fun _ _ e => e)
        have htk6 : TKv wq3 w6 p r M (N + (j + 1)) (fromH g (N + (j + 1))) := ⟨hW, hW6, HNE.out, by have h := hp6; rw [show ((N + (j + 1) : Nat) : Int) = (N : Int) + (j : Int) + 1 by omega]; exact h, ⟨_, hb6, by have h := HKR.out.pop hW (by by_cases e : fromH g (N + j) (N + j + M) = none; exact e; have := fromH_sup HGS.out (show N ≤ N + j by omega) (N + j + M) e; omega); rw [fromH_succ, HQ2.out] at h; exact h⟩, fromH_sup HGS.out (by omega)⟩
        have hbv6 : BodiesV wq3 p r (pre ++ [b]) (vs ++ [.slice ab nb cb]) := HBV.out.snoc ⟨ab, nb, cb, rfl, by have h := HZ4.out; rw [hgj] at h; exact h, by have h := HZ5.out; rw [hgj] at h; exact h, HZ6.out⟩
        have hpr6 : (pre ++ [b]) ++ runL g (M - (j + 1)) (N + (j + 1)) = runL g M N := by
          have h := HPR.out
          rw [show M - j = (M - (j + 1)) + 1 by omega, runL_step hgj] at h
          rw [← h, List.append_assoc]
          rfl
        have HTK6 := Lib.hid htk6
        have HBV6 := Lib.hid hbv6
        have HPR6 := Lib.hid hpr6
        have HM6 := Lib.hid hm6
        have HO6 := Lib.hid ho6
        clear htk6 hbv6 hpr6 hm6 ho6 hp6 hb6 hs6 hpa x0 x1 y0 y1 y2 y3 hgj
        have qp0 := HTK6.out.blk.cell 0 rfl
        go_wp2_with fail
        refine (tkat_any w6 p r M (N + (j + 1)) hW HTK6.out.blk (N + (j + 1))).mono ?_
        rintro e w7 ⟨rfl, hm7⟩
        have HM7 := Lib.hid hm7
        clear hm7 qp0
        go_wp2_with fail
        go_roundw
        case rel => exact ⟨⟨j + 1, a4, c4, _, pre ++ [b], rfl, rfl, by rw [List.length_append, HPL.out]; rfl, hjl, Own.keep HO6.out HM7.out (fun _ _ e => e), HBV6.out, HTK6.out.later HM7.out, HPR6.out⟩, HM6.out.trans HM7.out (fun _ _ e => e) (fun _ _ e => e.elim)⟩
        case measure => simp [lenS]; omega
theorem tktake_any (w : World) (p r M N : Nat) (f : Hld) (h : TK w p r M N f) (hNb : N ≤ 1000000000000) (s : Nat) (hs : N ≤ s ∧ s < N + M) (hf : f s = none) (a : Option Addr) (n c : Nat) (bs : List Int) (hn : bs.length = n) (hr : Rd w 1 (.slice a n c) n (bs.map (Value.int .u8))) (hnb : n ≤ 100000) :
    Calls Try.prog 39 #[.pointer (some ⟨p, 0, none⟩), .int .i64 (s : Int), .slice a n c] w (TakeP p r M N (putH f s bs) w) :=
  (tktake_low w p r M N f h hNb s hs hf a n c bs hn hr hnb).mono fun _ _ h => h.of

end Go.Proofs.Ytdahoecejnnjkaa
