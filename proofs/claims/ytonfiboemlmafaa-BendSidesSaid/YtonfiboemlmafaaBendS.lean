/- The law BendSides, walked. -/
import Derived.Test.YtonfiboemlmafaaBend3
namespace Mile
open Go Go.RowKit
theorem clsD_sides {c d : Int} (h : ¬ (c = 0 ∧ d = 0)) :
    (clsD c d = 1 ∧ 0 < d ∧ 4 * c ≤ d ∧ -4 * c ≤ d) ∨ (clsD c d = 5 ∧ d < 0 ∧ 4 * c ≤ -d ∧ -4 * c ≤ -d) ∨ (clsD c d = 2 ∧ 0 < c ∧ 0 < d ∧ c ≤ d ∧ d < 4 * c) ∨ (clsD c d = 6 ∧ c < 0 ∧ 0 < d ∧ -c ≤ d ∧ d < -4 * c) ∨
    (clsD c d = 4 ∧ 0 < c ∧ d < 0 ∧ c ≤ -d ∧ -d < 4 * c) ∨ (clsD c d = 8 ∧ c < 0 ∧ d < 0 ∧ -c ≤ -d ∧ -d < -4 * c) ∨ (clsD c d = 3 ∧ 0 < c ∧ d < c ∧ -d < c) ∨ (clsD c d = 7 ∧ c < 0 ∧ d < -c ∧ -d < -c) := by
  have key : ∀ x : Int, 0 ≤ x → ¬ (x = 0 ∧ d = 0) → (lwC x d = 1 ∧ 0 < d ∧ 4 * x ≤ d) ∨ (lwC x d = 5 ∧ d < 0 ∧ 4 * x ≤ -d) ∨ (lwC x d = 2 ∧ 0 < x ∧ 0 < d ∧ x ≤ d ∧ d < 4 * x) ∨ (lwC x d = 4 ∧ 0 < x ∧ d < 0 ∧ x ≤ -d ∧ -d < 4 * x) ∨ (lwC x d = 3 ∧ 0 < x ∧ d < x ∧ -d < x) := by
    intro x hx hz
    unfold lwC
    by_cases a1 : 0 < d ∧ 4 * x ≤ d
    · rw [if_pos a1]; omega
    rw [if_neg a1]
    by_cases a2 : d < 0 ∧ 4 * x ≤ -d
    · rw [if_pos a2]; omega
    rw [if_neg a2]
    by_cases a3 : 0 < d ∧ x ≤ d
    · rw [if_pos a3]; omega
    rw [if_neg a3]
    by_cases a4 : d < 0 ∧ x ≤ -d
    · rw [if_pos a4]; omega
    rw [if_neg a4]; omega
  unfold clsD
  by_cases hc : c < 0
  · rw [if_pos hc]
    rcases key (-c) (by omega) (by omega) with ⟨e, h1, h2⟩ | ⟨e, h1, h2⟩ | ⟨e, h1, h2, h3, h4⟩ | ⟨e, h1, h2, h3, h4⟩ | ⟨e, h1, h2, h3⟩
    · rw [e]; exact Or.inl ⟨rfl, by omega, by omega, by omega⟩
    · rw [e]; exact Or.inr (Or.inl ⟨rfl, by omega, by omega, by omega⟩)
    · rw [e]; exact Or.inr (Or.inr (Or.inr (Or.inl ⟨rfl, by omega, by omega, by omega, by omega⟩)))
    · rw [e]; exact Or.inr (Or.inr (Or.inr (Or.inr (Or.inr (Or.inl ⟨rfl, by omega, by omega, by omega, by omega⟩)))))
    · rw [e]; exact Or.inr (Or.inr (Or.inr (Or.inr (Or.inr (Or.inr (Or.inr ⟨rfl, by omega, by omega, by omega⟩))))))
  · rw [if_neg hc]
    rcases key c (by omega) h with ⟨e, h1, h2⟩ | ⟨e, h1, h2⟩ | ⟨e, h1, h2, h3, h4⟩ | ⟨e, h1, h2, h3, h4⟩ | ⟨e, h1, h2, h3⟩
    · rw [e]; exact Or.inl ⟨rfl, by omega, by omega, by omega⟩
    · rw [e]; exact Or.inr (Or.inl ⟨rfl, by omega, by omega, by omega⟩)
    · rw [e]; exact Or.inr (Or.inr (Or.inl ⟨rfl, by omega, by omega, by omega, by omega⟩))
    · rw [e]; exact Or.inr (Or.inr (Or.inr (Or.inr (Or.inl ⟨rfl, by omega, by omega, by omega, by omega⟩))))
    · rw [e]; exact Or.inr (Or.inr (Or.inr (Or.inr (Or.inr (Or.inr (Or.inl ⟨rfl, by omega, by omega, by omega⟩))))))
end Mile
namespace Go.Proofs.Ytonfiboemlmafaa
open Go.RowKit Mile

set_option maxHeartbeats 16000000 in
set_option maxRecDepth 100000 in
theorem sides_walk (w : World) (ax ay bx dy : Int) :
    Calls Try.prog 6 #[.int .i64 ax, .int .i64 ay, .int .i64 bx, .int .i64 dy] w fun e w' => e = .returned (.bool true) ∧ Mod (fun _ => False) w w' := by
  rcases Int.lt_or_le ax (-4095) with g0 | g0
  · go_enter Try.func6, Try.ntmps6
    go_wp2_with fail
    refine (awake_any _).mono ?_
    rintro e w' ⟨rfl, hM⟩
    have HM := Lib.hid hM
    clear hM
    go_wp2_with fail
    go_ret
    exact ⟨rfl, HM.out⟩
  rcases Int.lt_or_le 4095 ax with g1 | g1
  · go_enter Try.func6, Try.ntmps6
    go_wp2_with fail
    refine (awake_any _).mono ?_
    rintro e w' ⟨rfl, hM⟩
    have HM := Lib.hid hM
    clear hM
    go_wp2_with fail
    go_ret
    exact ⟨rfl, HM.out⟩
  rcases Int.lt_or_le ay (-4095) with g2 | g2
  · go_enter Try.func6, Try.ntmps6
    go_wp2_with fail
    refine (awake_any _).mono ?_
    rintro e w' ⟨rfl, hM⟩
    have HM := Lib.hid hM
    clear hM
    go_wp2_with fail
    go_ret
    exact ⟨rfl, HM.out⟩
  rcases Int.lt_or_le 4095 ay with g3 | g3
  · go_enter Try.func6, Try.ntmps6
    go_wp2_with fail
    refine (awake_any _).mono ?_
    rintro e w' ⟨rfl, hM⟩
    have HM := Lib.hid hM
    clear hM
    go_wp2_with fail
    go_ret
    exact ⟨rfl, HM.out⟩
  rcases Int.lt_or_le bx (-4095) with g4 | g4
  · go_enter Try.func6, Try.ntmps6
    go_wp2_with fail
    refine (awake_any _).mono ?_
    rintro e w' ⟨rfl, hM⟩
    have HM := Lib.hid hM
    clear hM
    go_wp2_with fail
    go_ret
    exact ⟨rfl, HM.out⟩
  rcases Int.lt_or_le 4095 bx with g5 | g5
  · go_enter Try.func6, Try.ntmps6
    go_wp2_with fail
    refine (awake_any _).mono ?_
    rintro e w' ⟨rfl, hM⟩
    have HM := Lib.hid hM
    clear hM
    go_wp2_with fail
    go_ret
    exact ⟨rfl, HM.out⟩
  rcases Int.lt_or_le dy (-4095) with g6 | g6
  · go_enter Try.func6, Try.ntmps6
    go_wp2_with fail
    refine (awake_any _).mono ?_
    rintro e w' ⟨rfl, hM⟩
    have HM := Lib.hid hM
    clear hM
    go_wp2_with fail
    go_ret
    exact ⟨rfl, HM.out⟩
  rcases Int.lt_or_le 4095 dy with g7 | g7
  · go_enter Try.func6, Try.ntmps6
    go_wp2_with fail
    refine (awake_any _).mono ?_
    rintro e w' ⟨rfl, hM⟩
    have HM := Lib.hid hM
    clear hM
    go_wp2_with fail
    go_ret
    exact ⟨rfl, HM.out⟩
  have b1 : -4095 ≤ ax ∧ ax ≤ 4095 := ⟨g0, g1⟩
  have b2 : -4095 ≤ ay ∧ ay ≤ 4095 := ⟨g2, g3⟩
  have b3 : -4095 ≤ bx ∧ bx ≤ 4095 := ⟨g4, g5⟩
  have b4 : -4095 ≤ dy ∧ dy ≤ 4095 := ⟨g6, g7⟩
  clear g0 g1 g2 g3 g4 g5 g6 g7
  have p1 := prod_le b1 b4
  have p2 := prod_le b2 b3
  have p3 := prod_le b1 b3
  have p4 := prod_le b2 b4
  by_cases hz : (ax = 0 ∧ ay = 0) ∨ (bx = 0 ∧ dy = 0)
  · have HC : Hid (clsC ax ay bx dy = 0) := Lib.hid (by
      unfold clsC
      rw [if_neg]
      rintro ⟨h, k⟩
      have := ((wayC_iff _ _).1 h).2
      have := ((wayC_iff _ _).1 k).2
      omega)
    by_cases ha : ax = 0 ∧ ay = 0
    · obtain ⟨rfl, rfl⟩ := ha
      clear hz p1 p2 p3 p4
      go_enter Try.func6, Try.ntmps6
      go_wp2_with fail
      refine (class_at HC.out _).mono ?_
      rintro e w' ⟨rfl, rfl⟩
      go_wp2_with fail
      refine (awake_any _).mono ?_
      rintro e w' ⟨rfl, hM⟩
      have HM := Lib.hid hM
      clear hM
      go_wp2_with fail
      go_ret
      exact ⟨rfl, HM.out⟩
    · obtain ⟨rfl, rfl⟩ : bx = 0 ∧ dy = 0 := by omega
      have HA := Lib.hid ha
      by_cases e1 : ax = 0
      · subst e1
        have e2 : (ay == 0) = false := by rw [beq_eq_false_iff_ne]; omega
        clear hz ha p1 p2 p3 p4
        go_enter Try.func6, Try.ntmps6
        go_wp2_with fail
        refine (class_at HC.out _).mono ?_
        rintro e w' ⟨rfl, rfl⟩
        go_wp2_with fail
        refine (awake_any _).mono ?_
        rintro e w' ⟨rfl, hM⟩
        have HM := Lib.hid hM
        clear hM
        go_wp2_with fail
        go_ret
        exact ⟨rfl, HM.out⟩
      · have e2 : (ax == 0) = false := by rw [beq_eq_false_iff_ne]; exact e1
        clear hz ha e1 p1 p2 p3 p4
        go_enter Try.func6, Try.ntmps6
        go_wp2_with fail
        refine (class_at HC.out _).mono ?_
        rintro e w' ⟨rfl, rfl⟩
        go_wp2_with fail
        refine (awake_any _).mono ?_
        rintro e w' ⟨rfl, hM⟩
        have HM := Lib.hid hM
        clear hM
        go_wp2_with fail
        go_ret
        exact ⟨rfl, HM.out⟩
  · have hcd := cross_dot (ax := ax) (ay := ay) (bx := bx) (dy := dy) (by omega) (by omega)
    have hcl : clsC ax ay bx dy = clsD (ax * dy - ay * bx) (ax * bx + ay * dy) := by
      unfold clsC
      rw [if_pos ⟨(wayC_iff _ _).2 ⟨⟨b1, b2⟩, by omega⟩, (wayC_iff _ _).2 ⟨⟨b3, b4⟩, by omega⟩⟩]
    have hs := clsD_sides hcd
    rw [← hcl] at hs
    clear hcd hcl hz
    rcases hs with ⟨hc, h1, h2, h3⟩ | ⟨hc, h1, h2, h3⟩ | ⟨hc, h1, h2, h3, h4⟩ | ⟨hc, h1, h2, h3, h4⟩ | ⟨hc, h1, h2, h3, h4⟩ | ⟨hc, h1, h2, h3, h4⟩ | ⟨hc, h1, h2, h3⟩ | ⟨hc, h1, h2, h3⟩ <;>
    · have HC := Lib.hid hc
      clear hc
      go_enter Try.func6, Try.ntmps6
      go_wp2_with fail
      refine (class_at HC.out _).mono ?_
      rintro e w' ⟨rfl, rfl⟩
      go_wp2_with fail
      refine (awake_any _).mono ?_
      rintro e w' ⟨rfl, hM⟩
      have HM := Lib.hid hM
      clear hM
      go_wp2_with fail
      go_ret
      exact ⟨rfl, HM.out⟩
theorem sides_all (w : World) (ax : Int) (_ : (Lit.int .i64 ax).wf = true) (ay : Int) (_ : (Lit.int .i64 ay).wf = true) (bx : Int) (_ : (Lit.int .i64 bx).wf = true) (dy : Int) (_ : (Lit.int .i64 dy).wf = true) :
    Calls Try.prog 6 #[.int .i64 ax, .int .i64 ay, .int .i64 bx, .int .i64 dy] w fun e w' => e = .returned (.bool true) ∧ Below w.heap.size w w' :=
  (sides_walk w ax ay bx dy).mono fun e w' h => ⟨h.1, h.2.below (Nat.le_refl _) (fun _ e => e.elim)⟩
end Go.Proofs.Ytonfiboemlmafaa
