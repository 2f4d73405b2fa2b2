/- Which way a turn goes, as plain numbers: the class by cross and dot; mirrored, turned, scaled, back. -/
import Derived.Test.YtagmnkobigecnaaBase2
import Derived.Test.YtagmnkobigecnaaRows
import Derived.Deep.QuietTactic
import Derived.BigQuiet
import Derived.Lib.Hide
import Derived.StillTailTactics
namespace Mile
open Go Go.RowKit

theorem i64_wfB (n : Int) : (Lit.int .i64 n).wf = true ↔ -9223372036854775808 ≤ n ∧ n ≤ 9223372036854775807 := by
  simp [Lit.wf, IntKind.min, IntKind.max, IntKind.signed, IntKind.bits]

def mirC (c : Int) : Int := if c = 2 ∨ c = 3 ∨ c = 4 then c + 4 else if c = 6 ∨ c = 7 ∨ c = 8 then c - 4 else c
def lwC (c d : Int) : Int := if 0 < d ∧ 4 * c ≤ d then 1 else if d < 0 ∧ 4 * c ≤ -d then 5 else if 0 < d ∧ c ≤ d then 2 else if d < 0 ∧ c ≤ -d then 4 else 3
def clsD (c d : Int) : Int := if c < 0 then mirC (lwC (-c) d) else lwC c d
def wayC (x y : Int) : Bool := decide (((-4095 ≤ x ∧ x ≤ 4095) ∧ (-4095 ≤ y ∧ y ≤ 4095)) ∧ (x ≠ 0 ∨ y ≠ 0))
def clsC (ax ay bx dy : Int) : Int := if wayC ax ay = true ∧ wayC bx dy = true then clsD (ax * dy - ay * bx) (ax * bx + ay * dy) else 0

theorem mirC_mirC (c : Int) : mirC (mirC c) = c := by unfold mirC; split <;> split <;> (try split) <;> omega
theorem clsD_neg {c d : Int} (h : ¬ (c = 0 ∧ d = 0)) : clsD (-c) d = mirC (clsD c d) := by
  unfold clsD
  by_cases h1 : c < 0
  · rw [if_neg (by omega), if_pos h1, mirC_mirC]
  · by_cases h2 : c = 0
    · subst h2
      rw [if_neg (by omega), if_neg (by omega)]
      have : lwC 0 d = 1 ∨ lwC 0 d = 5 := by unfold lwC; split <;> (try split) <;> omega
      rw [show (-0 : Int) = 0 by omega]
      rcases this with e | e <;> rw [e] <;> rfl
    · rw [if_pos (by omega), if_neg h1, show - -c = c by omega]
theorem pos_scale {k d : Int} (hk : 1 ≤ k) : 0 < k * d ↔ 0 < d := by
  constructor
  · intro h
    rcases Int.lt_trichotomy d 0 with e | e | e
    · have := Int.mul_neg_of_pos_of_neg (show 0 < k by omega) e; omega
    · subst e; simp at h
    · exact e
  · exact fun h => Int.mul_pos (by omega) h
theorem le_scale {k a b : Int} (hk : 1 ≤ k) : k * a ≤ k * b ↔ a ≤ b := by
  have h := @pos_scale k (a - b) hk
  rw [Int.mul_sub] at h
  omega
theorem lwC_scale {k c d : Int} (hk : 1 ≤ k) : lwC (k * c) (k * d) = lwC c d := by
  have a1 := @pos_scale k d hk
  have a2 := @pos_scale k (-d) hk
  have a3 := @le_scale k (4 * c) d hk
  have a4 := @le_scale k (4 * c) (-d) hk
  have a5 := @le_scale k c d hk
  have a6 := @le_scale k c (-d) hk
  rw [Int.mul_neg] at a2 a4 a6
  rw [Int.mul_left_comm] at a3 a4
  unfold lwC
  have e1 : (0 < k * d ∧ 4 * (k * c) ≤ k * d) ↔ (0 < d ∧ 4 * c ≤ d) := by omega
  have e2 : (k * d < 0 ∧ 4 * (k * c) ≤ -(k * d)) ↔ (d < 0 ∧ 4 * c ≤ -d) := by omega
  have e3 : (0 < k * d ∧ k * c ≤ k * d) ↔ (0 < d ∧ c ≤ d) := by omega
  have e4 : (k * d < 0 ∧ k * c ≤ -(k * d)) ↔ (d < 0 ∧ c ≤ -d) := by omega
  simp only [e1, e2, e3, e4]
theorem clsD_scale {k c d : Int} (hk : 1 ≤ k) : clsD (k * c) (k * d) = clsD c d := by
  have a1 := @pos_scale k (-c) hk
  rw [Int.mul_neg] at a1
  unfold clsD
  have e1 : k * c < 0 ↔ c < 0 := by omega
  rw [← Int.mul_neg, lwC_scale hk, lwC_scale hk]
  simp only [e1]

/-- Two ways that go somewhere have a cross or a dot. -/
theorem cross_dot {ax ay bx dy : Int} (ha : ax ≠ 0 ∨ ay ≠ 0) (hb : bx ≠ 0 ∨ dy ≠ 0) : ¬ (ax * dy - ay * bx = 0 ∧ ax * bx + ay * dy = 0) := by
  rintro ⟨h1, h2⟩
  have sq : ∀ x : Int, 0 ≤ x * x := fun x => by
    rcases Int.lt_trichotomy x 0 with e | e | e
    · have := Int.mul_pos_of_neg_of_neg e e; omega
    · subst e; simp
    · have := Int.mul_pos e e; omega
  have sqp : ∀ x : Int, x ≠ 0 → 0 < x * x := fun x hx => by
    rcases Int.lt_trichotomy x 0 with e | e | e
    · exact Int.mul_pos_of_neg_of_neg e e
    · exact absurd e hx
    · exact Int.mul_pos e e
  have hpos : 0 < bx * bx + dy * dy := by
    have := sq bx; have := sq dy
    rcases hb with e | e <;> have := sqp _ e <;> omega
  have e1 : ax * dy = ay * bx := by omega
  have e2 : ax * bx = -(ay * dy) := by omega
  have k1 : ax * (bx * bx + dy * dy) = 0 := by
    rw [Int.mul_add, ← Int.mul_assoc, ← Int.mul_assoc, e1, e2, Int.neg_mul, Int.mul_assoc, Int.mul_assoc, Int.mul_comm dy bx]; omega
  have k2 : ay * (bx * bx + dy * dy) = 0 := by
    rw [Int.mul_add, ← Int.mul_assoc, ← Int.mul_assoc, ← e1, show ay * dy = -(ax * bx) by omega, Int.neg_mul, Int.mul_assoc, Int.mul_assoc, Int.mul_comm dy bx]; omega
  rcases ha with e | e
  · rcases Int.mul_eq_zero.1 k1 with f | f <;> omega
  · rcases Int.mul_eq_zero.1 k2 with f | f <;> omega
theorem wayC_iff (x y : Int) : wayC x y = true ↔ ((-4095 ≤ x ∧ x ≤ 4095) ∧ (-4095 ≤ y ∧ y ≤ 4095)) ∧ (x ≠ 0 ∨ y ≠ 0) := by unfold wayC; simp
theorem wayC_of {x y a b : Int} (h : (((-4095 ≤ x ∧ x ≤ 4095) ∧ (-4095 ≤ y ∧ y ≤ 4095)) ∧ (x ≠ 0 ∨ y ≠ 0)) ↔ (((-4095 ≤ a ∧ a ≤ 4095) ∧ (-4095 ≤ b ∧ b ≤ 4095)) ∧ (a ≠ 0 ∨ b ≠ 0))) : wayC x y = wayC a b := by
  unfold wayC; simp only [h]
theorem mirC_zero : mirC 0 = 0 := rfl
/-- Both turned over: the other way. -/
theorem clsC_neg {ax ay bx dy px py qx qy : Int} (h1 : wayC px py = true ∧ wayC qx qy = true ↔ wayC ax ay = true ∧ wayC bx dy = true) (h2 : px * qy - py * qx = -(ax * dy - ay * bx)) (h3 : px * qx + py * qy = ax * bx + ay * dy) :
    clsC px py qx qy = mirC (clsC ax ay bx dy) := by
  unfold clsC
  by_cases h : wayC ax ay = true ∧ wayC bx dy = true
  · rw [if_pos h, if_pos (h1.2 h), h2, h3]
    exact clsD_neg (cross_dot ((wayC_iff _ _).1 h.1).2 ((wayC_iff _ _).1 h.2).2)
  · rw [if_neg h, if_neg (fun e => h (h1.1 e))]; rfl
theorem clsC_same {ax ay bx dy px py qx qy k : Int} (hk : 1 ≤ k) (h1 : wayC px py = true ∧ wayC qx qy = true ↔ wayC ax ay = true ∧ wayC bx dy = true) (h2 : px * qy - py * qx = k * (ax * dy - ay * bx)) (h3 : px * qx + py * qy = k * (ax * bx + ay * dy)) :
    clsC px py qx qy = clsC ax ay bx dy := by
  unfold clsC
  by_cases h : wayC ax ay = true ∧ wayC bx dy = true
  · rw [if_pos h, if_pos (h1.2 h), h2, h3]; exact clsD_scale hk
  · rw [if_neg h, if_neg (fun e => h (h1.1 e))]
/-- BendMirrors. -/
theorem bend_mirrors (ax ay bx dy k : Int) (hk : 1 ≤ k ∧ k ≤ 9) (h1 : -400 ≤ ax ∧ ax ≤ 400) (h2 : -400 ≤ ay ∧ ay ≤ 400) (h3 : -400 ≤ bx ∧ bx ≤ 400) (h4 : -400 ≤ dy ∧ dy ≤ 400) :
    clsC ax (-ay) bx (-dy) = mirC (clsC ax ay bx dy) ∧ clsC (-ay) ax (-dy) bx = clsC ax ay bx dy ∧ clsC (k * ax) (k * ay) bx dy = clsC ax ay bx dy ∧ clsC ax ay (k * bx) (k * dy) = clsC ax ay bx dy := by
  have hw : ∀ x y : Int, (-400 ≤ x ∧ x ≤ 400) → (-400 ≤ y ∧ y ≤ 400) → wayC (k * x) (k * y) = wayC x y := fun x y hx hy => wayC_of (by
    obtain ⟨k1, k2⟩ := hk
    rcases (show k = 1 ∨ k = 2 ∨ k = 3 ∨ k = 4 ∨ k = 5 ∨ k = 6 ∨ k = 7 ∨ k = 8 ∨ k = 9 by omega) with rfl | rfl | rfl | rfl | rfl | rfl | rfl | rfl | rfl <;> omega)
  have hn1 : ∀ x y : Int, wayC x (-y) = wayC x y := fun x y => wayC_of (by omega)
  have hn2 : ∀ x y : Int, wayC (-y) x = wayC x y := fun x y => wayC_of (by omega)
  refine ⟨clsC_neg ?_ ?_ ?_, clsC_same (k := 1) (by omega) ?_ ?_ ?_, clsC_same hk.1 ?_ ?_ ?_, clsC_same hk.1 ?_ ?_ ?_⟩
  · rw [hn1, hn1]
  · rw [Int.mul_neg, Int.neg_mul]; omega
  · rw [Int.neg_mul_neg]
  · rw [hn2, hn2]
  · rw [Int.neg_mul, Int.mul_neg]; omega
  · rw [Int.neg_mul_neg]; omega
  · rw [hw ax ay h1 h2]
  · rw [Int.mul_assoc, Int.mul_assoc, Int.mul_sub]
  · rw [Int.mul_assoc, Int.mul_assoc, Int.mul_add]
  · rw [hw bx dy h3 h4]
  · rw [Int.mul_left_comm, Int.mul_left_comm ay, Int.mul_sub]
  · rw [Int.mul_left_comm, Int.mul_left_comm ay, Int.mul_add]
/-- BendBack. -/
theorem bend_back (ax ay bx dy : Int) (h1 : -4095 ≤ ax ∧ ax ≤ 4095) (h2 : -4095 ≤ ay ∧ ay ≤ 4095) (h0 : ax ≠ 0 ∨ ay ≠ 0) :
    clsC (-bx) (-dy) (-ax) (-ay) = mirC (clsC ax ay bx dy) ∧ clsC ax ay ax ay = 1 ∧ clsC ax ay (-ax) (-ay) = 5 := by
  have hn : ∀ x y : Int, wayC (-x) (-y) = wayC x y := fun x y => wayC_of (by omega)
  have hw : wayC ax ay = true := (wayC_iff _ _).2 ⟨⟨h1, h2⟩, h0⟩
  have hd : 0 < ax * ax + ay * ay := by
    have sqp : ∀ x : Int, x ≠ 0 → 0 < x * x := fun x hx => by
      rcases Int.lt_trichotomy x 0 with e | e | e
      · exact Int.mul_pos_of_neg_of_neg e e
      · exact absurd e hx
      · exact Int.mul_pos e e
    by_cases e1 : ax = 0
    · subst e1; have := sqp ay (by omega); omega
    · have := sqp ax e1
      by_cases e2 : ay = 0
      · subst e2; omega
      · have := sqp ay e2; omega
  refine ⟨clsC_neg ?_ ?_ ?_, ?_, ?_⟩
  · rw [hn, hn]; exact and_comm
  · rw [Int.neg_mul_neg, Int.neg_mul_neg, Int.mul_comm bx, Int.mul_comm dy]; omega
  · rw [Int.neg_mul_neg, Int.neg_mul_neg, Int.mul_comm bx, Int.mul_comm dy]
  · unfold clsC
    rw [if_pos ⟨hw, hw⟩, Int.mul_comm ay ax, Int.sub_self]
    unfold clsD lwC
    rw [if_neg (by omega), if_pos (by omega)]
  · unfold clsC
    rw [if_pos ⟨hw, by rw [hn]; exact hw⟩, Int.mul_neg, Int.mul_neg, Int.mul_neg, Int.mul_neg, Int.mul_comm ay ax]
    unfold clsD lwC
    rw [if_neg (by omega), if_neg (by omega), if_pos (by omega)]
end Mile
namespace Go.Proofs.Ytagmnkobigecnaa
open Go.RowKit Mile
set_option maxRecDepth 100000

theorem span_any (n : Int) (w : World) : Calls Try.prog 78 #[.int .i64 n] w fun e w' => e = .returned (.bool (decide (-4095 ≤ n ∧ n ≤ 4095))) ∧ w = w' := by
  by_cases h1 : -4095 ≤ n <;> by_cases h2 : n ≤ 4095 <;>
  · go_enter Try.func78, Try.ntmps78
    go_wp2
    go_ret
    exact ⟨by simp [h1, h2], rfl⟩
theorem span_q {n : Int} {r : Bool} (h : decide (-4095 ≤ n ∧ n ≤ 4095) = r) (w : World) : Calls Try.prog 78 #[.int .i64 n] w fun e w' => e = .returned (.bool r) ∧ w' = w :=
  (span_any n w).mono fun e w' hh => ⟨by rw [hh.1, h], hh.2.symm⟩
theorem way_any (x y : Int) (r : Bool) (hr : wayC x y = r) (w : World) : Calls Try.prog 53 #[.int .i64 x, .int .i64 y] w fun e w' => e = .returned (.bool r) ∧ w' = w := by
  by_cases h1 : -4095 ≤ x ∧ x ≤ 4095
  · have d1 : decide (-4095 ≤ x ∧ x ≤ 4095) = true := by simpa using h1
    by_cases h2 : -4095 ≤ y ∧ y ≤ 4095
    · have d2 : decide (-4095 ≤ y ∧ y ≤ 4095) = true := by simpa using h2
      have he : r = decide (x ≠ 0 ∨ y ≠ 0) := by rw [← hr]; unfold wayC; simp only [h1, h2, true_and, and_self]
      rw [he]
      clear he hr
      by_cases h3 : x = 0
      · subst h3
        by_cases h4 : y = 0
        · subst h4
          go_enter Try.func53, Try.ntmps53
          go_wp2_with (go_at_call 78; refine (span_q (by assumption) _).mono ?_; rintro e w' ⟨rfl, rfl⟩)
          go_ret
          exact ⟨rfl, rfl⟩
        · have g4 : (y == 0) = false := by rw [beq_eq_false_iff_ne]; exact h4
          have g5 : (y != 0) = true := by simp [h4]
          have he : decide ((0 : Int) ≠ 0 ∨ y ≠ 0) = true := by simp [h4]
          rw [he]
          clear he
          go_enter Try.func53, Try.ntmps53
          go_wp2_with (go_at_call 78; refine (span_q (by assumption) _).mono ?_; rintro e w' ⟨rfl, rfl⟩)
          go_ret
          exact ⟨rfl, rfl⟩
      · have g3 : (x == 0) = false := by rw [beq_eq_false_iff_ne]; exact h3
        have g5 : (x != 0) = true := by simp [h3]
        have he : decide (x ≠ 0 ∨ y ≠ 0) = true := by simp [h3]
        rw [he]
        clear he
        go_enter Try.func53, Try.ntmps53
        go_wp2_with (go_at_call 78; refine (span_q (by assumption) _).mono ?_; rintro e w' ⟨rfl, rfl⟩)
        go_ret
        exact ⟨rfl, rfl⟩
    · have d2 : decide (-4095 ≤ y ∧ y ≤ 4095) = false := by simpa using h2
      have he : r = false := by rw [← hr]; unfold wayC; simp only [h1, h2]; simp
      rw [he]
      clear he hr
      go_enter Try.func53, Try.ntmps53
      go_wp2_with (go_at_call 78; refine (span_q (by assumption) _).mono ?_; rintro e w' ⟨rfl, rfl⟩)
      go_ret
      exact ⟨rfl, rfl⟩
  · have d1 : decide (-4095 ≤ x ∧ x ≤ 4095) = false := by simpa using h1
    have he : r = false := by rw [← hr]; unfold wayC; simp only [h1]; simp
    rw [he]
    clear he hr
    go_enter Try.func53, Try.ntmps53
    go_wp2_with (go_at_call 78; refine (span_q (by assumption) _).mono ?_; rintro e w' ⟨rfl, rfl⟩)
    go_ret
    exact ⟨rfl, rfl⟩
theorem mirror_any (c : Int) (hc : (Lit.int .i64 c).wf = true) (w : World) : Calls Try.prog 24 #[.int .i64 c] w fun e w' => e = .returned (.int .i64 (mirC c)) ∧ w = w' := by
  have HR : Hid (mirC c = if c = 2 ∨ c = 3 ∨ c = 4 then c + 4 else if c = 6 ∨ c = 7 ∨ c = 8 then c - 4 else c) := Lib.hid rfl
  by_cases h : c = 2 ∨ c = 3 ∨ c = 4 ∨ c = 6 ∨ c = 7 ∨ c = 8
  · rcases h with rfl | rfl | rfl | rfl | rfl | rfl <;>
    · clear HR
      go_enter Try.func24, Try.ntmps24
      go_wp2
      go_ret
      exact ⟨rfl, rfl⟩
  · have k2 : (c == 2) = false := by rw [beq_eq_false_iff_ne]; omega
    have k3 : (c == 3) = false := by rw [beq_eq_false_iff_ne]; omega
    have k4 : (c == 4) = false := by rw [beq_eq_false_iff_ne]; omega
    have k6 : (c == 6) = false := by rw [beq_eq_false_iff_ne]; omega
    have k7 : (c == 7) = false := by rw [beq_eq_false_iff_ne]; omega
    have k8 : (c == 8) = false := by rw [beq_eq_false_iff_ne]; omega
    have hm : Hid (mirC c = c) := Lib.hid (by rw [HR.out, if_neg (by omega), if_neg (by omega)])
    clear h HR
    go_enter Try.func24, Try.ntmps24
    go_wp2
    go_ret
    exact ⟨by rw [hm.out]; rfl, rfl⟩
theorem lw_any (c d : Int) (hc : 0 ≤ c ∧ c ≤ 40000000) (hd : -40000000 ≤ d ∧ d ≤ 40000000) (w : World) : Calls Try.prog 54 #[.int .i64 c, .int .i64 d] w fun e w' => e = .returned (.int .i64 (lwC c d)) ∧ w = w' := by
  have HR : Hid (lwC c d = if 0 < d ∧ 4 * c ≤ d then 1 else if d < 0 ∧ 4 * c ≤ -d then 5 else if 0 < d ∧ c ≤ d then 2 else if d < 0 ∧ c ≤ -d then 4 else 3) := Lib.hid rfl
  rcases Int.lt_trichotomy d 0 with e | e | e
  · have g1 : decide (0 < d) = false := by simp; omega
    have g2 : decide (d < 0) = true := by simp; omega
    by_cases h1 : 4 * c ≤ -d
    · go_enter Try.func54, Try.ntmps54
      go_wp2
      go_ret
      exact ⟨by rw [HR.out, if_neg (by omega), if_pos (by omega)]; rfl, rfl⟩
    · by_cases h2 : c ≤ -d
      · go_enter Try.func54, Try.ntmps54
        go_wp2
        go_ret
        exact ⟨by rw [HR.out, if_neg (by omega), if_neg (by omega), if_neg (by omega), if_pos (by omega)]; rfl, rfl⟩
      · go_enter Try.func54, Try.ntmps54
        go_wp2
        go_ret
        exact ⟨by rw [HR.out, if_neg (by omega), if_neg (by omega), if_neg (by omega), if_neg (by omega)]; rfl, rfl⟩
  · subst e
    go_enter Try.func54, Try.ntmps54
    go_wp2
    go_ret
    exact ⟨by rw [HR.out, if_neg (by omega), if_neg (by omega), if_neg (by omega), if_neg (by omega)]; rfl, rfl⟩
  · have g1 : decide (0 < d) = true := by simp; omega
    have g2 : decide (d < 0) = false := by simp; omega
    by_cases h1 : 4 * c ≤ d
    · go_enter Try.func54, Try.ntmps54
      go_wp2
      go_ret
      exact ⟨by rw [HR.out, if_pos (by omega)]; rfl, rfl⟩
    · by_cases h2 : c ≤ d
      · go_enter Try.func54, Try.ntmps54
        go_wp2
        go_ret
        exact ⟨by rw [HR.out, if_neg (by omega), if_neg (by omega), if_pos (by omega)]; rfl, rfl⟩
      · go_enter Try.func54, Try.ntmps54
        go_wp2
        go_ret
        exact ⟨by rw [HR.out, if_neg (by omega), if_neg (by omega), if_neg (by omega), if_neg (by omega)]; rfl, rfl⟩
theorem prod_le {x y : Int} (hx : -4095 ≤ x ∧ x ≤ 4095) (hy : -4095 ≤ y ∧ y ≤ 4095) : -16769025 ≤ x * y ∧ x * y ≤ 16769025 := by
  have a1 : 0 ≤ (4095 - x) * (4095 + y) := Int.mul_nonneg (by omega) (by omega)
  have a2 : 0 ≤ (4095 + x) * (4095 - y) := Int.mul_nonneg (by omega) (by omega)
  have a3 : 0 ≤ (4095 - x) * (4095 - y) := Int.mul_nonneg (by omega) (by omega)
  have a4 : 0 ≤ (4095 + x) * (4095 + y) := Int.mul_nonneg (by omega) (by omega)
  rw [Int.sub_mul, Int.mul_add, Int.mul_add] at a1
  rw [Int.add_mul, Int.mul_sub, Int.mul_sub] at a2
  rw [Int.sub_mul, Int.mul_sub, Int.mul_sub] at a3
  rw [Int.add_mul, Int.mul_add, Int.mul_add] at a4
  omega
theorem lwC_range (c d : Int) : 1 ≤ lwC c d ∧ lwC c d ≤ 5 := by unfold lwC; split <;> (try split) <;> (try split) <;> (try split) <;> omega
theorem mirC_range {c : Int} (h : 0 ≤ c ∧ c ≤ 8) : 0 ≤ mirC c ∧ mirC c ≤ 8 := by unfold mirC; split <;> (try split) <;> omega
theorem clsC_range (ax ay bx dy : Int) : 0 ≤ clsC ax ay bx dy ∧ clsC ax ay bx dy ≤ 8 := by
  unfold clsC clsD
  split
  · split
    · exact mirC_range (by have := lwC_range (-(ax * dy - ay * bx)) (ax * bx + ay * dy); omega)
    · have := lwC_range (ax * dy - ay * bx) (ax * bx + ay * dy); omega
  · omega
theorem clsC_wf (ax ay bx dy : Int) : (Lit.int .i64 (clsC ax ay bx dy)).wf = true := (i64_wfB _).2 (by have := clsC_range ax ay bx dy; omega)
theorem class_any (ax ay bx dy : Int) (w : World) : Calls Try.prog 20 #[.int .i64 ax, .int .i64 ay, .int .i64 bx, .int .i64 dy] w fun e w' => e = .returned (.int .i64 (clsC ax ay bx dy)) ∧ w' = w := by
  have HR : Hid (clsC ax ay bx dy = if wayC ax ay = true ∧ wayC bx dy = true then clsD (ax * dy - ay * bx) (ax * bx + ay * dy) else 0) := Lib.hid rfl
  have HA := Lib.hid (wayC_iff ax ay)
  have HB := Lib.hid (wayC_iff bx dy)
  obtain ⟨r1, h1⟩ : ∃ r, wayC ax ay = r := ⟨_, rfl⟩
  obtain ⟨r2, h2⟩ : ∃ r, wayC bx dy = r := ⟨_, rfl⟩
  cases r1 with
  | false =>
    go_enter Try.func20, Try.ntmps20
    go_wp2_with (go_at_call 53; refine (way_any _ _ _ (by assumption) _).mono ?_; rintro e w' ⟨rfl, rfl⟩)
    go_ret
    exact ⟨by rw [HR.out, h1, if_neg (by simp)]; rfl, rfl⟩
  | true =>
    cases r2 with
    | false =>
      go_enter Try.func20, Try.ntmps20
      go_wp2_with (go_at_call 53; refine (way_any _ _ _ (by assumption) _).mono ?_; rintro e w' ⟨rfl, rfl⟩)
      go_ret
      exact ⟨by rw [HR.out, h2, if_neg (by simp)]; rfl, rfl⟩
    | true =>
      obtain ⟨⟨b1, b2⟩, _⟩ := HA.out.1 h1
      obtain ⟨⟨b3, b4⟩, _⟩ := HB.out.1 h2
      have p1 := prod_le b1 b4
      have p2 := prod_le b2 b3
      have p3 := prod_le b1 b3
      have p4 := prod_le b2 b4
      have HR2 : Hid (clsC ax ay bx dy = clsD (ax * dy - ay * bx) (ax * bx + ay * dy)) := Lib.hid (by rw [HR.out, if_pos ⟨h1, h2⟩])
      clear HA HB HR
      obtain ⟨R, hR⟩ : ∃ R, clsC ax ay bx dy = R := ⟨_, rfl⟩
      rw [hR] at HR2 ⊢
      clear hR
      have HC : Hid (∀ c d, clsD c d = if c < 0 then mirC (lwC (-c) d) else lwC c d) := Lib.hid fun _ _ => rfl
      by_cases hc : ax * dy - ay * bx < 0
      · have g : decide (ax * dy - ay * bx < 0) = true := by simpa using hc
        have hwf : (Lit.int .i64 (lwC (-(ax * dy - ay * bx)) (ax * bx + ay * dy))).wf = true := (i64_wfB _).2 (by have := lwC_range (-(ax * dy - ay * bx)) (ax * bx + ay * dy); omega)
        have HR3 : Hid (R = mirC (lwC (-(ax * dy - ay * bx)) (ax * bx + ay * dy))) := Lib.hid (by rw [HR2.out, HC.out, if_pos hc])
        clear HR2 HC
        go_enter Try.func20, Try.ntmps20
        go_wp2_with (first | (go_at_call 53; refine (way_any _ _ _ (by assumption) _).mono ?_; rintro e w' ⟨rfl, rfl⟩) | (go_at_call 54; refine (lw_any _ _ (by omega) (by omega) _).mono ?_; rintro e w' ⟨rfl, rfl⟩) | (go_at_call 24; refine (mirror_any _ hwf _).mono ?_; rintro e w' ⟨rfl, rfl⟩))
        go_ret
        exact ⟨by rw [HR3.out]; rfl, rfl⟩
      · have g : decide (ax * dy - ay * bx < 0) = false := by simpa using hc
        have HR3 : Hid (R = lwC (ax * dy - ay * bx) (ax * bx + ay * dy)) := Lib.hid (by rw [HR2.out, HC.out, if_neg hc])
        clear HR2 HC
        go_enter Try.func20, Try.ntmps20
        go_wp2_with (first | (go_at_call 53; refine (way_any _ _ _ (by assumption) _).mono ?_; rintro e w' ⟨rfl, rfl⟩) | (go_at_call 54; refine (lw_any _ _ (by omega) (by omega) _).mono ?_; rintro e w' ⟨rfl, rfl⟩))
        go_ret
        exact ⟨by rw [HR3.out]; rfl, rfl⟩
end Go.Proofs.Ytagmnkobigecnaa
