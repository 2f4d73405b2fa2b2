/- Which way a turn goes, as plain numbers: the class by cross and dot; mirrored, turned, scaled, back. -/
import Derived.Test.YtonfiboemlmafaaBase2
namespace Mile
open Go Go.RowKit

theorem i64_wfB (n : Int) : (Lit.int .i64 n).wf = true ↔ -9223372036854775808 ≤ n ∧ n ≤ 9223372036854775807 := by
  simp [Lit.wf, IntKind.min, IntKind.max, IntKind.signed, IntKind.bits]

def mirC (c : Int) : Int := if c = 2 ∨ c = 3 ∨ c = 4 then c + 4 else if c = 6 ∨ c = 7 ∨ c = 8 then c - 4 else c
def lwC (c d : Int) : Int := if 0 < d ∧ 4 * c ≤ d then 1 else if d < 0 ∧ 4 * c ≤ -d then 5 else if 0 < d ∧ c ≤ d then 2 else if d < 0 ∧ c ≤ -d then 4 else 3
def clsD (c d : Int) : Int := if c < 0 then mirC (lwC (-c) d) else lwC c d
def wayC (x y : Int) : Bool := decide (((-4095 ≤ x ∧ x ≤ 4095) ∧ (-4095 ≤ y ∧ y ≤ 4095)) ∧ (x ≠ 0 ∨ y ≠ 0))
def clsC (ax ay bx dy : Int) : Int := if wayC ax ay = true ∧ wayC bx dy = true then clsD (ax * dy - ay * bx) (ax * bx + ay * dy) else 0

theorem mirC_mirC (c : Int) : mirC (mirC c) = c := by unfold mirC; split <;> split <;> (try split) <;> omega
theorem clsD_neg {c d : Int} (h : ¬ (c = 0 ∧ d = 0)) : clsD (-c) d = mirC (clsD c d) := by
  unfold clsD
  by_cases h1 : c < 0
  · rw [if_neg (by omega), if_pos h1, mirC_mirC]
  · by_cases h2 : c = 0
    · subst h2
      rw [if_neg (by omega), if_neg (by omega)]
      have : lwC 0 d = 1 ∨ lwC 0 d = 5 := by unfold lwC; split <;> (try split) <;> omega
      rw [show (-0 : Int) = 0 by omega]
      rcases this with e | e <;> rw [e] <;> rfl
    · rw [if_pos (by omega), if_neg h1, show - -c = c by omega]
theorem pos_scale {k d : Int} (hk : 1 ≤ k) : 0 < k * d ↔ 0 < d := by
  constructor
  · intro h
    rcases Int.lt_trichotomy d 0 with e | e | e
    · have := Int.mul_neg_of_pos_of_neg (show 0 < k by omega) e; omega
    · subst e; simp at h
    · exact e
  · exact fun h => Int.mul_pos (by omega) h
theorem le_scale {k a b : Int} (hk : 1 ≤ k) : k * a ≤ k * b ↔ a ≤ b := by
  have h := @pos_scale k (a - b) hk
  rw [Int.mul_sub] at h
  omega
theorem lwC_scale {k c d : Int} (hk : 1 ≤ k) : lwC (k * c) (k * d) = lwC c d := by
  have a1 := @pos_scale k d hk
  have a2 := @pos_scale k (-d) hk
  have a3 := @le_scale k (4 * c) d hk
  have a4 := @le_scale k (4 * c) (-d) hk
  have a5 := @le_scale k c d hk
  have a6 := @le_scale k c (-d) hk
  rw [Int.mul_neg] at a2 a4 a6
  rw [Int.mul_left_comm] at a3 a4
  unfold lwC
  have e1 : (0 < k * d ∧ 4 * (k * c) ≤ k * d) ↔ (0 < d ∧ 4 * c ≤ d) := by omega
  have e2 : (k * d < 0 ∧ 4 * (k * c) ≤ -(k * d)) ↔ (d < 0 ∧ 4 * c ≤ -d) := by omega
  have e3 : (0 < k * d ∧ k * c ≤ k * d) ↔ (0 < d ∧ c ≤ d) := by omega
  have e4 : (k * d < 0 ∧ k * c ≤ -(k * d)) ↔ (d < 0 ∧ c ≤ -d) := by omega
  simp only [e1, e2, e3, e4]
theorem clsD_scale {k c d : Int} (hk : 1 ≤ k) : clsD (k * c) (k * d) = clsD c d := by
  have a1 := @pos_scale k (-c) hk
  rw [Int.mul_neg] at a1
  unfold clsD
  have e1 : k * c < 0 ↔ c < 0 := by omega
  rw [← Int.mul_neg, lwC_scale hk, lwC_scale hk]
  simp only [e1]

/-- Two ways that go somewhere have a cross or a dot. -/
theorem cross_dot {ax ay bx dy : Int} (ha : ax ≠ 0 ∨ ay ≠ 0) (hb : bx ≠ 0 ∨ dy ≠ 0) : ¬ (ax * dy - ay * bx = 0 ∧ ax * bx + ay * dy = 0) := by
  rintro ⟨h1, h2⟩
  have sq : ∀ x : Int, 0 ≤ x * x := fun x => by
    rcases Int.lt_trichotomy x 0 with e | e | e
    · have := Int.mul_pos_of_neg_of_neg e e; omega
    · subst e; simp
    · have := Int.mul_pos e e; omega
  have sqp : ∀ x : Int, x ≠ 0 → 0 < x * x := fun x hx => by
    rcases Int.lt_trichotomy x 0 with e | e | e
    · exact Int.mul_pos_of_neg_of_neg e e
    · exact absurd e hx
    · exact Int.mul_pos e e
  have hpos : 0 < bx * bx + dy * dy := by
    have := sq bx; have := sq dy
    rcases hb with e | e <;> have := sqp _ e <;> omega
  have e1 : ax * dy = ay * bx := by omega
  have e2 : ax * bx = -(ay * dy) := by omega
  have k1 : ax * (bx * bx + dy * dy) = 0 := by
    rw [Int.mul_add, ← Int.mul_assoc, ← Int.mul_assoc, e1, e2, Int.neg_mul, Int.mul_assoc, Int.mul_assoc, Int.mul_comm dy bx]; omega
  have k2 : ay * (bx * bx + dy * dy) = 0 := by
    rw [Int.mul_add, ← Int.mul_assoc, ← Int.mul_assoc, ← e1, show ay * dy = -(ax * bx) by omega, Int.neg_mul, Int.mul_assoc, Int.mul_assoc, Int.mul_comm dy bx]; omega
  rcases ha with e | e
  · rcases Int.mul_eq_zero.1 k1 with f | f <;> omega
  · rcases Int.mul_eq_zero.1 k2 with f | f <;> omega
theorem wayC_iff (x y : Int) : wayC x y = true ↔ ((-4095 ≤ x ∧ x ≤ 4095) ∧ (-4095 ≤ y ∧ y ≤ 4095)) ∧ (x ≠ 0 ∨ y ≠ 0) := by unfold wayC; simp
theorem wayC_of {x y a b : Int} (h : (((-4095 ≤ x ∧ x ≤ 4095) ∧ (-4095 ≤ y ∧ y ≤ 4095)) ∧ (x ≠ 0 ∨ y ≠ 0)) ↔ (((-4095 ≤ a ∧ a ≤ 4095) ∧ (-4095 ≤ b ∧ b ≤ 4095)) ∧ (a ≠ 0 ∨ b ≠ 0))) : wayC x y = wayC a b := by
  unfold wayC; simp only [h]
theorem mirC_zero : mirC 0 = 0 := rfl
/-- Both turned over: the other way. -/
theorem clsC_neg {ax ay bx dy px py qx qy : Int} (h1 : wayC px py = true ∧ wayC qx qy = true ↔ wayC ax ay = true ∧ wayC bx dy = true) (h2 : px * qy - py * qx = -(ax * dy - ay * bx)) (h3 : px * qx + py * qy = ax * bx + ay * dy) :
    clsC px py qx qy = mirC (clsC ax ay bx dy) := by
  unfold clsC
  by_cases h : wayC ax ay = true ∧ wayC bx dy = true
  · rw [if_pos h, if_pos (h1.2 h), h2, h3]
    exact clsD_neg (cross_dot ((wayC_iff _ _).1 h.1).2 ((wayC_iff _ _).1 h.2).2)
  · rw [if_neg h, if_neg (fun e => h (h1.1 e))]; rfl
theorem clsC_same {ax ay bx dy px py qx qy k : Int} (hk : 1 ≤ k) (h1 : wayC px py = true ∧ wayC qx qy = true ↔ wayC ax ay = true ∧ wayC bx dy = true) (h2 : px * qy - py * qx = k * (ax * dy - ay * bx)) (h3 : px * qx + py * qy = k * (ax * bx + ay * dy)) :
    clsC px py qx qy = clsC ax ay bx dy := by
  unfold clsC
  by_cases h : wayC ax ay = true ∧ wayC bx dy = true
  · rw [if_pos h, if_pos (h1.2 h), h2, h3]; exact clsD_scale hk
  · rw [if_neg h, if_neg (fun e => h (h1.1 e))]
/-- BendMirrors. -/
theorem bend_mirrors (ax ay bx dy k : Int) (hk : 1 ≤ k ∧ k ≤ 9) (h1 : -400 ≤ ax ∧ ax ≤ 400) (h2 : -400 ≤ ay ∧ ay ≤ 400) (h3 : -400 ≤ bx ∧ bx ≤ 400) (h4 : -400 ≤ dy ∧ dy ≤ 400) :
    clsC ax (-ay) bx (-dy) = mirC (clsC ax ay bx dy) ∧ clsC (-ay) ax (-dy) bx = clsC ax ay bx dy ∧ clsC (k * ax) (k * ay) bx dy = clsC ax ay bx dy ∧ clsC ax ay (k * bx) (k * dy) = clsC ax ay bx dy := by
  have hw : ∀ x y : Int, (-400 ≤ x ∧ x ≤ 400) → (-400 ≤ y ∧ y ≤ 400) → wayC (k * x) (k * y) = wayC x y := fun x y hx hy => wayC_of (by
    obtain ⟨k1, k2⟩ := hk
    rcases (show k = 1 ∨ k = 2 ∨ k = 3 ∨ k = 4 ∨ k = 5 ∨ k = 6 ∨ k = 7 ∨ k = 8 ∨ k = 9 by omega) with rfl | rfl | rfl | rfl | rfl | rfl | rfl | rfl | rfl <;> omega)
  have hn1 : ∀ x y : Int, wayC x (-y) = wayC x y := fun x y => wayC_of (by omega)
  have hn2 : ∀ x y : Int, wayC (-y) x = wayC x y := fun x y => wayC_of (by omega)
  refine ⟨clsC_neg ?_ ?_ ?_, clsC_same (k := 1) (by omega) ?_ ?_ ?_, clsC_same hk.1 ?_ ?_ ?_, clsC_same hk.1 ?_ ?_ ?_⟩
  · rw [hn1, hn1]
  · rw [Int.mul_neg, Int.neg_mul]; omega
  · rw [Int.neg_mul_neg]
  · rw [hn2, hn2]
  · rw [Int.neg_mul, Int.mul_neg]; omega
  · rw [Int.neg_mul_neg]; omega
  · rw [hw ax ay h1 h2]
  · rw [Int.mul_assoc, Int.mul_assoc, Int.mul_sub]
  · rw [Int.mul_assoc, Int.mul_assoc, Int.mul_add]
  · rw [hw bx dy h3 h4]
  · rw [Int.mul_left_comm, Int.mul_left_comm ay, Int.mul_sub]
  · rw [Int.mul_left_comm, Int.mul_left_comm ay, Int.mul_add]
/-- BendBack. -/
theorem bend_back (ax ay bx dy : Int) (h1 : -4095 ≤ ax ∧ ax ≤ 4095) (h2 : -4095 ≤ ay ∧ ay ≤ 4095) (h0 : ax ≠ 0 ∨ ay ≠ 0) :
    clsC (-bx) (-dy) (-ax) (-ay) = mirC (clsC ax ay bx dy) ∧ clsC ax ay ax ay = 1 ∧ clsC ax ay (-ax) (-ay) = 5 := by
  have hn : ∀ x y : Int, wayC (-x) (-y) = wayC x y := fun x y => wayC_of (by omega)
  have hw : wayC ax ay = true := (wayC_iff _ _).2 ⟨⟨h1, h2⟩, h0⟩
  have hd : 0 < ax * ax + ay * ay := by
    have sqp : ∀ x : Int, x ≠ 0 → 0 < x * x := fun x hx => by
      rcases Int.lt_trichotomy x 0 with e | e | e
      · exact Int.mul_pos_of_neg_of_neg e e
      · exact absurd e hx
      · exact Int.mul_pos e e
    by_cases e1 : ax = 0
    · subst e1; have := sqp ay (by omega); omega
    · have := sqp ax e1
      by_cases e2 : ay = 0
      · subst e2; omega
      · have := sqp ay e2; omega
  refine ⟨clsC_neg ?_ ?_ ?_, ?_, ?_⟩
  · rw [hn, hn]; exact and_comm
  · rw [Int.neg_mul_neg, Int.neg_mul_neg, Int.mul_comm bx, Int.mul_comm dy]; omega
  · rw [Int.neg_mul_neg, Int.neg_mul_neg, Int.mul_comm bx, Int.mul_comm dy]
  · unfold clsC
    rw [if_pos ⟨hw, hw⟩, Int.mul_comm ay ax, Int.sub_self]
    unfold clsD lwC
    rw [if_neg (by omega), if_pos (by omega)]
  · unfold clsC
    rw [if_pos ⟨hw, by rw [hn]; exact hw⟩, Int.mul_neg, Int.mul_neg, Int.mul_neg, Int.mul_neg, Int.mul_comm ay ax]
    unfold clsD lwC
    rw [if_neg (by omega), if_neg (by omega), if_pos (by omega)]
end Mile
