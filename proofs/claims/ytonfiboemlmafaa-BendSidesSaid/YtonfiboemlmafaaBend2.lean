/- Package bend, by contract: Class, Mirror. -/
import Derived.Test.YtonfiboemlmafaaRows
import Derived.Test.YtonfiboemlmafaaBend
import Derived.Deep.QuietTactic
import Derived.BigQuiet
import Derived.Lib.Hide
import Derived.StillTailTactics
namespace Go.Proofs.Ytonfiboemlmafaa
open Go.RowKit Mile

theorem span_any (n : Int) (w : World) : Calls Try.prog 37 #[.int .i64 n] w fun e w' => e = .returned (.bool (decide (-4095 ≤ n ∧ n ≤ 4095))) ∧ w = w' := by
  by_cases h1 : -4095 ≤ n <;> by_cases h2 : n ≤ 4095 <;>
  · go_enter Try.func37, Try.ntmps37
    go_wp2
    go_ret
    exact ⟨by simp [h1, h2], rfl⟩
theorem span_q {n : Int} {r : Bool} (h : decide (-4095 ≤ n ∧ n ≤ 4095) = r) (w : World) : Calls Try.prog 37 #[.int .i64 n] w fun e w' => e = .returned (.bool r) ∧ w' = w :=
  (span_any n w).mono fun e w' hh => ⟨by rw [hh.1, h], hh.2.symm⟩
theorem way_any (x y : Int) (r : Bool) (hr : wayC x y = r) (w : World) : Calls Try.prog 22 #[.int .i64 x, .int .i64 y] w fun e w' => e = .returned (.bool r) ∧ w' = w := by
  by_cases h1 : -4095 ≤ x ∧ x ≤ 4095
  · have d1 : decide (-4095 ≤ x ∧ x ≤ 4095) = true := by simpa using h1
    by_cases h2 : -4095 ≤ y ∧ y ≤ 4095
    · have d2 : decide (-4095 ≤ y ∧ y ≤ 4095) = true := by simpa using h2
      have he : r = decide (x ≠ 0 ∨ y ≠ 0) := by rw [← hr]; unfold wayC; simp only [h1, h2, true_and, and_self]
      rw [he]
      clear he hr
      by_cases h3 : x = 0
      · subst h3
        by_cases h4 : y = 0
        · subst h4
          go_enter Try.func22, Try.ntmps22
          go_wp2_with (go_at_call 37; refine (span_q (by assumption) _).mono ?_; rintro e w' ⟨rfl, rfl⟩)
          go_ret
          exact ⟨rfl, rfl⟩
        · have g4 : (y == 0) = false := by rw [beq_eq_false_iff_ne]; exact h4
          have g5 : (y != 0) = true := by simp [h4]
          have he : decide ((0 : Int) ≠ 0 ∨ y ≠ 0) = true := by simp [h4]
          rw [he]
          clear he
          go_enter Try.func22, Try.ntmps22
          go_wp2_with (go_at_call 37; refine (span_q (by assumption) _).mono ?_; rintro e w' ⟨rfl, rfl⟩)
          go_ret
          exact ⟨rfl, rfl⟩
      · have g3 : (x == 0) = false := by rw [beq_eq_false_iff_ne]; exact h3
        have g5 : (x != 0) = true := by simp [h3]
        have he : decide (x ≠ 0 ∨ y ≠ 0) = true := by simp [h3]
        rw [he]
        clear he
        go_enter Try.func22, Try.ntmps22
        go_wp2_with (go_at_call 37; refine (span_q (by assumption) _).mono ?_; rintro e w' ⟨rfl, rfl⟩)
        go_ret
        exact ⟨rfl, rfl⟩
    · have d2 : decide (-4095 ≤ y ∧ y ≤ 4095) = false := by simpa using h2
      have he : r = false := by rw [← hr]; unfold wayC; simp only [h1, h2]; simp
      rw [he]
      clear he hr
      go_enter Try.func22, Try.ntmps22
      go_wp2_with (go_at_call 37; refine (span_q (by assumption) _).mono ?_; rintro e w' ⟨rfl, rfl⟩)
      go_ret
      exact ⟨rfl, rfl⟩
  · have d1 : decide (-4095 ≤ x ∧ x ≤ 4095) = false := by simpa using h1
    have he : r = false := by rw [← hr]; unfold wayC; simp only [h1]; simp
    rw [he]
    clear he hr
    go_enter Try.func22, Try.ntmps22
    go_wp2_with (go_at_call 37; refine (span_q (by assumption) _).mono ?_; rintro e w' ⟨rfl, rfl⟩)
    go_ret
    exact ⟨rfl, rfl⟩
theorem mirror_any (c : Int) (hc : (Lit.int .i64 c).wf = true) (w : World) : Calls Try.prog 14 #[.int .i64 c] w fun e w' => e = .returned (.int .i64 (mirC c)) ∧ w = w' := by
  have HR : Hid (mirC c = if c = 2 ∨ c = 3 ∨ c = 4 then c + 4 else if c = 6 ∨ c = 7 ∨ c = 8 then c - 4 else c) := Lib.hid rfl
  by_cases h : c = 2 ∨ c = 3 ∨ c = 4 ∨ c = 6 ∨ c = 7 ∨ c = 8
  · rcases h with rfl | rfl | rfl | rfl | rfl | rfl <;>
    · clear HR
      go_enter Try.func14, Try.ntmps14
      go_wp2
      go_ret
      exact ⟨rfl, rfl⟩
  · have k2 : (c == 2) = false := by rw [beq_eq_false_iff_ne]; omega
    have k3 : (c == 3) = false := by rw [beq_eq_false_iff_ne]; omega
    have k4 : (c == 4) = false := by rw [beq_eq_false_iff_ne]; omega
    have k6 : (c == 6) = false := by rw [beq_eq_false_iff_ne]; omega
    have k7 : (c == 7) = false := by rw [beq_eq_false_iff_ne]; omega
    have k8 : (c == 8) = false := by rw [beq_eq_false_iff_ne]; omega
    have hm : Hid (mirC c = c) := Lib.hid (by rw [HR.out, if_neg (by omega), if_neg (by omega)])
    clear h HR
    go_enter Try.func14, Try.ntmps14
    go_wp2
    go_ret
    exact ⟨by rw [hm.out]; rfl, rfl⟩
theorem lw_any (c d : Int) (hc : 0 ≤ c ∧ c ≤ 40000000) (hd : -40000000 ≤ d ∧ d ≤ 40000000) (w : World) : Calls Try.prog 23 #[.int .i64 c, .int .i64 d] w fun e w' => e = .returned (.int .i64 (lwC c d)) ∧ w = w' := by
  have HR : Hid (lwC c d = if 0 < d ∧ 4 * c ≤ d then 1 else if d < 0 ∧ 4 * c ≤ -d then 5 else if 0 < d ∧ c ≤ d then 2 else if d < 0 ∧ c ≤ -d then 4 else 3) := Lib.hid rfl
  rcases Int.lt_trichotomy d 0 with e | e | e
  · have g1 : decide (0 < d) = false := by simp; omega
    have g2 : decide (d < 0) = true := by simp; omega
    by_cases h1 : 4 * c ≤ -d
    · go_enter Try.func23, Try.ntmps23
      go_wp2
      go_ret
      exact ⟨by rw [HR.out, if_neg (by omega), if_pos (by omega)]; rfl, rfl⟩
    · by_cases h2 : c ≤ -d
      · go_enter Try.func23, Try.ntmps23
        go_wp2
        go_ret
        exact ⟨by rw [HR.out, if_neg (by omega), if_neg (by omega), if_neg (by omega), if_pos (by omega)]; rfl, rfl⟩
      · go_enter Try.func23, Try.ntmps23
        go_wp2
        go_ret
        exact ⟨by rw [HR.out, if_neg (by omega), if_neg (by omega), if_neg (by omega), if_neg (by omega)]; rfl, rfl⟩
  · subst e
    go_enter Try.func23, Try.ntmps23
    go_wp2
    go_ret
    exact ⟨by rw [HR.out, if_neg (by omega), if_neg (by omega), if_neg (by omega), if_neg (by omega)]; rfl, rfl⟩
  · have g1 : decide (0 < d) = true := by simp; omega
    have g2 : decide (d < 0) = false := by simp; omega
    by_cases h1 : 4 * c ≤ d
    · go_enter Try.func23, Try.ntmps23
      go_wp2
      go_ret
      exact ⟨by rw [HR.out, if_pos (by omega)]; rfl, rfl⟩
    · by_cases h2 : c ≤ d
      · go_enter Try.func23, Try.ntmps23
        go_wp2
        go_ret
        exact ⟨by rw [HR.out, if_neg (by omega), if_neg (by omega), if_pos (by omega)]; rfl, rfl⟩
      · go_enter Try.func23, Try.ntmps23
        go_wp2
        go_ret
        exact ⟨by rw [HR.out, if_neg (by omega), if_neg (by omega), if_neg (by omega), if_neg (by omega)]; rfl, rfl⟩
theorem prod_le {x y : Int} (hx : -4095 ≤ x ∧ x ≤ 4095) (hy : -4095 ≤ y ∧ y ≤ 4095) : -16769025 ≤ x * y ∧ x * y ≤ 16769025 := by
  have a1 : 0 ≤ (4095 - x) * (4095 + y) := Int.mul_nonneg (by omega) (by omega)
  have a2 : 0 ≤ (4095 + x) * (4095 - y) := Int.mul_nonneg (by omega) (by omega)
  have a3 : 0 ≤ (4095 - x) * (4095 - y) := Int.mul_nonneg (by omega) (by omega)
  have a4 : 0 ≤ (4095 + x) * (4095 + y) := Int.mul_nonneg (by omega) (by omega)
  rw [Int.sub_mul, Int.mul_add, Int.mul_add] at a1
  rw [Int.add_mul, Int.mul_sub, Int.mul_sub] at a2
  rw [Int.sub_mul, Int.mul_sub, Int.mul_sub] at a3
  rw [Int.add_mul, Int.mul_add, Int.mul_add] at a4
  omega
theorem lwC_range (c d : Int) : 1 ≤ lwC c d ∧ lwC c d ≤ 5 := by unfold lwC; split <;> (try split) <;> (try split) <;> (try split) <;> omega
theorem mirC_range {c : Int} (h : 0 ≤ c ∧ c ≤ 8) : 0 ≤ mirC c ∧ mirC c ≤ 8 := by unfold mirC; split <;> (try split) <;> omega
theorem clsC_range (ax ay bx dy : Int) : 0 ≤ clsC ax ay bx dy ∧ clsC ax ay bx dy ≤ 8 := by
  unfold clsC clsD
  split
  · split
    · exact mirC_range (by have := lwC_range (-(ax * dy - ay * bx)) (ax * bx + ay * dy); omega)
    · have := lwC_range (ax * dy - ay * bx) (ax * bx + ay * dy); omega
  · omega
theorem clsC_wf (ax ay bx dy : Int) : (Lit.int .i64 (clsC ax ay bx dy)).wf = true := (i64_wfB _).2 (by have := clsC_range ax ay bx dy; omega)
theorem class_any (ax ay bx dy : Int) (w : World) : Calls Try.prog 10 #[.int .i64 ax, .int .i64 ay, .int .i64 bx, .int .i64 dy] w fun e w' => e = .returned (.int .i64 (clsC ax ay bx dy)) ∧ w' = w := by
  have HR : Hid (clsC ax ay bx dy = if wayC ax ay = true ∧ wayC bx dy = true then clsD (ax * dy - ay * bx) (ax * bx + ay * dy) else 0) := Lib.hid rfl
  have HA := Lib.hid (wayC_iff ax ay)
  have HB := Lib.hid (wayC_iff bx dy)
  obtain ⟨r1, h1⟩ : ∃ r, wayC ax ay = r := ⟨_, rfl⟩
  obtain ⟨r2, h2⟩ : ∃ r, wayC bx dy = r := ⟨_, rfl⟩
  cases r1 with
  | false =>
    go_enter Try.func10, Try.ntmps10
    go_wp2_with (go_at_call 22; refine (way_any _ _ _ (by assumption) _).mono ?_; rintro e w' ⟨rfl, rfl⟩)
    go_ret
    exact ⟨by rw [HR.out, h1, if_neg (by simp)]; rfl, rfl⟩
  | true =>
    cases r2 with
    | false =>
      go_enter Try.func10, Try.ntmps10
      go_wp2_with (go_at_call 22; refine (way_any _ _ _ (by assumption) _).mono ?_; rintro e w' ⟨rfl, rfl⟩)
      go_ret
      exact ⟨by rw [HR.out, h2, if_neg (by simp)]; rfl, rfl⟩
    | true =>
      obtain ⟨⟨b1, b2⟩, _⟩ := HA.out.1 h1
      obtain ⟨⟨b3, b4⟩, _⟩ := HB.out.1 h2
      have p1 := prod_le b1 b4
      have p2 := prod_le b2 b3
      have p3 := prod_le b1 b3
      have p4 := prod_le b2 b4
      have HR2 : Hid (clsC ax ay bx dy = clsD (ax * dy - ay * bx) (ax * bx + ay * dy)) := Lib.hid (by rw [HR.out, if_pos ⟨h1, h2⟩])
      clear HA HB HR
      obtain ⟨R, hR⟩ : ∃ R, clsC ax ay bx dy = R := ⟨_, rfl⟩
      rw [hR] at HR2 ⊢
      clear hR
      have HC : Hid (∀ c d, clsD c d = if c < 0 then mirC (lwC (-c) d) else lwC c d) := Lib.hid fun _ _ => rfl
      by_cases hc : ax * dy - ay * bx < 0
      · have g : decide (ax * dy - ay * bx < 0) = true := by simpa using hc
        have hwf : (Lit.int .i64 (lwC (-(ax * dy - ay * bx)) (ax * bx + ay * dy))).wf = true := (i64_wfB _).2 (by have := lwC_range (-(ax * dy - ay * bx)) (ax * bx + ay * dy); omega)
        have HR3 : Hid (R = mirC (lwC (-(ax * dy - ay * bx)) (ax * bx + ay * dy))) := Lib.hid (by rw [HR2.out, HC.out, if_pos hc])
        clear HR2 HC
        go_enter Try.func10, Try.ntmps10
        go_wp2_with (first | (go_at_call 22; refine (way_any _ _ _ (by assumption) _).mono ?_; rintro e w' ⟨rfl, rfl⟩) | (go_at_call 23; refine (lw_any _ _ (by omega) (by omega) _).mono ?_; rintro e w' ⟨rfl, rfl⟩) | (go_at_call 14; refine (mirror_any _ hwf _).mono ?_; rintro e w' ⟨rfl, rfl⟩))
        go_ret
        exact ⟨by rw [HR3.out]; rfl, rfl⟩
      · have g : decide (ax * dy - ay * bx < 0) = false := by simpa using hc
        have HR3 : Hid (R = lwC (ax * dy - ay * bx) (ax * bx + ay * dy)) := Lib.hid (by rw [HR2.out, HC.out, if_neg hc])
        clear HR2 HC
        go_enter Try.func10, Try.ntmps10
        go_wp2_with (first | (go_at_call 22; refine (way_any _ _ _ (by assumption) _).mono ?_; rintro e w' ⟨rfl, rfl⟩) | (go_at_call 23; refine (lw_any _ _ (by omega) (by omega) _).mono ?_; rintro e w' ⟨rfl, rfl⟩))
        go_ret
        exact ⟨by rw [HR3.out]; rfl, rfl⟩
end Go.Proofs.Ytonfiboemlmafaa
