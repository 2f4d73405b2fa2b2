/- The laws BendMirrors and BendBack, walked. -/
import Derived.Test.YtonfiboemlmafaaBend3
namespace Go.Proofs.Ytonfiboemlmafaa
open Go.RowKit Mile

set_option maxHeartbeats 8000000 in
theorem mirrors_walk (w : World) (ax ay bx dy k : Int) :
    Calls Try.prog 4 #[.int .i64 ax, .int .i64 ay, .int .i64 bx, .int .i64 dy, .int .i64 k] w fun e w' => e = .returned (.bool true) ∧ Mod (fun _ => False) w w' := by
  rcases Int.lt_or_le k 1 with g0 | g0
  · go_enter Try.func4, Try.ntmps4
    go_wp2_with fail
    refine (awake_any _).mono ?_
    rintro e w' ⟨rfl, hM⟩
    have HM := Lib.hid hM
    clear hM
    go_wp2_with fail
    go_ret
    exact ⟨rfl, HM.out⟩
  rcases Int.lt_or_le 9 k with g1 | g1
  · go_enter Try.func4, Try.ntmps4
    go_wp2_with fail
    refine (awake_any _).mono ?_
    rintro e w' ⟨rfl, hM⟩
    have HM := Lib.hid hM
    clear hM
    go_wp2_with fail
    go_ret
    exact ⟨rfl, HM.out⟩
  rcases Int.lt_or_le ax (-400) with g2 | g2
  · go_enter Try.func4, Try.ntmps4
    go_wp2_with fail
    refine (awake_any _).mono ?_
    rintro e w' ⟨rfl, hM⟩
    have HM := Lib.hid hM
    clear hM
    go_wp2_with fail
    go_ret
    exact ⟨rfl, HM.out⟩
  rcases Int.lt_or_le 400 ax with g3 | g3
  · go_enter Try.func4, Try.ntmps4
    go_wp2_with fail
    refine (awake_any _).mono ?_
    rintro e w' ⟨rfl, hM⟩
    have HM := Lib.hid hM
    clear hM
    go_wp2_with fail
    go_ret
    exact ⟨rfl, HM.out⟩
  rcases Int.lt_or_le ay (-400) with g4 | g4
  · go_enter Try.func4, Try.ntmps4
    go_wp2_with fail
    refine (awake_any _).mono ?_
    rintro e w' ⟨rfl, hM⟩
    have HM := Lib.hid hM
    clear hM
    go_wp2_with fail
    go_ret
    exact ⟨rfl, HM.out⟩
  rcases Int.lt_or_le 400 ay with g5 | g5
  · go_enter Try.func4, Try.ntmps4
    go_wp2_with fail
    refine (awake_any _).mono ?_
    rintro e w' ⟨rfl, hM⟩
    have HM := Lib.hid hM
    clear hM
    go_wp2_with fail
    go_ret
    exact ⟨rfl, HM.out⟩
  rcases Int.lt_or_le bx (-400) with g6 | g6
  · go_enter Try.func4, Try.ntmps4
    go_wp2_with fail
    refine (awake_any _).mono ?_
    rintro e w' ⟨rfl, hM⟩
    have HM := Lib.hid hM
    clear hM
    go_wp2_with fail
    go_ret
    exact ⟨rfl, HM.out⟩
  rcases Int.lt_or_le 400 bx with g7 | g7
  · go_enter Try.func4, Try.ntmps4
    go_wp2_with fail
    refine (awake_any _).mono ?_
    rintro e w' ⟨rfl, hM⟩
    have HM := Lib.hid hM
    clear hM
    go_wp2_with fail
    go_ret
    exact ⟨rfl, HM.out⟩
  rcases Int.lt_or_le dy (-400) with g8 | g8
  · go_enter Try.func4, Try.ntmps4
    go_wp2_with fail
    refine (awake_any _).mono ?_
    rintro e w' ⟨rfl, hM⟩
    have HM := Lib.hid hM
    clear hM
    go_wp2_with fail
    go_ret
    exact ⟨rfl, HM.out⟩
  rcases Int.lt_or_le 400 dy with g9 | g9
  · go_enter Try.func4, Try.ntmps4
    go_wp2_with fail
    refine (awake_any _).mono ?_
    rintro e w' ⟨rfl, hM⟩
    have HM := Lib.hid hM
    clear hM
    go_wp2_with fail
    go_ret
    exact ⟨rfl, HM.out⟩
  have b0 : 1 ≤ k ∧ k ≤ 9 := ⟨g0, g1⟩
  have b1 : -400 ≤ ax ∧ ax ≤ 400 := ⟨g2, g3⟩
  have b2 : -400 ≤ ay ∧ ay ≤ 400 := ⟨g4, g5⟩
  have b3 : -400 ≤ bx ∧ bx ≤ 400 := ⟨g6, g7⟩
  have b4 : -400 ≤ dy ∧ dy ≤ 400 := ⟨g8, g9⟩
  clear g0 g1 g2 g3 g4 g5 g6 g7 g8 g9
  obtain ⟨m1, m2, m3, m4⟩ := bend_mirrors ax ay bx dy k b0 b1 b2 b3 b4
  have m5 := mirC_mirC (clsC ax ay bx dy)
  have hwc := clsC_wf ax ay bx dy
  obtain ⟨c, hc⟩ : ∃ c, clsC ax ay bx dy = c := ⟨_, rfl⟩
  rw [hc] at m1 m2 m3 m4 m5 hwc
  have hr := mirC_range (c := c) (by rw [← hc]; exact clsC_range _ _ _ _)
  obtain ⟨d, hd⟩ : ∃ d, mirC c = d := ⟨_, rfl⟩
  rw [hd] at m1 m5 hr
  have hwd : (Lit.int .i64 d).wf = true := (i64_wfB _).2 (by omega)
  have M1 := Lib.hid m1
  have M2 := Lib.hid m2
  have M3 := Lib.hid m3
  have M4 := Lib.hid m4
  have M5 := Lib.hid m5
  have HC := Lib.hid hc
  have HD := Lib.hid hd
  have p1 : -3600 ≤ k * ax ∧ k * ax ≤ 3600 := by
    rcases (show k = 1 ∨ k = 2 ∨ k = 3 ∨ k = 4 ∨ k = 5 ∨ k = 6 ∨ k = 7 ∨ k = 8 ∨ k = 9 by omega) with rfl | rfl | rfl | rfl | rfl | rfl | rfl | rfl | rfl <;> omega
  have p2 : -3600 ≤ k * ay ∧ k * ay ≤ 3600 := by
    rcases (show k = 1 ∨ k = 2 ∨ k = 3 ∨ k = 4 ∨ k = 5 ∨ k = 6 ∨ k = 7 ∨ k = 8 ∨ k = 9 by omega) with rfl | rfl | rfl | rfl | rfl | rfl | rfl | rfl | rfl <;> omega
  have p3 : -3600 ≤ k * bx ∧ k * bx ≤ 3600 := by
    rcases (show k = 1 ∨ k = 2 ∨ k = 3 ∨ k = 4 ∨ k = 5 ∨ k = 6 ∨ k = 7 ∨ k = 8 ∨ k = 9 by omega) with rfl | rfl | rfl | rfl | rfl | rfl | rfl | rfl | rfl <;> omega
  have p4 : -3600 ≤ k * dy ∧ k * dy ≤ 3600 := by
    rcases (show k = 1 ∨ k = 2 ∨ k = 3 ∨ k = 4 ∨ k = 5 ∨ k = 6 ∨ k = 7 ∨ k = 8 ∨ k = 9 by omega) with rfl | rfl | rfl | rfl | rfl | rfl | rfl | rfl | rfl <;> omega
  clear m1 m2 m3 m4 m5 hc hd
  go_enter Try.func4, Try.ntmps4
  go_wp2_with fail
  refine (class_at HC.out _).mono ?_
  rintro e w' ⟨rfl, rfl⟩
  go_wp2_with fail
  refine (class_at M1.out _).mono ?_
  rintro e w' ⟨rfl, rfl⟩
  go_wp2_with fail
  refine (mirror_at HD.out hwc _).mono ?_
  rintro e w' ⟨rfl, rfl⟩
  go_wp2_with fail
  refine (class_at M2.out _).mono ?_
  rintro e w' ⟨rfl, rfl⟩
  go_wp2_with fail
  refine (class_at M3.out _).mono ?_
  rintro e w' ⟨rfl, rfl⟩
  go_wp2_with fail
  refine (class_at M4.out _).mono ?_
  rintro e w' ⟨rfl, rfl⟩
  go_wp2_with fail
  refine (mirror_at HD.out hwc _).mono ?_
  rintro e w' ⟨rfl, rfl⟩
  go_wp2_with fail
  refine (mirror_at M5.out hwd _).mono ?_
  rintro e w' ⟨rfl, rfl⟩
  go_wp2_with fail
  refine (awake_any _).mono ?_
  rintro e w' ⟨rfl, hM⟩
  have HM := Lib.hid hM
  clear hM
  go_wp2_with fail
  go_ret
  exact ⟨rfl, HM.out⟩

set_option maxHeartbeats 8000000 in
theorem back_walk (w : World) (ax ay bx dy : Int) :
    Calls Try.prog 5 #[.int .i64 ax, .int .i64 ay, .int .i64 bx, .int .i64 dy] w fun e w' => e = .returned (.bool true) ∧ Mod (fun _ => False) w w' := by
  rcases Int.lt_or_le ax (-4095) with g0 | g0
  · go_enter Try.func5, Try.ntmps5
    go_wp2_with fail
    refine (awake_any _).mono ?_
    rintro e w' ⟨rfl, hM⟩
    have HM := Lib.hid hM
    clear hM
    go_wp2_with fail
    go_ret
    exact ⟨rfl, HM.out⟩
  rcases Int.lt_or_le 4095 ax with g1 | g1
  · go_enter Try.func5, Try.ntmps5
    go_wp2_with fail
    refine (awake_any _).mono ?_
    rintro e w' ⟨rfl, hM⟩
    have HM := Lib.hid hM
    clear hM
    go_wp2_with fail
    go_ret
    exact ⟨rfl, HM.out⟩
  rcases Int.lt_or_le ay (-4095) with g2 | g2
  · go_enter Try.func5, Try.ntmps5
    go_wp2_with fail
    refine (awake_any _).mono ?_
    rintro e w' ⟨rfl, hM⟩
    have HM := Lib.hid hM
    clear hM
    go_wp2_with fail
    go_ret
    exact ⟨rfl, HM.out⟩
  rcases Int.lt_or_le 4095 ay with g3 | g3
  · go_enter Try.func5, Try.ntmps5
    go_wp2_with fail
    refine (awake_any _).mono ?_
    rintro e w' ⟨rfl, hM⟩
    have HM := Lib.hid hM
    clear hM
    go_wp2_with fail
    go_ret
    exact ⟨rfl, HM.out⟩
  rcases Int.lt_or_le bx (-4095) with g4 | g4
  · go_enter Try.func5, Try.ntmps5
    go_wp2_with fail
    refine (awake_any _).mono ?_
    rintro e w' ⟨rfl, hM⟩
    have HM := Lib.hid hM
    clear hM
    go_wp2_with fail
    go_ret
    exact ⟨rfl, HM.out⟩
  rcases Int.lt_or_le 4095 bx with g5 | g5
  · go_enter Try.func5, Try.ntmps5
    go_wp2_with fail
    refine (awake_any _).mono ?_
    rintro e w' ⟨rfl, hM⟩
    have HM := Lib.hid hM
    clear hM
    go_wp2_with fail
    go_ret
    exact ⟨rfl, HM.out⟩
  rcases Int.lt_or_le dy (-4095) with g6 | g6
  · go_enter Try.func5, Try.ntmps5
    go_wp2_with fail
    refine (awake_any _).mono ?_
    rintro e w' ⟨rfl, hM⟩
    have HM := Lib.hid hM
    clear hM
    go_wp2_with fail
    go_ret
    exact ⟨rfl, HM.out⟩
  rcases Int.lt_or_le 4095 dy with g7 | g7
  · go_enter Try.func5, Try.ntmps5
    go_wp2_with fail
    refine (awake_any _).mono ?_
    rintro e w' ⟨rfl, hM⟩
    have HM := Lib.hid hM
    clear hM
    go_wp2_with fail
    go_ret
    exact ⟨rfl, HM.out⟩
  have b1 : -4095 ≤ ax ∧ ax ≤ 4095 := ⟨g0, g1⟩
  have b2 : -4095 ≤ ay ∧ ay ≤ 4095 := ⟨g2, g3⟩
  have b3 : -4095 ≤ bx ∧ bx ≤ 4095 := ⟨g4, g5⟩
  have b4 : -4095 ≤ dy ∧ dy ≤ 4095 := ⟨g6, g7⟩
  clear g0 g1 g2 g3 g4 g5 g6 g7
  by_cases h0 : ax = 0 ∧ ay = 0
  · obtain ⟨rfl, rfl⟩ := h0
    have hc : clsC 0 0 bx dy = 0 := by unfold clsC; rw [if_neg]; rintro ⟨h, _⟩; exact absurd h (by decide)
    have HC := Lib.hid hc
    clear hc
    go_enter Try.func5, Try.ntmps5
    go_wp2_with fail
    refine (class_at HC.out _).mono ?_
    rintro e w' ⟨rfl, rfl⟩
    go_wp2_with fail
    refine (awake_any _).mono ?_
    rintro e w' ⟨rfl, hM⟩
    have HM := Lib.hid hM
    clear hM
    go_wp2_with fail
    go_ret
    exact ⟨rfl, HM.out⟩
  · obtain ⟨m1, m2, m3⟩ := bend_back ax ay bx dy b1 b2 (by omega)
    have hwc := clsC_wf ax ay bx dy
    obtain ⟨c, hc⟩ : ∃ c, clsC ax ay bx dy = c := ⟨_, rfl⟩
    rw [hc] at m1 hwc
    have hr := mirC_range (c := c) (by rw [← hc]; exact clsC_range _ _ _ _)
    obtain ⟨d, hd⟩ : ∃ d, mirC c = d := ⟨_, rfl⟩
    rw [hd] at m1 hr
    have M1 := Lib.hid m1
    have M2 := Lib.hid m2
    have M3 := Lib.hid m3
    have HC := Lib.hid hc
    have HD := Lib.hid hd
    clear m1 m2 m3 hc hd
    by_cases e1 : ax = 0
    · subst e1
      have e2 : (ay == 0) = false := by rw [beq_eq_false_iff_ne]; omega
      have HZ := Lib.hid h0
      clear h0
      go_enter Try.func5, Try.ntmps5
      go_wp2_with fail
      refine (class_at HC.out _).mono ?_
      rintro e w' ⟨rfl, rfl⟩
      go_wp2_with fail
      refine (class_at M1.out _).mono ?_
      rintro e w' ⟨rfl, rfl⟩
      go_wp2_with fail
      refine (mirror_at HD.out hwc _).mono ?_
      rintro e w' ⟨rfl, rfl⟩
      go_wp2_with fail
      refine (class_at M2.out _).mono ?_
      rintro e w' ⟨rfl, rfl⟩
      go_wp2_with fail
      refine (class_at M3.out _).mono ?_
      rintro e w' ⟨rfl, rfl⟩
      go_wp2_with fail
      refine (awake_any _).mono ?_
      rintro e w' ⟨rfl, hM⟩
      have HM := Lib.hid hM
      clear hM
      go_wp2_with fail
      go_ret
      exact ⟨rfl, HM.out⟩
    · have e2 : (ax == 0) = false := by rw [beq_eq_false_iff_ne]; omega
      have HZ := Lib.hid h0
      clear h0
      go_enter Try.func5, Try.ntmps5
      go_wp2_with fail
      refine (class_at HC.out _).mono ?_
      rintro e w' ⟨rfl, rfl⟩
      go_wp2_with fail
      refine (class_at M1.out _).mono ?_
      rintro e w' ⟨rfl, rfl⟩
      go_wp2_with fail
      refine (mirror_at HD.out hwc _).mono ?_
      rintro e w' ⟨rfl, rfl⟩
      go_wp2_with fail
      refine (class_at M2.out _).mono ?_
      rintro e w' ⟨rfl, rfl⟩
      go_wp2_with fail
      refine (class_at M3.out _).mono ?_
      rintro e w' ⟨rfl, rfl⟩
      go_wp2_with fail
      refine (awake_any _).mono ?_
      rintro e w' ⟨rfl, hM⟩
      have HM := Lib.hid hM
      clear hM
      go_wp2_with fail
      go_ret
      exact ⟨rfl, HM.out⟩
theorem mirrors_all (w : World) (ax : Int) (_ : (Lit.int .i64 ax).wf = true) (ay : Int) (_ : (Lit.int .i64 ay).wf = true) (bx : Int) (_ : (Lit.int .i64 bx).wf = true) (dy : Int) (_ : (Lit.int .i64 dy).wf = true) (k : Int) (_ : (Lit.int .i64 k).wf = true) :
    Calls Try.prog 4 #[.int .i64 ax, .int .i64 ay, .int .i64 bx, .int .i64 dy, .int .i64 k] w fun e w' => e = .returned (.bool true) ∧ Below w.heap.size w w' :=
  (mirrors_walk w ax ay bx dy k).mono fun e w' h => ⟨h.1, h.2.below (Nat.le_refl _) (fun _ e => e.elim)⟩
theorem back9_all (w : World) (ax : Int) (_ : (Lit.int .i64 ax).wf = true) (ay : Int) (_ : (Lit.int .i64 ay).wf = true) (bx : Int) (_ : (Lit.int .i64 bx).wf = true) (dy : Int) (_ : (Lit.int .i64 dy).wf = true) :
    Calls Try.prog 5 #[.int .i64 ax, .int .i64 ay, .int .i64 bx, .int .i64 dy] w fun e w' => e = .returned (.bool true) ∧ Below w.heap.size w w' :=
  (back_walk w ax ay bx dy).mono fun e w' h => ⟨h.1, h.2.below (Nat.le_refl _) (fun _ e => e.elim)⟩
end Go.Proofs.Ytonfiboemlmafaa
