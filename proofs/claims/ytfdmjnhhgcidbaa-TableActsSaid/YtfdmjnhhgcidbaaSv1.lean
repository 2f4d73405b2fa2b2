/- The reference's server: how it is made; its Channel. -/
import Derived.Test.YtfdmjnhhgcidbaaSv2
import Derived.Test.YtfdmjnhhgcidbaaRSdP
import Derived.StillTailTactics
namespace Go.Proofs.Ytfdmjnhhgcidbaa
open Go.RowKit Mile
set_option maxRecDepth 100000
theorem r1within_is (w : World) (n a b : Int) (r : Bool) (h : (decide (a ≤ n) && decide (n ≤ b)) = r) : Calls Try.prog 88 #[.int .i64 n, .int .i64 a, .int .i64 b] w fun e w' => e = .returned (.bool r) ∧ w = w' := by
  by_cases h1 : a ≤ n
  · have z0 : decide (a ≤ n) = true := by simpa using h1
    rw [z0, Bool.true_and] at h
    clear h1
    go_enter Try.func88, Try.ntmps88
    go_wp2_with fail
    go_ret
    exact ⟨rfl, rfl⟩
  · have z0 : decide (a ≤ n) = false := by simpa using h1
    rw [z0, Bool.false_and] at h
    subst h
    clear h1
    go_enter Try.func88, Try.ntmps88
    go_wp2_with fail
    go_ret
    exact ⟨rfl, rfl⟩
theorem r4within_yes (w : World) (n a b : Int) (h : (decide (a ≤ n) && decide (n ≤ b)) = true) : Calls Try.prog 89 #[.int .i64 n, .int .i64 a, .int .i64 b] w fun e w' => e = .returned (.bool true) ∧ w = w' := by
  have z0 : decide (a ≤ n) = true := by simp at h; simpa using h.1
  have z1 : decide (n ≤ b) = true := by simp at h; simpa using h.2
  clear h
  go_enter Try.func89, Try.ntmps89
  go_wp2_with fail
  go_ret
  exact ⟨rfl, rfl⟩
theorem ccheck_ok (w : World) (M : Nat) (h1 : 1 ≤ M) (h2 : M ≤ 16) : Calls Try.prog 13 #[.agg #[.int .i64 (M : Int), .int .i64 1, .int .i64 0, .int .i64 1, .int .i64 1, .int .i64 1]] w fun e w' => e = .returned (.int .i64 0) ∧ Mod (fun _ => False) w w' := by
  go_enter Try.func13, Try.ntmps13
  go_wp2_with fail
  refine (rwithin_is _ (M : Int) 1 16 true (by simp; omega)).mono ?_
  rintro e w' ⟨rfl, rfl⟩
  go_wp2_with fail
  refine (rwithin_is _ 1 1 16 true (by decide)).mono ?_
  rintro e w' ⟨rfl, rfl⟩
  go_wp2_with fail
  refine (rwithin_is _ 0 0 20 true (by decide)).mono ?_
  rintro e w' ⟨rfl, rfl⟩
  go_wp2_with fail
  refine (rwithin_is _ 1 1 1000 true (by decide)).mono ?_
  rintro e w' ⟨rfl, rfl⟩
  go_wp2_with fail
  refine (rwithin_is _ 1 1 1000 true (by decide)).mono ?_
  rintro e w' ⟨rfl, rfl⟩
  go_wp2_with fail
  refine (rwithin_is _ 1 1 1000 true (by decide)).mono ?_
  rintro e w' ⟨rfl, rfl⟩
  go_wp2_with fail
  go_ret
  exact ⟨rfl, Mod.alloc _ _ _⟩
theorem rtk_any (w : World) : Calls Try.prog 55 #[.int .i64 1] w fun e w' => ∃ k, e = .returned (.pointer (some ⟨k, 0, none⟩)) ∧ Mod (fun _ => False) w w' := by
  go_enter Try.func55, Try.ntmps55
  go_wp2_with fail
  refine (rwithin_is _ 1 1 16 true (by decide)).mono ?_
  rintro e w' ⟨rfl, rfl⟩
  go_wp2_with fail
  go_ret
  exact ⟨w.heap.size, rfl, Mod.alloc _ _ _⟩
end Go.Proofs.Ytfdmjnhhgcidbaa
