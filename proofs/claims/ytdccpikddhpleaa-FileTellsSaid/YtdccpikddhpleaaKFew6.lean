/- Contract of package graph's rows: one row told. -/
import Derived.Test.YtdccpikddhpleaaGr6
import Derived.StillTailTactics
import Derived.Test.YtdccpikddhpleaaGr8
import Derived.Deep.QuietTactic
import Derived.BigQuiet
namespace Go.Proofs.Ytdccpikddhpleaa
open Go.RowKit Mile
set_option maxRecDepth 100000

end Go.Proofs.Ytdccpikddhpleaa
namespace Go.Proofs.Ytdccpikddhpleaa
open Go.RowKit Mile
set_option maxRecDepth 100000

end Go.Proofs.Ytdccpikddhpleaa
namespace Go.Proofs.Ytdccpikddhpleaa
open Go.RowKit Mile
set_option maxRecDepth 100000

theorem few_any (w : World) (a1 : Option Addr) (n1 u1 : Nat) (a2 : Option Addr) (n2 u2 : Nat) (a3 : Option Addr) (n3 u3 : Nat) :
    Calls Try.prog 6 #[.agg #[.slice a1 n1 u1, .slice a2 n2 u2, .slice a3 n3 u3]] w fun e w' => e = .returned (.bool (decide (n1 ≤ 20 ∧ n2 ≤ 50 ∧ n3 ≤ 80))) ∧ Mod (fun _ => False) w w' := by
  by_cases h1 : n1 ≤ 20
  · by_cases h2 : n2 ≤ 50
    · by_cases h3 : n3 ≤ 80
      · have d3 : decide ((n3 : Int) ≤ 80) = true := by simp; omega
        rw [decide_eq_true (show n1 ≤ 20 ∧ n2 ≤ 50 ∧ n3 ≤ 80 by omega)]
        go_enter Try.func6, Try.ntmps6
        go_wp2
        go_ret
        exact ⟨rfl, Mod.alloc _ _ _⟩
      · have d3 : decide ((n3 : Int) ≤ 80) = false := by simp; omega
        rw [decide_eq_false (show ¬ (n1 ≤ 20 ∧ n2 ≤ 50 ∧ n3 ≤ 80) by omega)]
        go_enter Try.func6, Try.ntmps6
        go_wp2
        go_ret
        exact ⟨rfl, Mod.alloc _ _ _⟩
    · rw [decide_eq_false (show ¬ (n1 ≤ 20 ∧ n2 ≤ 50 ∧ n3 ≤ 80) by omega)]
      go_enter Try.func6, Try.ntmps6
      go_wp2
      go_ret
      exact ⟨rfl, Mod.alloc _ _ _⟩
  · rw [decide_eq_false (show ¬ (n1 ≤ 20 ∧ n2 ≤ 50 ∧ n3 ≤ 80) by omega)]
    go_enter Try.func6, Try.ntmps6
    go_wp2
    go_ret
    exact ⟨rfl, Mod.alloc _ _ _⟩
end Go.Proofs.Ytdccpikddhpleaa
