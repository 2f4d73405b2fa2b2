/- Contract of milepostalike.Round. -/
import Derived.Test.YtbjdjafkpldbnaaRows
import Derived.Test.YtbjdjafkpldbnaaBase2
namespace Go.Proofs.Ytbjdjafkpldbnaa
open Go.RowKit Mile
set_option maxRecDepth 100000

theorem round_any (k n : Int) (w : World) (h1 : 0 < n) (h2 : n ≤ 4611686018427387904) : Calls Try.prog 10 #[.int .i64 k, .int .i64 n] w fun e w' => e = .returned (.int .i64 (k % n)) ∧ w = w' := by
  have t1 : -n < k.tmod n := by have := Int.tmod_lt_of_pos (-k) h1; rw [Int.neg_tmod] at this; omega
  have t2 : k.tmod n < n := Int.tmod_lt_of_pos k h1
  have t3 : k % n = if k.tmod n < 0 then k.tmod n + n else k.tmod n := by
    rw [Int.tmod_eq_emod]
    have e1 := Int.emod_nonneg k (show n ≠ 0 by omega)
    have e2 := Int.emod_lt_of_pos k h1
    split <;> split <;> first | omega | (rw [Int.natAbs_of_nonneg (by omega)] at *; omega)
  have hn0 : (n == 0) = false := by simp; omega
  by_cases hz : k.tmod n < 0
  · rw [if_pos hz] at t3
    have T3 := Lib.hid t3
    clear t3
    go_enter Try.func10, Try.ntmps10
    go_wp2
    go_ret
    exact ⟨by rw [T3.out]; rfl, rfl⟩
  · rw [if_neg hz] at t3
    have T3 := Lib.hid t3
    clear t3
    go_enter Try.func10, Try.ntmps10
    go_wp2
    go_ret
    exact ⟨by rw [T3.out]; rfl, rfl⟩

end Go.Proofs.Ytbjdjafkpldbnaa
