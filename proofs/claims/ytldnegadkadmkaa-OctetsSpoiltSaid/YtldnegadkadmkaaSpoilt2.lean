/- The law OctetsSpoilt at every argument: too long ones are answered by awake alone. -/
import Derived.Test.YtldnegadkadmkaaSpoilt
import Derived.Test.YtldnegadkadmkaaArgs
namespace Go.Proofs.Ytldnegadkadmkaa
open Go.RowKit Mile

theorem spoilt_long (w : World) (size at_ : Int) (a1 : Option Addr) (n1 c1 : Nat) (a2 : Option Addr) (n2 c2 : Nat) (hl : 20 < n1 ∨ 40 < n2) :
    Calls Try.prog 6 #[.int .i64 size, .slice a1 n1 c1, .int .i64 at_, .slice a2 n2 c2] w fun e w' => e = .returned (.bool true) ∧ Mod (fun _ => False) w w' := by
  by_cases h1 : 20 < n1
  · have q1 : (20 : Int) < (n1 : Int) := by omega
    go_enter Try.func6, Try.ntmps6
    go_wp2_with fail
    refine (awake_any _).mono ?_
    rintro e w9 ⟨rfl, hM9⟩
    go_wp2
    go_ret
    exact ⟨rfl, hM9⟩
  · have q1 : (n1 : Int) ≤ 20 := by omega
    have q2 : (40 : Int) < (n2 : Int) := by omega
    clear hl h1
    go_enter Try.func6, Try.ntmps6
    go_wp2_with fail
    refine (awake_any _).mono ?_
    rintro e w9 ⟨rfl, hM9⟩
    go_wp2
    go_ret
    exact ⟨rfl, hM9⟩

theorem spoilt_all (w : World) (a0 : Int) (a1 : Option Addr) (len1 cap1 : Nat) (z1 : List Int) (a2 : Int) (a3 : Option Addr) (len3 cap3 : Nat) (z3 : List Int) (w1 : IsRow .i64 w a1 len1 cap1 z1) (w3 : IsRow .u8 w a3 len3 cap3 z3) :
    Calls Try.prog 6 #[.int .i64 a0, .slice a1 len1 cap1, .int .i64 a2, .slice a3 len3 cap3] w fun e w' => e = .returned (.bool true) ∧ Below w.heap.size w w' := by
  obtain ⟨ns, rfl, hr1, _⟩ := w1.reads
  obtain ⟨ms, rfl, hr3, hb⟩ := w3.reads
  have fin : ∀ (e : Ending) w', (e = .returned (.bool true) ∧ Mod (fun _ => False) w w') → e = .returned (.bool true) ∧ Below w.heap.size w w' :=
    fun e w' h => ⟨h.1, h.2.below (Nat.le_refl _) (fun _ e => e.elim)⟩
  by_cases hl : 20 < ns.length ∨ 40 < ms.length
  · exact (spoilt_long w a0 a2 a1 _ cap1 a3 _ cap3 hl).mono fin
  · exact (spoilt_walk w a0 a2 a1 cap1 ns a3 cap3 ms hr1 hr3 (u8_range hb) (by omega) (by omega)).mono fin

end Go.Proofs.Ytldnegadkadmkaa
