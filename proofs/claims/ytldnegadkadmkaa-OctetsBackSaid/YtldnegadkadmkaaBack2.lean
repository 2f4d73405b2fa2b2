/- The law OctetsBack at every argument: too long ones are answered by awake alone. -/
import Derived.Test.YtldnegadkadmkaaBack
import Derived.Test.YtldnegadkadmkaaArgs
namespace Go.Proofs.Ytldnegadkadmkaa
open Go.RowKit Mile

theorem back_long (w : World) (size : Int) (a1 : Option Addr) (n1 c1 : Nat) (a2 : Option Addr) (n2 c2 : Nat) (hl : 40 < n1 ∨ 60 < n2) :
    Calls Try.prog 5 #[.int .i64 size, .slice a1 n1 c1, .slice a2 n2 c2] w fun e w' => e = .returned (.bool true) ∧ Mod (fun _ => False) w w' := by
  by_cases h1 : 40 < n1
  · have q1 : (40 : Int) < (n1 : Int) := by omega
    go_enter Try.func5, Try.ntmps5
    go_wp2_with fail
    refine (awake_any _).mono ?_
    rintro e w9 ⟨rfl, hM9⟩
    go_wp2
    go_ret
    exact ⟨rfl, hM9⟩
  · have q1 : (n1 : Int) ≤ 40 := by omega
    have q2 : (60 : Int) < (n2 : Int) := by omega
    clear hl h1
    go_enter Try.func5, Try.ntmps5
    go_wp2_with fail
    refine (awake_any _).mono ?_
    rintro e w9 ⟨rfl, hM9⟩
    go_wp2
    go_ret
    exact ⟨rfl, hM9⟩

theorem back_all (w : World) (a0 : Int) (a1 : Option Addr) (len1 cap1 : Nat) (z1 : List Int) (a3 : Option Addr) (len3 cap3 : Nat) (z3 : List Int) (w1 : IsRow .i64 w a1 len1 cap1 z1) (w3 : IsRow .u8 w a3 len3 cap3 z3) :
    Calls Try.prog 5 #[.int .i64 a0, .slice a1 len1 cap1, .slice a3 len3 cap3] w fun e w' => e = .returned (.bool true) ∧ Below w.heap.size w w' := by
  obtain ⟨ns, rfl, hr1, _⟩ := w1.reads
  obtain ⟨ms, rfl, hr3, hb⟩ := w3.reads
  have fin : ∀ (e : Ending) w', (e = .returned (.bool true) ∧ Mod (fun _ => False) w w') → e = .returned (.bool true) ∧ Below w.heap.size w w' :=
    fun e w' h => ⟨h.1, h.2.below (Nat.le_refl _) (fun _ e => e.elim)⟩
  by_cases hl : 40 < ns.length ∨ 60 < ms.length
  · exact (back_long w a0 a1 _ cap1 a3 _ cap3 hl).mono fin
  · exact (back_walk w a0 a1 cap1 ns a3 cap3 ms hr1 hr3 (u8_range hb) (by omega) (by omega)).mono fin

end Go.Proofs.Ytldnegadkadmkaa
