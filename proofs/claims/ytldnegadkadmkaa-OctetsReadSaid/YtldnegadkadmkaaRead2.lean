/- The law OctetsRead at every argument: too long ones are answered by awake alone. -/
import Derived.Test.YtldnegadkadmkaaRead
import Derived.Test.YtldnegadkadmkaaOpen
namespace Go.Proofs.Ytldnegadkadmkaa
open Go.RowKit Mile

theorem opens_bytes : Opens Try.prog 26 (encSlice (encInt .u8)) := opens_slice Try.underlying26 (by kernel_rfl) (opens_int Try.underlying5) (by decide)
theorem opens_pairs : Opens Try.prog 42 (encSlice (encPair (encInt .i64) (encInt .i64))) :=
  opens_slice Try.underlying42 (by kernel_rfl) (opens_array2 Try.underlying47 (by kernel_rfl) (by kernel_rfl) (opens_int Try.underlying3)) (by decide)

theorem read_long (w : World) (a1 : Option Addr) (n1 c1 : Nat) (a2 : Option Addr) (n2 c2 : Nat) (hl : 200 < n1 ∨ 30 < n2) :
    Calls Try.prog 4 #[.slice a1 n1 c1, .slice a2 n2 c2] w fun e w' => e = .returned (.bool true) ∧ Mod (fun _ => False) w w' := by
  by_cases h1 : 200 < n1
  · have q1 : (200 : Int) < (n1 : Int) := by omega
    go_enter Try.func4, Try.ntmps4
    go_wp2_with fail
    refine (awake_any _).mono ?_
    rintro e w9 ⟨rfl, hM9⟩
    go_wp2
    go_ret
    exact ⟨rfl, hM9⟩
  · have q1 : (n1 : Int) ≤ 200 := by omega
    have q2 : (30 : Int) < (n2 : Int) := by omega
    clear hl h1
    go_enter Try.func4, Try.ntmps4
    go_wp2_with fail
    refine (awake_any _).mono ?_
    rintro e w9 ⟨rfl, hM9⟩
    go_wp2
    go_ret
    exact ⟨rfl, hM9⟩

theorem Rd.len_eq {w : World} {size n m c : Nat} {a : Option Addr} {xs : List Value} (h : Rd w size (.slice a n c) m xs) : n = m := by
  obtain ⟨_, a', c', he, _⟩ := h
  cases he; rfl

theorem read_all (w : World) (a1 : Option Addr) (n1 c1 : Nat) (xs1 : List Int) (ok1 : (encSlice (encInt .u8)).ok w (.slice a1 n1 c1, xs1))
    (a2 : Option Addr) (n2 c2 : Nat) (xs2 : List (Int × Int)) (ok2 : (encSlice (encPair (encInt .i64) (encInt .i64))).ok w (.slice a2 n2 c2, xs2)) :
    Calls Try.prog 4 #[.slice a1 n1 c1, .slice a2 n2 c2] w fun e w' => e = .returned (.bool true) ∧ Below w.heap.size w w' := by
  obtain ⟨hr1, hw1⟩ := ok1
  obtain ⟨hr2, _⟩ := ok2
  have e1 : xs1.flatMap (encInt .u8).img = xs1.map (Value.int .u8) := by
    clear hr1 hw1
    induction xs1 with
    | nil => rfl
    | cons x r ih => rw [List.flatMap_cons, ih]; rfl
  have hr1' : Rd w 1 (.slice a1 n1 c1) xs1.length (xs1.map (Value.int .u8)) := by rw [← e1]; exact hr1
  have hr2' : Rd w 2 (.slice a2 n2 c2) xs2.length (xs2.flatMap (fun x => [.int .i64 x.1, .int .i64 x.2])) := hr2
  have l1 : n1 = xs1.length := Rd.len_eq hr1'
  have l2 : n2 = xs2.length := Rd.len_eq hr2'
  have fin : ∀ (e : Ending) w', (e = .returned (.bool true) ∧ Mod (fun _ => False) w w') → e = .returned (.bool true) ∧ Below w.heap.size w w' :=
    fun e w' h => ⟨h.1, h.2.below (Nat.le_refl _) (fun _ e => e.elim)⟩
  subst l1
  by_cases hl : 200 < xs1.length ∨ 30 < n2
  · exact (read_long w a1 _ c1 a2 n2 c2 hl).mono fin
  · refine (read_walk w a1 c1 xs1 a2 n2 c2 xs2 hr1' (u8_range hw1) l2 ?_ (by omega) (by omega)).mono fin
    rw [l2] at hr2' ⊢
    exact hr2'

end Go.Proofs.Ytldnegadkadmkaa
