/- milepostref4's Node by contract. -/
import Derived.Test.YtbjdjafkpldbnaaR4
namespace Go.Proofs.Ytbjdjafkpldbnaa
open Go.RowKit Mile
set_option maxRecDepth 100000
theorem r4node_any (G : GD) (w : World) (a1 : Option Addr) (n1 u1 : Nat) (a2 : Option Addr) (n2 u2 : Nat) (a3 : Option Addr) (n3 u3 : Nat) (h : GV w a1 n1 u1 a2 n2 u2 a3 n3 u3 G) (q : n1 ≤ 100000) (v : Int) :
    Calls Try.prog 29 #[.agg #[.slice a1 n1 u1, .slice a2 n2 u2, .slice a3 n3 u3], .int .i64 v] w fun e w' => e = .returned (.bool (decide (0 ≤ v ∧ v < G.N.length))) ∧ Mod (fun _ => False) w w' := by
  have hd : decide (0 ≤ v ∧ v < (G.N.length : Int)) = decide (0 ≤ v ∧ v ≤ (n1 : Int) - 1) := by rw [h.n]; exact decide_eq_decide.2 (by omega)
  rw [hd]
  clear hd
  obtain ⟨r, hr⟩ : ∃ r, decide (0 ≤ v ∧ v ≤ (n1 : Int) - 1) = r := ⟨_, rfl⟩
  have HR := Lib.hid hr
  rw [hr]
  clear hr
  go_enter Try.func29, Try.ntmps29
  go_wp2_with (go_at_call 34; refine (r4within_any _ _ _ _).mono ?_; rintro e w' ⟨rfl, rfl⟩; rw [HR.out])
  go_ret
  exact ⟨rfl, Mod.alloc _ _ _⟩


end Go.Proofs.Ytbjdjafkpldbnaa
