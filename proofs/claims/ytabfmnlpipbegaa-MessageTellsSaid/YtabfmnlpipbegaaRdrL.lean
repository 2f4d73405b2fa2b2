/- How many bytes a Reader has left, by contract. -/
import Derived.Test.YtabfmnlpipbegaaRdr2
namespace Go.Proofs.Ytabfmnlpipbegaa
open Go.RowKit Mile
set_option maxRecDepth 100000

theorem left_any (p : Nat) (w : World) (s : Option (List Int)) (F : Nat → Prop) (h : Rdr w p s F) :
    Calls Try.prog 53 #[.pointer (some ⟨p, 0, none⟩)] w fun e w' => e = .returned (.int .i64 (s.getD []).length) ∧ w = w' := by
  obtain ⟨v, h1, h2, _⟩ := h
  obtain ⟨_, a, c, rfl, _⟩ := h2
  have f0 := h1.cell 0 rfl
  go_enter Try.func53, Try.ntmps53
  go_wp2
  go_ret
  exact ⟨rfl, rfl⟩
end Go.Proofs.Ytabfmnlpipbegaa
