/- The document's own Unpack, by contract. -/
import Derived.Test.YtjjedebjbgpimaaGreatUnP
import Derived.Test.YtjjedebjbgpimaaGreatLvR3
import Derived.OwnWalk
namespace Go.Proofs.YtjjedebjbgpimaaGreat
open Go.RowKit Mile
set_option maxRecDepth 100000
theorem find_case17 {L : List Ar} (hs : SortN L) (f t : Int) : (∃ b, findN L f t = some b ∧ isN L ⟨f, t, 0, 0⟩ = true ∧ posN L ⟨f, t, 0, 0⟩ < L.length ∧ L[posN L ⟨f, t, 0, 0⟩]? = some b) ∨ (findN L f t = none ∧ isN L ⟨f, t, 0, 0⟩ = false) := by
  by_cases he : eqN L ⟨f, t, 0, 0⟩ = []
  · right
    refine ⟨findN_none fun b hb e => ?_, decide_eq_false (fun h => h he)⟩
    have := List.filter_eq_nil_iff.1 he b hb
    simp at this
    exact this e.1 e.2
  · left
    obtain ⟨b, h1, h2, h3, _⟩ := eqN_one hs he
    have hb : b ∈ eqN L ⟨f, t, 0, 0⟩ := by rw [h1]; exact List.mem_singleton.2 rfl
    unfold eqN at hb
    rw [List.mem_filter] at hb
    have e := of_decide_eq_true hb.2
    simp only at e
    refine ⟨b, ?_, decide_eq_true he, h2, h3⟩
    rw [← e.1, ← e.2]
    exact findN_some hs hb.1
end Go.Proofs.YtjjedebjbgpimaaGreat
