/- Lists for law NetCuts: all cuts at once. -/
import Derived.Test.YtnklgeekjkchbaaSame13
namespace Mile
open Go Go.RowKit
def cutAll (L : List Ar) (V : List Int) : List Ar := V.foldl cutN L
def keptB (V : List Int) (b : Ar) : Bool := decide (b.f ∉ V) && decide (b.t ∉ V)
theorem cutAll_eq (V : List Int) : ∀ L : List Ar, cutAll L V = L.filter (keptB V) := by
  induction V with
  | nil => intro L; unfold cutAll; symm; exact List.filter_eq_self.2 fun b _ => by simp [keptB]
  | cons v V ih =>
    intro L
    show cutAll (cutN L v) V = _
    rw [ih]
    unfold cutN
    rw [List.filter_filter]
    refine congrArg (fun p => List.filter p L) (funext fun b => ?_)
    unfold keptB
    by_cases h1 : b.f = v <;> by_cases h2 : b.t = v <;> by_cases h3 : b.f ∈ V <;> by_cases h4 : b.t ∈ V <;> simp [h1, h2, h3, h4] <;> simp_all
theorem cutAll_step (L : List Ar) (V : List Int) (k : Nat) (h : k < V.length) : cutAll L (V.take (k + 1)) = cutN (cutAll L (V.take k)) V[k] := by
  unfold cutAll; rw [List.take_succ_eq_append_getElem h, List.foldl_append]; rfl
theorem cutN_out (L : List Ar) (v : Int) : outL (cutN L v) v = [] := by rw [outL_cut, if_pos rfl]
theorem cutN_in (L : List Ar) (v : Int) : inL (cutN L v) v = [] := List.filter_eq_nil_iff.2 fun b hb => by
  have := (mem_cutN.1 hb).2.2; simpa using this
end Mile
