/- Strolls, as plain lists. -/
import Derived.Test.YtgiojfihgdifbaaWalkP
namespace Go.Proofs.Ytgiojfihgdifbaa
open Go.RowKit Mile
/-- The edge that a number picks behind e. -/
def pickS (G : GD) (e x : Int) : Int := (nxtR G e).getD (x % ((nxtR G e).length : Int)).toNat 0
def strollL (G : GD) : Int → List Int → List Int
  | _, [] => []
  | e, x :: l => if (nxtR G e).length = 0 then [] else pickS G e x :: strollL G (pickS G e x) l
theorem stroll_len (G : GD) : ∀ (e : Int) (l : List Int), (strollL G e l).length ≤ l.length
  | _, [] => by simp [strollL]
  | e, x :: l => by
    have := stroll_len G (pickS G e x) l
    simp only [strollL]; split <;> simp <;> omega
theorem lastD_cons (f x : Int) (a : List Int) : lastD f (x :: a) = lastD x a := by
  have := lastD_append f [x] a
  rwa [show lastD f [x] = x from lastD_snoc f [] x] at this
/-- On by one, where it has not stopped. -/
theorem stroll_snoc (G : GD) : ∀ (e : Int) (l : List Int) (x : Int), (strollL G e l).length = l.length → (nxtR G (lastD e (strollL G e l))).length ≠ 0 →
    strollL G e (l ++ [x]) = strollL G e l ++ [pickS G (lastD e (strollL G e l)) x]
  | e, [], x, _, h => by simp only [strollL, lastD, List.getLast?_nil, Option.getD_none] at h ⊢; simp [strollL, h]
  | e, y :: l, x, hl, h => by
    by_cases h0 : (nxtR G e).length = 0
    · simp [strollL, h0] at hl
    · simp only [strollL, if_neg h0, List.length_cons, lastD_cons] at hl h
      simp only [List.cons_append, strollL, if_neg h0, lastD_cons]
      rw [stroll_snoc G _ l x (by omega) h]
/-- Where it has stopped it stays. -/
theorem stroll_stop (G : GD) : ∀ (e : Int) (l m : List Int), (strollL G e l).length = l.length → (nxtR G (lastD e (strollL G e l))).length = 0 → strollL G e (l ++ m) = strollL G e l
  | e, [], [], _, _ => rfl
  | e, [], x :: m, _, h => by simp only [strollL, lastD, List.getLast?_nil, Option.getD_none] at h; simp [strollL, h]
  | e, y :: l, m, hl, h => by
    by_cases h0 : (nxtR G e).length = 0
    · simp [strollL, h0]
    · simp only [strollL, if_neg h0, List.length_cons, lastD_cons] at hl h
      simp only [List.cons_append, strollL, if_neg h0]
      rw [stroll_stop G _ l m (by omega) h]
theorem pick_mem (G : GD) (e x : Int) (h : (nxtR G e).length ≠ 0) : ∃ (r : Nat) (hr : r < (nxtR G e).length), x % ((nxtR G e).length : Int) = (r : Int) ∧ (nxtR G e)[r] = pickS G e x := by
  have h1 := Int.emod_nonneg x (b := ((nxtR G e).length : Int)) (by omega)
  have h2 := Int.emod_lt_of_pos x (b := ((nxtR G e).length : Int)) (by omega)
  obtain ⟨r, hr⟩ := Int.eq_ofNat_of_zero_le h1
  have hl : r < (nxtR G e).length := by omega
  refine ⟨r, hl, hr, ?_⟩
  unfold pickS
  rw [hr]
  simp [List.getD, hl]
theorem nxt_turn (G : GD) (e x : Int) (h : x ∈ nxtR G e) : turnB G e x = true := by
  unfold nxtR at h
  obtain ⟨k, hk, rfl⟩ := List.mem_map.1 h
  exact (List.mem_filter.1 hk).2
theorem pick_turn (G : GD) (e x : Int) (h : (nxtR G e).length ≠ 0) : turnB G e (pickS G e x) = true := by
  obtain ⟨r, hr, _, he⟩ := pick_mem G e x h
  exact nxt_turn G e _ (by rw [← he]; exact List.getElem_mem hr)
theorem stroll_wlk (G : GD) : ∀ (e : Int) (l : List Int), wlk G e (strollL G e l) = true
  | _, [] => rfl
  | e, x :: l => by
    simp only [strollL]
    by_cases h0 : (nxtR G e).length = 0
    · simp [h0, wlk]
    · simp only [if_neg h0, wlk, Bool.and_eq_true]
      exact ⟨pick_turn G e x h0, stroll_wlk G _ l⟩
theorem wlk_all (G : GD) : ∀ (e : Int) (l : List Int), wlk G e l = true → allE G l = true
  | _, [], _ => rfl
  | e, x :: l, h => by
    simp only [wlk, Bool.and_eq_true] at h
    have : allE G (x :: l) = (edB G x && allE G l) := by simp [allE]
    rw [this, turn_ed2 G _ _ h.1, wlk_all G x l h.2]; rfl
end Go.Proofs.Ytgiojfihgdifbaa
