/- Lists for law NetLightest: the weight between two numbers; how many arcs come and go. -/
import Derived.Test.YtnklgeekjkchbaaSame13
import Derived.Test.YtnklgeekjkchbaaPMapI
namespace Mile
open Go Go.RowKit
def wOf (L : List Ar) (x y : Int) : Option Int := (eqN L ⟨x, y, 0, 0⟩).head?.map (·.w)
theorem eqN_at (L : List Ar) (a : Ar) : eqN L a = eqN L ⟨a.f, a.t, 0, 0⟩ := rfl
theorem eqN_le1 {L : List Ar} (h : SortN L) (a : Ar) : (eqN L a).length ≤ 1 := by
  rw [Go.Proofs.Ytnklgeekjkchbaa.eqN_row]; exact eqR_len (outL_rise h a.f) a.t
theorem wOf_put {L : List Ar} (h : SortN L) (a : Ar) : putB L a = (!(wOf L a.f a.t).isSome || decide (a.w < (wOf L a.f a.t).getD 0)) := by
  unfold putB wOf
  rw [eqN_at]
  have h1 := eqN_le1 h ⟨a.f, a.t, 0, 0⟩
  generalize eqN L ⟨a.f, a.t, 0, 0⟩ = E at h1 ⊢
  match E, h1 with
  | [], _ => rfl
  | [b], _ => simp only [List.all_cons, List.all_nil, Bool.and_true, List.head?_cons, Option.map_some, Option.isSome_some, Option.getD_some, Bool.not_true, Bool.false_or]; rfl
theorem filter_newN (L : List Ar) (a : Ar) (x y : Int) (hne : ¬ (x = a.f ∧ y = a.t)) (h : SortN L) : eqN (newN L a) ⟨x, y, 0, 0⟩ = eqN L ⟨x, y, 0, 0⟩ := by
  have h3 : eqN L ⟨x, y, 0, 0⟩ = eqN (ltN L a ++ (eqN L a ++ gtN L a)) ⟨x, y, 0, 0⟩ := congrArg (fun l => eqN l ⟨x, y, 0, 0⟩) (split3 h a)
  rw [h3]
  have hq : eqN (eqN L a) ⟨x, y, 0, 0⟩ = [] := List.filter_eq_nil_iff.2 fun b hb => by
    have h2 := of_decide_eq_true (List.mem_filter.1 hb).2
    simp; intro e e2; exact hne ⟨by rw [← e, h2.1], by rw [← e2, h2.2]⟩
  unfold newN eqN at *
  rw [List.filter_append, List.filter_cons, List.filter_append, List.filter_append, hq, if_neg (by simp; intro e e2; exact hne ⟨e.symm, e2.symm⟩)]
  rfl
theorem eqN_newN (L : List Ar) (a : Ar) (h : SortN L) : eqN (newN L a) ⟨a.f, a.t, 0, 0⟩ = [a] := by
  have hm : a ∈ eqN (newN L a) ⟨a.f, a.t, 0, 0⟩ := by
    unfold eqN; rw [List.mem_filter]; exact ⟨mem_newN.2 (.inl rfl), by simp⟩
  have h1 := eqN_le1 (h.new a) ⟨a.f, a.t, 0, 0⟩
  generalize eqN (newN L a) ⟨a.f, a.t, 0, 0⟩ = E at h1 hm
  match E, h1 with
  | [b], _ => rw [List.mem_singleton] at hm; rw [hm]
theorem wOf_new {L : List Ar} (h : SortN L) (a : Ar) : wOf (newN L a) = fun x y => if x = a.f ∧ y = a.t then some a.w else wOf L x y := by
  funext x y
  by_cases e : x = a.f ∧ y = a.t
  · obtain ⟨rfl, rfl⟩ := e
    rw [if_pos ⟨rfl, rfl⟩]
    unfold wOf
    rw [eqN_newN L a h]; rfl
  · rw [if_neg e]
    unfold wOf
    rw [filter_newN L a x y e h]
theorem len_new {L : List Ar} (h : SortN L) (a : Ar) : (newN L a).length = if (wOf L a.f a.t).isSome then L.length else L.length + 1 := by
  have h3 := congrArg List.length (split3 h a)
  have h1 := eqN_le1 h a
  unfold newN
  rw [List.length_append, List.length_cons]
  rw [List.length_append, List.length_append] at h3
  unfold wOf
  rw [← eqN_at]
  generalize eqN L a = E at h1 h3
  match E, h1 with
  | [], _ => simp at h3 ⊢; omega
  | [b], _ => simp at h3 ⊢; omega
theorem wOf_at {L : List Ar} (h : SortN L) (i : Nat) (hi : i < L.length) : wOf L L[i].f L[i].t = some L[i].w := by
  have hm : L[i] ∈ eqN L ⟨L[i].f, L[i].t, 0, 0⟩ := by
    unfold eqN; rw [List.mem_filter]; exact ⟨List.getElem_mem hi, by simp⟩
  have h1 := eqN_le1 h ⟨L[i].f, L[i].t, 0, 0⟩
  unfold wOf
  generalize eqN L ⟨L[i].f, L[i].t, 0, 0⟩ = E at h1 hm
  match E, h1 with
  | [b], _ => rw [List.mem_singleton] at hm; rw [← hm]; rfl
/-- How many have it below. -/
def cntB (L : List Ar) (g : Ar → Int) (k : Nat) : Nat := (L.filter fun b => decide (g b < (k : Int))).length
theorem cntB_zero (L : List Ar) (g : Ar → Int) (h : ∀ b ∈ L, 0 ≤ g b) : cntB L g 0 = 0 := by
  unfold cntB
  rw [List.filter_eq_nil_iff.2 fun b hb => by have := h b hb; simp; omega]; rfl
theorem cntB_all (L : List Ar) (g : Ar → Int) (n : Nat) (h : ∀ b ∈ L, g b < (n : Int)) : cntB L g n = L.length := by
  unfold cntB
  rw [List.filter_eq_self.2 fun b hb => by have := h b hb; simpa using this]
theorem cntB_step (L : List Ar) (g : Ar → Int) (k : Nat) : cntB L g (k + 1) = cntB L g k + (L.filter fun b => decide (g b = (k : Int))).length := by
  unfold cntB
  induction L with
  | nil => rfl
  | cons b L ih =>
    simp only [List.filter_cons]
    rcases Int.lt_trichotomy (g b) (k : Int) with h | h | h
    · rw [if_pos (by simp; omega), if_pos (by simpa using h), if_neg (by simp; omega), List.length_cons, List.length_cons, ih]; omega
    · rw [if_pos (by simp; omega), if_neg (by simp; omega), if_pos (by simpa using h), List.length_cons, List.length_cons, ih]; omega
    · rw [if_neg (by simp; omega), if_neg (by simp; omega), if_neg (by simp; omega), ih]
theorem cntB_le (L : List Ar) (g : Ar → Int) (k : Nat) : cntB L g k ≤ L.length := List.length_filter_le _ _
end Mile
