/- Numbers put in rows by their keys: counted, summed, filled. -/
import Derived.Test.YtdccpikddhpleaaGr7
namespace Mile
open Go Go.RowKit

def idxI (ks : List Int) (i : Nat) (k : Int) : List Nat := (List.range i).filter (fun j => ks.getD j (-1) == k)
def belowI (ks : List Int) (k : Int) : Nat := ((List.range ks.length).filter (fun j => decide (ks.getD j (-1) < k))).length
def KeysOk (ks : List Int) (N : Nat) : Prop := ∀ i, i < ks.length → 0 ≤ ks.getD i (-1) ∧ ks.getD i (-1) < N

theorem idx_eq (ks : List Int) (k : Int) : idx ks k = (idxI ks ks.length k).map Int.ofNat := rfl
theorem idxI_succ (ks : List Int) (i : Nat) (k : Int) : idxI ks (i + 1) k = idxI ks i k ++ (if ks.getD i (-1) = k then [i] else []) := by
  unfold idxI
  rw [List.range_succ, List.filter_append]
  congr 1
  by_cases h : ks.getD i (-1) = k
  · rw [if_pos h, List.filter_cons_of_pos (by simp only [h, beq_self_eq_true])]; rfl
  · rw [if_neg h, List.filter_cons_of_neg (by simpa using h)]; rfl
theorem idxI_zero (ks : List Int) (k : Int) : idxI ks 0 k = [] := rfl
theorem idxI_mono (ks : List Int) (k : Int) (i : Nat) : ∀ d, (idxI ks i k).length ≤ (idxI ks (i + d) k).length
  | 0 => Nat.le_refl _
  | d + 1 => by
    have := idxI_mono ks k i d
    rw [show i + (d + 1) = (i + d) + 1 by omega, idxI_succ, List.length_append]
    omega
theorem idxI_lt {ks : List Int} {i n : Nat} {k : Int} (h : i < n) (hk : ks.getD i (-1) = k) : (idxI ks i k).length < (idxI ks n k).length := by
  have h1 := idxI_mono ks k (i + 1) (n - (i + 1))
  rw [show i + 1 + (n - (i + 1)) = n by omega, idxI_succ, if_pos hk, List.length_append, List.length_singleton] at h1
  omega
theorem idxI_le (ks : List Int) (i : Nat) (k : Int) : (idxI ks i k).length ≤ i := by
  have := List.length_filter_le (fun j => ks.getD j (-1) == k) (List.range i)
  rwa [List.length_range] at this
theorem part_filter (f : Nat → Int) (k : Int) : ∀ l : List Nat, (l.filter (fun j => decide (f j < k + 1))).length = (l.filter (fun j => decide (f j < k))).length + (l.filter (fun j => f j == k)).length
  | [] => rfl
  | x :: l => by
    have ih := part_filter f k l
    rcases Int.lt_trichotomy (f x) k with h | h | h
    · rw [List.filter_cons_of_pos (by simp; omega), List.filter_cons_of_pos (by simp; omega), List.filter_cons_of_neg (by simp; omega), List.length_cons, List.length_cons, ih]; omega
    · rw [List.filter_cons_of_pos (by simp; omega), List.filter_cons_of_neg (by simp; omega), List.filter_cons_of_pos (by simp; omega), List.length_cons, List.length_cons, ih]; omega
    · rw [List.filter_cons_of_neg (by simp; omega), List.filter_cons_of_neg (by simp; omega), List.filter_cons_of_neg (by simp; omega), ih]
theorem below_succ (ks : List Int) (k : Int) : belowI ks (k + 1) = belowI ks k + (idxI ks ks.length k).length := part_filter _ k _
theorem below_zero {ks : List Int} {N : Nat} (h : KeysOk ks N) : belowI ks 0 = 0 := by
  unfold belowI
  rw [List.length_eq_zero_iff, List.filter_eq_nil_iff]
  intro j hj
  have := h j (List.mem_range.1 hj)
  rw [decide_eq_true_eq]; omega
theorem below_all {ks : List Int} {N : Nat} (h : KeysOk ks N) : belowI ks N = ks.length := by
  unfold belowI
  rw [List.filter_eq_self.2, List.length_range]
  intro j hj
  exact decide_eq_true (h j (List.mem_range.1 hj)).2
theorem below_mono (ks : List Int) (k : Int) : ∀ d : Nat, belowI ks k ≤ belowI ks (k + d)
  | 0 => by simp
  | d + 1 => by
    have h1 := below_mono ks k d
    have h2 := below_succ ks (k + d)
    have e : k + ((d + 1 : Nat) : Int) = k + (d : Int) + 1 := by omega
    rw [e, h2]; omega
theorem below_le {ks : List Int} {j k : Int} (h : j ≤ k) : belowI ks j ≤ belowI ks k := by
  have := below_mono ks j (k - j).toNat
  rw [show j + ((k - j).toNat : Int) = k by omega] at this
  exact this
theorem below_bound (ks : List Int) (k : Int) : belowI ks k ≤ ks.length := by
  unfold belowI
  have := List.length_filter_le (fun j => decide (ks.getD j (-1) < k)) (List.range ks.length)
  rwa [List.length_range] at this

/-- A row of N + 1 numbers told by a function. -/
def tab (N : Nat) (f : Nat → Int) : List Int := (List.range (N + 1)).map f
theorem tab_len (N : Nat) (f : Nat → Int) : (tab N f).length = N + 1 := by unfold tab; simp
theorem tab_at (N : Nat) (f : Nat → Int) (k : Nat) (h : k < (tab N f).length) : (tab N f)[k] = f k := by
  have hk : k < N + 1 := by rw [tab_len] at h; exact h
  have e : (tab N f)[k]? = some (f k) := by unfold tab; rw [List.getElem?_map, List.getElem?_range hk]; rfl
  rw [List.getElem?_eq_getElem h] at e
  exact Option.some.inj e
theorem tab_set (N : Nat) (f g : Nat → Int) (k : Nat) (v : Int) (hv : v = g k) (h : ∀ j, j ≠ k → f j = g j) : (tab N f).set k v = tab N g := by
  apply List.ext_getElem
  · simp [tab]
  · intro i h1 h2
    rw [List.getElem_set, tab_at, tab_at]
    split
    · rename_i e; rw [hv, e]
    · rename_i e; exact h i (fun e' => e e'.symm)
theorem tab_congr (N : Nat) (f g : Nat → Int) (h : ∀ j, j ≤ N → f j = g j) : tab N f = tab N g := by
  unfold tab
  apply List.map_congr_left
  intro j hj
  exact h j (by have := List.mem_range.1 hj; omega)
/-- Counted: how many of the first i have each key, one place on. -/
def cntF (ks : List Int) (i : Nat) : Nat → Int := fun k => if k = 0 then 0 else ((idxI ks i ((k : Int) - 1)).length : Int)
/-- Summed up to j. -/
def sumF (ks : List Int) (j : Nat) : Nat → Int := fun k => if k ≤ j then (belowI ks k : Int) else cntF ks ks.length k
/-- Where the next one goes. -/
def nextF (ks : List Int) (i : Nat) : Nat → Int := fun k => (belowI ks k : Int) + ((idxI ks i k).length : Int)
theorem cnt_zero (N : Nat) (ks : List Int) : tab N (cntF ks 0) = List.replicate (N + 1) 0 := by
  rw [show List.replicate (N + 1) (0 : Int) = tab N (fun _ => 0) by
    refine (List.eq_replicate_iff.2 ⟨tab_len _ _, fun b hb => ?_⟩).symm
    obtain ⟨i, hi, rfl⟩ := List.getElem_of_mem hb
    exact tab_at _ _ _ _]
  apply tab_congr
  intro j _
  unfold cntF
  split <;> rfl
theorem cnt_step {N : Nat} {ks : List Int} {i c : Nat} (hc : ks.getD i (-1) = (c : Int)) : (tab N (cntF ks i)).set (c + 1) (cntF ks i (c + 1) + 1) = tab N (cntF ks (i + 1)) := by
  apply tab_set
  · unfold cntF
    rw [if_neg (by omega), if_neg (by omega), idxI_succ, if_pos (by rw [hc]; omega), List.length_append]
    simp
  · intro j hj
    unfold cntF
    split
    · rfl
    · rw [idxI_succ, if_neg (by rw [hc]; omega), List.append_nil]
theorem sum_start {N : Nat} {ks : List Int} (h : KeysOk ks N) : tab N (cntF ks ks.length) = tab N (sumF ks 0) := by
  apply tab_congr
  intro j _
  unfold sumF
  split
  · have : j = 0 := by omega
    subst this
    have hz := below_zero h
    show (0 : Int) = ((belowI ks ((0 : Nat) : Int) : Nat) : Int)
    rw [show ((0 : Nat) : Int) = 0 from rfl, hz]; rfl
  · rfl
theorem sum_step {N : Nat} {ks : List Int} {j : Nat} : (tab N (sumF ks j)).set (j + 1) (sumF ks j (j + 1) + sumF ks j j) = tab N (sumF ks (j + 1)) := by
  apply tab_set
  · unfold sumF
    rw [if_neg (by omega), if_pos (Nat.le_refl _), if_pos (Nat.le_refl _)]
    unfold cntF
    rw [if_neg (by omega)]
    have h := below_succ ks j
    rw [show ((j + 1 : Nat) : Int) - 1 = (j : Int) by omega, show ((j + 1 : Nat) : Int) = (j : Int) + 1 by omega, h]
    omega
  · intro i hi
    unfold sumF
    by_cases h : i ≤ j
    · rw [if_pos h, if_pos (by omega)]
    · rw [if_neg h, if_neg (by omega)]
theorem sum_end {N : Nat} (ks : List Int) : tab N (sumF ks N) = tab N (fun k => (belowI ks k : Int)) := by
  apply tab_congr
  intro j hj
  unfold sumF
  rw [if_pos hj]
theorem next_start {N : Nat} (ks : List Int) : tab N (fun k => (belowI ks k : Int)) = tab N (nextF ks 0) := by
  apply tab_congr
  intro j _
  unfold nextF
  rw [idxI_zero]; simp
theorem next_step {N : Nat} {ks : List Int} {i c : Nat} (hc : ks.getD i (-1) = (c : Int)) : (tab N (nextF ks i)).set c (nextF ks i c + 1) = tab N (nextF ks (i + 1)) := by
  apply tab_set
  · unfold nextF
    rw [idxI_succ, if_pos hc, List.length_append]
    simp; omega
  · intro j hj
    unfold nextF
    rw [idxI_succ, if_neg (by rw [hc]; omega), List.append_nil]
/-- What is filled in so far. -/
def Filled (ks : List Int) (N i : Nat) (A : List Int) : Prop := A.length = ks.length ∧ ∀ k t : Nat, k < N → ∀ h : t < (idxI ks i k).length, A[belowI ks k + t]? = some (((idxI ks i k)[t]'h : Nat) : Int)
theorem filled_zero {ks : List Int} {N : Nat} {A : List Int} (h : A.length = ks.length) : Filled ks N 0 A := ⟨h, fun k t _ ht => by rw [idxI_zero] at ht; simp at ht⟩
theorem next_lt {ks : List Int} {i c : Nat} (hi : i < ks.length) (hc : ks.getD i (-1) = (c : Int)) : belowI ks c + (idxI ks i c).length < ks.length := by
  have h1 := idxI_lt hi hc
  have h2 := below_succ ks c
  have h3 := below_bound ks (c + 1)
  omega
theorem filled_step {ks : List Int} {N i c : Nat} {A : List Int} (h : Filled ks N i A) (hi : i < ks.length) (hc : ks.getD i (-1) = (c : Int)) : Filled ks N (i + 1) (A.set (belowI ks c + (idxI ks i c).length) (i : Int)) := by
  refine ⟨by rw [List.length_set]; exact h.1, fun k t hk ht => ?_⟩
  have hlt := next_lt hi hc
  by_cases e : k = c
  · subst e
    have hs := idxI_succ ks i k
    rw [if_pos hc] at hs
    have hlen : (idxI ks (i + 1) k).length = (idxI ks i k).length + 1 := by rw [hs]; simp
    by_cases e2 : t = (idxI ks i k).length
    · subst e2
      rw [List.getElem?_set_self (by rw [h.1]; exact hlt)]
      congr 1
      simp [hs]
    · have ht' : t < (idxI ks i k).length := by omega
      rw [List.getElem?_set_ne (by omega), h.2 k t hk ht']
      congr 1
      simp only [hs, List.getElem_append_left ht']
  · have hs := idxI_succ ks i k
    rw [if_neg (by rw [hc]; omega), List.append_nil] at hs
    have ht' : t < (idxI ks i k).length := by rw [← hs]; exact ht
    have hne : belowI ks c + (idxI ks i c).length ≠ belowI ks k + t := by
      have hk1 := idxI_mono ks k i (ks.length - i)
      rw [show i + (ks.length - i) = ks.length by omega] at hk1
      have hc1 := idxI_lt hi hc
      have hk2 := below_succ ks k
      have hc2 := below_succ ks c
      rcases Nat.lt_or_ge k c with g | g
      · have := @below_le ks ((k : Int) + 1) c (by omega)
        omega
      · have := @below_le ks ((c : Int) + 1) k (by omega)
        omega
    rw [List.getElem?_set_ne hne, h.2 k t hk ht']
    congr 1
    simp only [hs]
/-- All filled in: each row is there. -/
theorem filled_row {ks : List Int} {N : Nat} {A : List Int} (h : Filled ks N ks.length A) {k : Nat} (hk : k < N) : (A.take (belowI ks ((k : Int) + 1))).drop (belowI ks k) = idx ks k := by
  have h2 := below_succ ks k
  have h3 := below_bound ks ((k : Int) + 1)
  rw [idx_eq]
  apply List.ext_getElem?
  intro t
  rw [List.getElem?_drop, List.getElem?_take, List.getElem?_map]
  by_cases ht : t < (idxI ks ks.length k).length
  · rw [if_pos (by omega), h.2 k t hk ht, List.getElem?_eq_getElem ht]; rfl
  · rw [if_neg (by omega), List.getElem?_eq_none (by omega)]; rfl
end Mile
