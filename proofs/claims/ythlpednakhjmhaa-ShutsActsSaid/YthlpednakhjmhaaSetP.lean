/- Closed edges, as plain lists: till when each is closed; what a call turns. -/
import Derived.Test.YthlpednakhjmhaaBase2
namespace Mile
open Go Go.RowKit
def edge1 (n : Nat) (x : Int) : Bool := decide (0 ≤ x ∧ x < (n : Int))
def hasB (n : Nat) (xs : List Int) : Bool := xs.all (edge1 n)
theorem hasB_take (n : Nat) (xs : List Int) (k : Nat) (h : k < xs.length) : hasB n (xs.take (k + 1)) = (hasB n (xs.take k) && edge1 n xs[k]) := by
  unfold hasB; rw [List.take_succ_eq_append_getElem h, List.all_append]; simp only [List.all_cons, List.all_nil, Bool.and_true]
theorem hasB_no (n : Nat) (xs : List Int) (k : Nat) (h : k < xs.length) (hx : edge1 n xs[k] = false) : hasB n xs = false := by
  unfold hasB; rw [List.all_eq_false]; exact ⟨xs[k], List.getElem_mem h, by simp [hx]⟩
theorem hasB_at {n : Nat} {xs : List Int} (h : hasB n xs = true) (k : Nat) (hk : k < xs.length) : ∃ j : Nat, xs[k] = (j : Int) ∧ j < n := by
  have := of_decide_eq_true (List.all_eq_true.1 h _ (List.getElem_mem hk))
  obtain ⟨j, hj⟩ := Int.eq_ofNat_of_zero_le this.1
  exact ⟨j, hj, by omega⟩
/-- Each of these edges has that time. -/
def putU (u : Int) : List Int → List Int → List Int
  | us, [] => us
  | us, x :: xs => putU u (us.set x.toNat u) xs
/-- Which of them it closes, or opens: in their order. -/
def turnL (u : Int) : List Int → List Int → List Int
  | _, [] => []
  | us, x :: xs => if (us.getD x.toNat 0 == 0) != (u == 0) then x :: turnL u (us.set x.toNat u) xs else turnL u (us.set x.toNat u) xs
theorem putU_len (u : Int) : ∀ (us xs : List Int), (putU u us xs).length = us.length
  | _, [] => rfl
  | us, x :: xs => by rw [putU, putU_len u _ xs, List.length_set]
theorem putU_snoc (u : Int) : ∀ (us xs : List Int) (x : Int), putU u us (xs ++ [x]) = (putU u us xs).set x.toNat u
  | _, [], _ => rfl
  | us, y :: xs, x => by simp only [List.cons_append, putU]; exact putU_snoc u _ xs x
theorem turnL_snoc (u : Int) : ∀ (us xs : List Int) (x : Int), turnL u us (xs ++ [x]) = turnL u us xs ++ (if ((putU u us xs).getD x.toNat 0 == 0) != (u == 0) then [x] else [])
  | us, [], x => by simp [turnL, putU]
  | us, y :: xs, x => by
    simp only [List.cons_append, turnL, putU]
    rw [turnL_snoc u _ xs x]
    split <;> simp
theorem turnL_len (u : Int) : ∀ (us xs : List Int), (turnL u us xs).length ≤ xs.length
  | _, [] => by simp [turnL]
  | us, x :: xs => by
    have := turnL_len u (us.set x.toNat u) xs
    simp only [turnL]; split <;> simp <;> omega
/-- Of each edge whether it is closed; the first k of them. -/
def maskK (us : List Int) (n k : Nat) : List Bool := (List.range n).map fun i => decide (i < k) && us.getD i 0 != 0
def maskL (us : List Int) (n : Nat) : List Bool := (List.range n).map fun i => us.getD i 0 != 0
theorem maskK_zero (us : List Int) (n : Nat) : maskK us n 0 = List.replicate n false := by
  unfold maskK
  refine List.ext_getElem (by simp) fun i h1 h2 => by simp
theorem maskK_all (us : List Int) (n : Nat) : maskK us n n = maskL us n := by
  unfold maskK maskL
  refine List.map_congr_left fun i hi => ?_
  have := List.mem_range.1 hi
  simp [this]
theorem maskK_len (us : List Int) (n k : Nat) : (maskK us n k).length = n := by simp [maskK]
theorem maskL_len (us : List Int) (n : Nat) : (maskL us n).length = n := by simp [maskL]
theorem maskK_set (us : List Int) (n k : Nat) (hk : k < us.length) : (maskK us n k).set k (us[k] != 0) = maskK us n (k + 1) := by
  unfold maskK
  refine List.ext_getElem (by simp) fun i h1 h2 => ?_
  rw [List.getElem_set]
  split
  · rename_i e; subst e; simp [List.getD, hk]
  · rename_i e
    simp only [List.getElem_map, List.getElem_range]
    by_cases h : i < k
    · simp [h, show i < k + 1 by omega]
    · simp [h, show ¬ i < k + 1 by omega]
theorem maskL_at (us : List Int) (n k : Nat) (hk : k < us.length) (hn : k < (maskL us n).length) : (maskL us n)[k] = (us[k] != 0) := by simp [maskL, List.getD, hk]
/-- All that is closed, by edge. -/
def allK (us : List Int) (k : Nat) : List (Int × Int) := ((List.range k).filter fun i : Nat => us.getD i 0 != 0).map fun i : Nat => ((i : Int), us.getD i 0)
theorem allK_succ (us : List Int) (k : Nat) (hk : k < us.length) : allK us (k + 1) = allK us k ++ (if us[k] != 0 then [((k : Int), us[k])] else []) := by
  unfold allK
  rw [List.range_succ, List.filter_append, List.map_append]
  congr 1
  by_cases h : us[k] = 0 <;> simp [List.getD, hk, h]
theorem allK_len (us : List Int) (k : Nat) : (allK us k).length ≤ k := by
  unfold allK; rw [List.length_map]; exact Nat.le_trans (List.length_filter_le _ _) (by simp)
def c2s (x : Int × Int) : List Value := [.int .i64 x.1, .int .i64 x.2]
theorem c2s_snoc (l : List (Int × Int)) (x : Int × Int) : (l ++ [x]).flatMap c2s = l.flatMap c2s ++ c2s x := by simp
/-- Whose time is over. -/
def overL (t : Int) (l : List (Int × Int)) : List Int := (l.filter fun x => decide (x.2 ≤ t)).map (·.1)
theorem overL_snoc (t : Int) (l : List (Int × Int)) (x : Int × Int) : overL t (l ++ [x]) = overL t l ++ (if x.2 ≤ t then [x.1] else []) := by
  unfold overL
  rw [List.filter_append, List.map_append]
  by_cases h : x.2 ≤ t <;> simp [h]
theorem overL_len (t : Int) (l : List (Int × Int)) : (overL t l).length ≤ l.length := by unfold overL; rw [List.length_map]; exact List.length_filter_le _ _
end Mile
