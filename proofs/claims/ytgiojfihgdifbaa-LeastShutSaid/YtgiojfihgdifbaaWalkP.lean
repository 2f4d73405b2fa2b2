/- Walks, as plain lists. -/
import Derived.Test.YtgiojfihgdifbaaTurnP
namespace Go.Proofs.Ytgiojfihgdifbaa
open Go.RowKit Mile
/-- Whether it is an edge. -/
def edB (G : GD) (x : Int) : Bool := decide (0 ≤ x ∧ x < (G.E.length : Int))
/-- The weights of edges, together. -/
def wS (G : GD) : List Int → Int
  | [] => 0
  | x :: xs => (eAt G x).2.2 + wS G xs
theorem wS_append (G : GD) : ∀ (a b : List Int), wS G (a ++ b) = wS G a + wS G b
  | [], b => by simp [wS]
  | x :: a, b => by simp only [List.cons_append, wS, wS_append G a b]; omega
theorem wS_snoc (G : GD) (a : List Int) (x : Int) : wS G (a ++ [x]) = wS G a + (eAt G x).2.2 := by rw [wS_append]; simp [wS]
def allE (G : GD) (xs : List Int) : Bool := xs.all (edB G)
theorem allE_append (G : GD) (a b : List Int) : allE G (a ++ b) = (allE G a && allE G b) := by simp [allE]
theorem allE_snoc (G : GD) (a : List Int) (x : Int) : allE G (a ++ [x]) = (allE G a && edB G x) := by simp [allE]
def wtN (G : GD) (xs : List Int) : Int := if allE G xs then wS G xs else 0
theorem wt_le (G : GD) (h : May G) (x : Int) (hx : edB G x = true) : 1 ≤ (eAt G x).2.2 ∧ (eAt G x).2.2 ≤ 65535 := by
  have hx' := of_decide_eq_true hx
  obtain ⟨k, rfl⟩ := Int.eq_ofNat_of_zero_le hx'.1
  have hk : k < G.E.length := by omega
  rw [eAt_eq G k hk]
  exact (h.2.2.1 _ (List.getElem_mem hk)).2.2
theorem wS_le (G : GD) (h : May G) : ∀ (xs : List Int), allE G xs = true → 0 ≤ wS G xs ∧ wS G xs ≤ 65535 * (xs.length : Int)
  | [], _ => by simp [wS]
  | x :: xs, hx => by
    have e : allE G (x :: xs) = (edB G x && allE G xs) := by simp [allE]
    rw [e, Bool.and_eq_true] at hx
    have h1 := wt_le G h x hx.1
    have h2 := wS_le G h xs hx.2
    simp only [wS, List.length_cons]
    omega
theorem take_snoc' {α : Type} (l : List α) (k : Nat) (h : k < l.length) : l.take (k + 1) = l.take k ++ [l[k]] := List.take_succ_eq_append_getElem h
theorem allE_take (G : GD) (xs : List Int) (k : Nat) (h : k < xs.length) : allE G (xs.take (k + 1)) = (allE G (xs.take k) && edB G xs[k]) := by rw [take_snoc' xs k h, allE_snoc]
theorem wS_take (G : GD) (xs : List Int) (k : Nat) (h : k < xs.length) : wS G (xs.take (k + 1)) = wS G (xs.take k) + (eAt G xs[k]).2.2 := by rw [take_snoc' xs k h, wS_snoc]
theorem allE_no (G : GD) (xs : List Int) (k : Nat) (h : k < xs.length) (hx : edB G xs[k] = false) : allE G xs = false := by
  unfold allE
  rw [List.all_eq_false]
  exact ⟨xs[k], List.getElem_mem h, by simp [hx]⟩
/-- Where a walk has come to. -/
def lastD (f : Int) (xs : List Int) : Int := xs.getLast?.getD f
theorem lastD_snoc (f : Int) (l : List Int) (x : Int) : lastD f (l ++ [x]) = x := by simp [lastD]
theorem lastD_take (f : Int) (xs : List Int) (k : Nat) (h : k < xs.length) : lastD f (xs.take (k + 1)) = xs[k] := by rw [take_snoc' xs k h, lastD_snoc]
theorem lastD_append (f : Int) (a b : List Int) : lastD f (a ++ b) = lastD (lastD f a) b := by
  unfold lastD
  rw [List.getLast?_append]
  cases b.getLast? <;> simp
/-- Whether each may come behind the one ahead of it. -/
def wlk (G : GD) : Int → List Int → Bool
  | _, [] => true
  | f, x :: xs => turnB G f x && wlk G x xs
theorem wlk_append (G : GD) : ∀ (f : Int) (a b : List Int), wlk G f (a ++ b) = (wlk G f a && wlk G (lastD f a) b)
  | f, [], b => by simp [wlk, lastD]
  | f, x :: a, b => by
    have e : lastD f (x :: a) = lastD x a := by
      have := lastD_append f [x] a
      rwa [show lastD f [x] = x from lastD_snoc f [] x] at this
    simp only [List.cons_append, wlk]
    rw [wlk_append G x a b, e, Bool.and_assoc]
theorem wlk_take (G : GD) (f : Int) (xs : List Int) (k : Nat) (h : k < xs.length) : wlk G f (xs.take (k + 1)) = (wlk G f (xs.take k) && turnB G (lastD f (xs.take k)) xs[k]) := by
  rw [take_snoc' xs k h, wlk_append]; simp [wlk]
theorem wlk_no (G : GD) (f : Int) (xs : List Int) (k : Nat) (_ : k < xs.length) (hx : wlk G f (xs.take (k + 1)) = false) : wlk G f xs = false := by
  have e := wlk_append G f (xs.take (k + 1)) (xs.drop (k + 1))
  rw [List.take_append_drop, hx, Bool.false_and] at e
  exact e
/-- Whether it is a walk from an edge. -/
def validB (G : GD) (f : Int) (xs : List Int) : Bool := edB G f && wlk G f xs
theorem turn_ed1 (G : GD) (a b : Int) (h : turnB G a b = true) : edB G a = true := decide_eq_true (of_decide_eq_true h).1
theorem turn_ed2 (G : GD) (a b : Int) (h : turnB G a b = true) : edB G b = true := decide_eq_true (of_decide_eq_true h).2.1
theorem valid_last (G : GD) (f : Int) (xs : List Int) (h : wlk G f xs = true) : edB G (lastD f xs) = edB G f := by
  rcases List.eq_nil_or_concat xs with rfl | ⟨l, x, rfl⟩
  · rfl
  · rw [List.concat_eq_append] at h ⊢
    rw [lastD_snoc]
    have h1 := h
    rw [wlk_append] at h1
    have h2 : turnB G (lastD f l) x = true := by
      have := (Bool.and_eq_true_iff.1 h1).2
      simpa [wlk] using this
    rw [turn_ed2 G _ _ h2]
    cases l with
    | nil => simp only [lastD, List.getLast?_nil, Option.getD_none] at h2; exact (turn_ed1 G _ _ h2).symm
    | cons y l =>
      have : turnB G f y = true := by
        have := h
        simp only [List.cons_append, wlk, Bool.and_eq_true] at this
        exact this.1
      exact (turn_ed1 G _ _ this).symm
def endN (G : GD) (f : Int) (xs : List Int) : Int := if validB G f xs then (eAt G (lastD f xs)).2.1 else 0
/-- The order of rows. -/
def cmpL : List Int → List Int → Int
  | [], [] => 0
  | [], _ :: _ => -1
  | _ :: _, [] => 1
  | x :: xs, y :: ys => if x < y then -1 else if y < x then 1 else cmpL xs ys
theorem cmpL_self : ∀ l, cmpL l l = 0
  | [] => rfl
  | x :: xs => by simp [cmpL, cmpL_self xs]
theorem cmpL_pre : ∀ (l a b : List Int), cmpL (l ++ a) (l ++ b) = cmpL a b
  | [], _, _ => rfl
  | x :: l, a, b => by simp [cmpL, cmpL_pre l a b]
theorem cmpL_nilr (a : List Int) : cmpL a [] = if a = [] then 0 else 1 := by cases a <;> simp [cmpL]
theorem cmpL_nill (b : List Int) : cmpL [] b = if b = [] then 0 else -1 := by cases b <;> simp [cmpL]
theorem cmpL_split (xs ys : List Int) (k : Nat) (h : xs.take k = ys.take k) : cmpL xs ys = cmpL (xs.drop k) (ys.drop k) := by
  have := cmpL_pre (xs.take k) (xs.drop k) (ys.drop k)
  rw [List.take_append_drop] at this
  rw [h, List.take_append_drop] at this
  exact this
theorem cmpL_lt (xs ys : List Int) (k : Nat) (h : xs.take k = ys.take k) (hx : k < xs.length) (hy : k < ys.length) (hl : xs[k] < ys[k]) : cmpL xs ys = -1 := by
  rw [cmpL_split xs ys k h, List.drop_eq_getElem_cons hx, List.drop_eq_getElem_cons hy]; simp [cmpL, hl]
theorem cmpL_gt (xs ys : List Int) (k : Nat) (h : xs.take k = ys.take k) (hx : k < xs.length) (hy : k < ys.length) (hl : ys[k] < xs[k]) : cmpL xs ys = 1 := by
  rw [cmpL_split xs ys k h, List.drop_eq_getElem_cons hx, List.drop_eq_getElem_cons hy]; simp [cmpL, hl, show ¬ xs[k] < ys[k] by omega]
theorem cmpL_end1 (xs ys : List Int) (h : xs.take ys.length = ys) (hl : ys.length < xs.length) : cmpL xs ys = 1 := by
  rw [cmpL_split xs ys ys.length (by rw [h, List.take_length]), List.drop_length, List.drop_eq_getElem_cons hl]; rfl
theorem cmpL_end2 (xs ys : List Int) (h : xs = ys.take xs.length) (hl : xs.length < ys.length) : cmpL xs ys = -1 := by
  rw [cmpL_split xs ys xs.length (by rw [← h, List.take_length]), List.drop_length, List.drop_eq_getElem_cons hl]; rfl
theorem cmpL_end0 (xs ys : List Int) (h : xs = ys.take xs.length) (hl : xs.length = ys.length) : cmpL xs ys = 0 := by
  rw [hl, List.take_length] at h; rw [h]; exact cmpL_self ys
theorem cmpL_eq : ∀ (a b : List Int), cmpL a b = 0 ↔ a = b
  | [], [] => by simp [cmpL]
  | [], _ :: _ => by simp [cmpL]
  | _ :: _, [] => by simp [cmpL]
  | x :: xs, y :: ys => by
    have ih := cmpL_eq xs ys
    simp only [cmpL, List.cons.injEq]
    by_cases h1 : x < y
    · simp [h1]; omega
    · by_cases h2 : y < x
      · simp [h1, h2]; omega
      · simp [ih, show x = y by omega]
theorem cmpL_neg : ∀ (a b : List Int), cmpL b a = - cmpL a b
  | [], [] => rfl
  | [], _ :: _ => rfl
  | _ :: _, [] => rfl
  | x :: xs, y :: ys => by
    have ih := cmpL_neg xs ys
    simp only [cmpL]
    by_cases h1 : x < y
    · simp [h1, show ¬ y < x by omega]
    · by_cases h2 : y < x
      · simp [h1, h2]
      · simp [h1, h2, ih]
theorem cmpL_val : ∀ (a b : List Int), cmpL a b = -1 ∨ cmpL a b = 0 ∨ cmpL a b = 1
  | [], [] => by simp [cmpL]
  | [], _ :: _ => by simp [cmpL]
  | _ :: _, [] => by simp [cmpL]
  | x :: xs, y :: ys => by
    simp only [cmpL]
    by_cases h1 : x < y
    · simp [h1]
    · by_cases h2 : y < x
      · simp [h1, h2]
      · simp [h1, h2, cmpL_val xs ys]
theorem cmpL_trans : ∀ (a b c : List Int), cmpL a b ≤ 0 → cmpL b c ≤ 0 → cmpL a c ≤ 0
  | [], _, [] => by simp [cmpL]
  | [], _, _ :: _ => by simp [cmpL]
  | _ :: _, [], _ => by simp [cmpL]
  | _ :: _, _ :: _, [] => by simp [cmpL]
  | x :: xs, y :: ys, z :: zs => by
    have ih := cmpL_trans xs ys zs
    simp only [cmpL]
    by_cases h1 : x < y
    · by_cases h2 : y < z
      · simp [h1, h2, show x < z by omega]
      · by_cases h3 : z < y
        · simp [h1, h2, h3]
        · simp [h1, h2, h3, show x < z by omega]
    · by_cases h2 : y < x
      · simp [h1, h2]
      · obtain rfl : x = y := by omega
        by_cases h3 : x < z
        · simp [h3]
        · by_cases h4 : z < x
          · simp [h3, h4]
          · simpa [h3, h4] using ih
theorem cmpL_trans' (a b c : List Int) (h1 : 0 ≤ cmpL a b) (h2 : 0 ≤ cmpL b c) : 0 ≤ cmpL a c := by
  have := cmpL_trans c b a (by rw [cmpL_neg b c]; omega) (by rw [cmpL_neg a b]; omega)
  rw [cmpL_neg a c] at this; omega
theorem cmpL_snoc (a : List Int) (x : Int) : cmpL a (a ++ [x]) = -1 := by
  have := cmpL_pre a [] [x]
  rw [List.append_nil] at this; rw [this]; rfl
theorem cmpL_take (w : List Int) (k : Nat) (_ : k ≤ w.length) : cmpL (w.take k) w = if k < w.length then -1 else 0 := by
  have := cmpL_pre (w.take k) [] (w.drop k)
  rw [List.append_nil, List.take_append_drop] at this
  rw [this, cmpL_nill]
  by_cases hk : k < w.length
  · simp [hk]
  · simp [hk]
end Go.Proofs.Ytgiojfihgdifbaa
