/- Nets as sorted lists of arcs: plain lists. -/
import Derived.Test.YtnklgeekjkchbaaBase
namespace Mile
/-- An arc. -/
structure Ar where
  f : Int
  t : Int
  w : Int
  m : Int
def keyLt (a b : Ar) : Prop := a.f < b.f ∨ (a.f = b.f ∧ a.t < b.t)
instance (a b : Ar) : Decidable (keyLt a b) := inferInstanceAs (Decidable (_ ∨ _))
theorem keyLt.trans {a b c : Ar} (h : keyLt a b) (k : keyLt b c) : keyLt a c := by unfold keyLt at *; omega
theorem keyLt.irr {a : Ar} : ¬ keyLt a a := by unfold keyLt; omega
def SortN (L : List Ar) : Prop := L.Pairwise keyLt
def ltN (L : List Ar) (a : Ar) : List Ar := L.filter fun b => decide (keyLt b a)
def gtN (L : List Ar) (a : Ar) : List Ar := L.filter fun b => decide (keyLt a b)
def eqN (L : List Ar) (a : Ar) : List Ar := L.filter fun b => decide (b.f = a.f ∧ b.t = a.t)
/-- With this arc, in the place of one that has its ends. -/
def newN (L : List Ar) (a : Ar) : List Ar := ltN L a ++ a :: gtN L a
def outL (L : List Ar) (v : Int) : List Ar := L.filter fun b => decide (b.f = v)
def inL (L : List Ar) (v : Int) : List Ar := L.filter fun b => decide (b.t = v)
def cutN (L : List Ar) (v : Int) : List Ar := L.filter fun b => decide (b.f ≠ v ∧ b.t ≠ v)
theorem split3 {L : List Ar} (h : SortN L) (a : Ar) : L = ltN L a ++ (eqN L a ++ gtN L a) := by
  induction L with
  | nil => rfl
  | cons b L ih =>
    obtain ⟨h1, h2⟩ := List.pairwise_cons.1 h
    have ih := ih h2
    unfold ltN eqN gtN at *
    by_cases c1 : keyLt b a
    · rw [List.filter_cons_of_pos (by simpa using c1), List.filter_cons_of_neg (by simp; unfold keyLt at c1; omega), List.filter_cons_of_neg (by simp; exact fun e => keyLt.irr (keyLt.trans c1 e))]
      rw [List.cons_append, ← ih]
    · have hg : ∀ x ∈ L, ¬ keyLt x a := fun x hx e => c1 ((h1 x hx).trans e)
      have e1 : L.filter (fun b => decide (keyLt b a)) = [] := List.filter_eq_nil_iff.2 fun x hx => by simpa using hg x hx
      rw [List.filter_cons_of_neg (by simpa using c1), e1]
      rw [e1] at ih
      by_cases c2 : b.f = a.f ∧ b.t = a.t
      · rw [List.filter_cons_of_pos (by simpa using c2), List.filter_cons_of_neg (by simp; unfold keyLt; omega)]
        show b :: L = b :: _
        rw [List.nil_append] at ih
        exact congrArg (b :: ·) ih
      · have c3 : keyLt a b := by unfold keyLt at *; omega
        have e2 : L.filter (fun b => decide (b.f = a.f ∧ b.t = a.t)) = [] := List.filter_eq_nil_iff.2 fun x hx => by
          have := h1 x hx
          simp; unfold keyLt at *; omega
        rw [List.filter_cons_of_neg (by simpa using c2), e2, List.filter_cons_of_pos (by simpa using c3)]
        rw [e2] at ih
        exact congrArg (b :: ·) ih
theorem SortN.sub {L : List Ar} (h : SortN L) (p : Ar → Bool) : SortN (L.filter p) := List.Pairwise.filter p h
theorem SortN.new {L : List Ar} (h : SortN L) (a : Ar) : SortN (newN L a) := by
  unfold newN SortN
  rw [List.pairwise_append]
  refine ⟨h.sub _, List.pairwise_cons.2 ⟨fun b hb => ?_, h.sub _⟩, fun b hb c hc => ?_⟩
  · have := (List.mem_filter.1 hb).2; simpa using this
  · have hb' : keyLt b a := by have := (List.mem_filter.1 hb).2; simpa using this
    rcases List.mem_cons.1 hc with rfl | hc
    · exact hb'
    · have : keyLt a c := by have := (List.mem_filter.1 hc).2; simpa using this
      exact hb'.trans this
theorem SortN.cut {L : List Ar} (h : SortN L) (v : Int) : SortN (cutN L v) := h.sub _
theorem mem_newN {L : List Ar} {a b : Ar} : b ∈ newN L a ↔ b = a ∨ (b ∈ L ∧ (keyLt b a ∨ keyLt a b)) := by
  unfold newN ltN gtN
  simp only [List.mem_append, List.mem_cons, List.mem_filter, decide_eq_true_eq]
  constructor
  · rintro (⟨h1, h2⟩ | rfl | ⟨h1, h2⟩)
    · exact .inr ⟨h1, .inl h2⟩
    · exact .inl rfl
    · exact .inr ⟨h1, .inr h2⟩
  · rintro (rfl | ⟨h1, h2 | h2⟩)
    · exact .inr (.inl rfl)
    · exact .inl ⟨h1, h2⟩
    · exact .inr (.inr ⟨h1, h2⟩)
theorem mem_outL {L : List Ar} {v : Int} {b : Ar} : b ∈ outL L v ↔ b ∈ L ∧ b.f = v := by unfold outL; simp
theorem mem_inL {L : List Ar} {v : Int} {b : Ar} : b ∈ inL L v ↔ b ∈ L ∧ b.t = v := by unfold inL; simp
theorem mem_cutN {L : List Ar} {v : Int} {b : Ar} : b ∈ cutN L v ↔ b ∈ L ∧ b.f ≠ v ∧ b.t ≠ v := by unfold cutN; simp
/-- Rows of arcs by where they go. -/
def ltR (R : List Ar) (x : Int) : List Ar := R.filter fun b => decide (b.t < x)
def gtR (R : List Ar) (x : Int) : List Ar := R.filter fun b => decide (x < b.t)
def eqR (R : List Ar) (x : Int) : List Ar := R.filter fun b => decide (b.t = x)
def RiseR (R : List Ar) : Prop := R.Pairwise fun a b => a.t < b.t
theorem splitR {R : List Ar} (h : RiseR R) (x : Int) : R = ltR R x ++ (eqR R x ++ gtR R x) := by
  induction R with
  | nil => rfl
  | cons b R ih =>
    obtain ⟨h1, h2⟩ := List.pairwise_cons.1 h
    have ih := ih h2
    unfold ltR eqR gtR at *
    by_cases c1 : b.t < x
    · rw [List.filter_cons_of_pos (by simpa using c1), List.filter_cons_of_neg (by simp; omega), List.filter_cons_of_neg (by simp; omega)]
      rw [List.cons_append, ← ih]
    · have e1 : R.filter (fun b => decide (b.t < x)) = [] := List.filter_eq_nil_iff.2 fun y hy => by have := h1 y hy; simp; omega
      rw [List.filter_cons_of_neg (by simpa using c1), e1]
      rw [e1] at ih
      by_cases c2 : b.t = x
      · rw [List.filter_cons_of_pos (by simpa using c2), List.filter_cons_of_neg (by simp; omega)]
        exact congrArg (b :: ·) ih
      · have e2 : R.filter (fun b => decide (b.t = x)) = [] := List.filter_eq_nil_iff.2 fun y hy => by have := h1 y hy; simp; omega
        rw [List.filter_cons_of_neg (by simpa using c2), e2, List.filter_cons_of_pos (by simp; omega)]
        rw [e2] at ih
        exact congrArg (b :: ·) ih
theorem outL_rise {L : List Ar} (h : SortN L) (v : Int) : RiseR (outL L v) := by
  unfold RiseR outL
  refine List.Pairwise.imp_of_mem (fun {a b} ha hb hab => ?_) (h.sub _)
  have h1 : a.f = v := by have := (List.mem_filter.1 ha).2; simpa using this
  have h2 : b.f = v := by have := (List.mem_filter.1 hb).2; simpa using this
  unfold keyLt at hab; omega
theorem eqR_len {R : List Ar} (h : RiseR R) (x : Int) : (eqR R x).length ≤ 1 := by
  have h2 : RiseR (eqR R x) := List.Pairwise.filter _ h
  have hm : ∀ b ∈ eqR R x, b.t = x := fun b hb => by unfold eqR at hb; have := (List.mem_filter.1 hb).2; simpa using this
  cases hr : eqR R x with
  | nil => simp
  | cons a R' =>
    cases R' with
    | nil => simp
    | cons b R'' =>
      rw [hr] at h2 hm
      have h3 := (List.pairwise_cons.1 h2).1 b List.mem_cons_self
      have h4 := hm a List.mem_cons_self
      have h5 := hm b (List.mem_cons_of_mem _ List.mem_cons_self)
      omega
/-- Where in a row one stands, or would stand. -/
def posR (R : List Ar) (x : Int) : Nat := (ltR R x).length
def isR (R : List Ar) (x : Int) : Bool := R.any fun b => decide (b.t = x)
theorem isR_eq {R : List Ar} {x : Int} : isR R x = decide (eqR R x ≠ []) := by
  unfold isR eqR
  induction R with
  | nil => rfl
  | cons b R ih =>
    rw [List.any_cons, ih]
    by_cases c : b.t = x
    · rw [List.filter_cons_of_pos (by simpa using c)]; simp [c]
    · rw [List.filter_cons_of_neg (by simpa using c)]; simp [c]
theorem isR_true {R : List Ar} (h : RiseR R) {x : Int} (hi : isR R x = true) : ∃ b, R = ltR R x ++ b :: gtR R x ∧ b.t = x ∧ eqR R x = [b] := by
  rw [isR_eq] at hi
  have h1 := eqR_len h x
  cases hr : eqR R x with
  | nil => rw [hr] at hi; simp at hi
  | cons b E =>
    rw [hr] at h1
    have : E = [] := List.eq_nil_of_length_eq_zero (by simpa using h1)
    subst this
    refine ⟨b, ?_, ?_, rfl⟩
    · have h2 := splitR h x; rw [hr] at h2; exact h2
    · have : b ∈ eqR R x := by rw [hr]; exact List.mem_cons_self
      unfold eqR at this; have := (List.mem_filter.1 this).2; simpa using this
theorem isR_false {R : List Ar} (h : RiseR R) {x : Int} (hi : isR R x = false) : R = ltR R x ++ gtR R x := by
  rw [isR_eq] at hi
  have h2 : eqR R x = [] := by simpa using hi
  have h3 := splitR h x; rw [h2] at h3; exact h3
theorem ltR_take {R : List Ar} (h : RiseR R) (x : Int) : R.take (posR R x) = ltR R x := by
  have h1 := splitR h x
  have h2 : R.take (posR R x) = (ltR R x ++ (eqR R x ++ gtR R x)).take (ltR R x).length := by unfold posR; rw [← h1]
  rw [h2, List.take_left']
  rfl
theorem gtR_drop {R : List Ar} (h : RiseR R) {x : Int} (hi : isR R x = false) : R.drop (posR R x) = gtR R x := by
  have h1 := isR_false h hi
  have h2 : R.drop (posR R x) = (ltR R x ++ gtR R x).drop (ltR R x).length := by unfold posR; rw [← h1]
  rw [h2, List.drop_left']
  rfl
/-- A row with this arc. -/
def newR (R : List Ar) (a : Ar) : List Ar := ltR R a.t ++ a :: gtR R a.t
theorem newR_insert {R : List Ar} (h : RiseR R) {a : Ar} (hi : isR R a.t = false) : R.take (posR R a.t) ++ a :: R.drop (posR R a.t) = newR R a := by rw [ltR_take h, gtR_drop h hi]; rfl
theorem newR_set {R : List Ar} (h : RiseR R) {a : Ar} (hi : isR R a.t = true) : R.set (posR R a.t) a = newR R a := by
  obtain ⟨b, h1, h2, _⟩ := isR_true h hi
  have h3 : R.set (posR R a.t) a = (ltR R a.t ++ b :: gtR R a.t).set (ltR R a.t).length a := by unfold posR; rw [← h1]
  rw [h3, List.set_append_right _ _ (Nat.le_refl _), Nat.sub_self]; rfl
theorem posR_le (R : List Ar) (x : Int) : posR R x ≤ R.length := List.length_filter_le _ _
theorem posR_lt {R : List Ar} (h : RiseR R) {x : Int} (hi : isR R x = true) : posR R x < R.length ∧ ∃ b, R[posR R x]? = some b ∧ b.t = x ∧ b ∈ R := by
  obtain ⟨b, h1, h2, _⟩ := isR_true h hi
  have hl : R.length = posR R x + (gtR R x).length + 1 := by
    have := congrArg List.length h1; rw [List.length_append, List.length_cons] at this; unfold posR; omega
  have hg : R[posR R x]? = some b := by
    have h3 : R[posR R x]? = (ltR R x ++ b :: gtR R x)[(ltR R x).length]? := by unfold posR; rw [← h1]
    rw [h3, List.getElem?_append_right (Nat.le_refl _), Nat.sub_self]; rfl
  exact ⟨by omega, b, hg, h2, List.mem_of_getElem? hg⟩
theorem outL_new {L : List Ar} (h : SortN L) (a : Ar) (v : Int) : outL (newN L a) v = if v = a.f then newR (outL L v) a else outL L v := by
  by_cases hv : v = a.f
  · rw [if_pos hv]
    subst hv
    unfold outL newN newR ltN gtN ltR gtR
    rw [List.filter_append, List.filter_cons_of_pos (by simp), List.filter_filter, List.filter_filter, List.filter_filter, List.filter_filter]
    have e1 : ∀ b : Ar, (decide (b.f = a.f) && decide (keyLt b a)) = (decide (b.t < a.t) && decide (b.f = a.f)) := fun b => by
      by_cases c : b.f = a.f <;> simp [c, keyLt]
    have e2 : ∀ b : Ar, (decide (b.f = a.f) && decide (keyLt a b)) = (decide (a.t < b.t) && decide (b.f = a.f)) := fun b => by
      by_cases c : b.f = a.f <;> simp [c, keyLt]
    congr 1
    · exact congrArg (fun p => List.filter p L) (funext e1)
    · congr 1
      exact congrArg (fun p => List.filter p L) (funext e2)
  · rw [if_neg hv]
    have h1 := congrArg (fun l => outL l v) (split3 h a)
    have h2 : outL (eqN L a) v = [] := by
      unfold outL eqN
      rw [List.filter_filter, List.filter_eq_nil_iff]
      intro b hb; simp; omega
    have h3 : outL (ltN L a ++ (eqN L a ++ gtN L a)) v = outL (ltN L a) v ++ (outL (eqN L a) v ++ outL (gtN L a) v) := by unfold outL; rw [List.filter_append, List.filter_append]
    have h4 : outL (newN L a) v = outL (ltN L a) v ++ outL (gtN L a) v := by unfold outL newN; rw [List.filter_append, List.filter_cons_of_neg (by simp; omega)]
    rw [h4]
    show _ = outL L v
    rw [h1]
    show _ = outL (ltN L a ++ (eqN L a ++ gtN L a)) v
    rw [h3, h2, List.nil_append]

/-- From whom there are arcs to it. -/
def inF (L : List Ar) (v : Int) : List Int := (inL L v).map (·.f)
def RiseI (R : List Int) : Prop := R.Pairwise (· < ·)
def ltI (R : List Int) (x : Int) : List Int := R.filter fun b => decide (b < x)
def gtI (R : List Int) (x : Int) : List Int := R.filter fun b => decide (x < b)
def newI (R : List Int) (x : Int) : List Int := ltI R x ++ x :: gtI R x
def posI (R : List Int) (x : Int) : Nat := (ltI R x).length
theorem inF_rise {L : List Ar} (h : SortN L) (v : Int) : RiseI (inF L v) := by
  unfold RiseI inF
  rw [List.pairwise_map]
  unfold inL
  refine List.Pairwise.imp_of_mem (fun {a b} ha hb hab => ?_) (h.sub _)
  have h1 : a.t = v := by have := (List.mem_filter.1 ha).2; simpa using this
  have h2 : b.t = v := by have := (List.mem_filter.1 hb).2; simpa using this
  unfold keyLt at hab; omega
theorem mem_inF {L : List Ar} {v x : Int} : x ∈ inF L v ↔ ∃ b ∈ L, b.f = x ∧ b.t = v := by
  unfold inF
  rw [List.mem_map]
  constructor
  · rintro ⟨b, hb, rfl⟩; exact ⟨b, (mem_inL.1 hb).1, rfl, (mem_inL.1 hb).2⟩
  · rintro ⟨b, hb, rfl, ht⟩; exact ⟨b, mem_inL.2 ⟨hb, ht⟩, rfl⟩
theorem isR_mem {L : List Ar} {v x : Int} : isR (outL L v) x = true ↔ ∃ b ∈ L, b.f = v ∧ b.t = x := by
  unfold isR
  rw [List.any_eq_true]
  constructor
  · rintro ⟨b, hb, hx⟩; exact ⟨b, (mem_outL.1 hb).1, (mem_outL.1 hb).2, by simpa using hx⟩
  · rintro ⟨b, hb, hf, ht⟩; exact ⟨b, mem_outL.2 ⟨hb, hf⟩, by simpa using ht⟩
theorem splitI {R : List Int} (h : RiseI R) (x : Int) : (x ∈ R → R = newI R x) ∧ (x ∉ R → R = ltI R x ++ gtI R x) := by
  induction R with
  | nil => exact ⟨(fun h => absurd h (by simp)), fun _ => rfl⟩
  | cons b R ih =>
    obtain ⟨h1, h2⟩ := List.pairwise_cons.1 h
    obtain ⟨i1, i2⟩ := ih h2
    unfold newI ltI gtI at *
    by_cases c1 : b < x
    · rw [List.filter_cons_of_pos (by simpa using c1), List.filter_cons_of_neg (by simp; omega)]
      refine ⟨fun hm => ?_, fun hm => ?_⟩
      · rcases List.mem_cons.1 hm with e | hm
        · omega
        · rw [List.cons_append, ← i1 hm]
      · rw [List.cons_append, ← i2 (fun e => hm (List.mem_cons_of_mem _ e))]
    · have e1 : R.filter (fun b => decide (b < x)) = [] := List.filter_eq_nil_iff.2 fun y hy => by have := h1 y hy; simp; omega
      rw [List.filter_cons_of_neg (by simpa using c1), e1]
      rw [e1] at i1 i2
      by_cases c2 : b = x
      · subst c2
        rw [List.filter_cons_of_neg (by simp)]
        have hn : b ∉ R := fun e => by have := h1 b e; omega
        refine ⟨fun _ => ?_, fun hm => absurd List.mem_cons_self hm⟩
        have i3 := i2 hn
        rw [List.nil_append] at i3 ⊢
        exact congrArg (b :: ·) i3
      · rw [List.filter_cons_of_pos (by simp; omega)]
        have hn : x ∉ R := fun e => by have := h1 x e; omega
        refine ⟨fun hm => ?_, fun hm => ?_⟩
        · rcases List.mem_cons.1 hm with e | e
          · exact absurd e.symm c2
          · exact absurd e hn
        · have i3 := i2 hn
          rw [List.nil_append] at i3 ⊢
          exact congrArg (b :: ·) i3
theorem ltI_take {R : List Int} (h : RiseI R) (x : Int) : R.take (posI R x) = ltI R x := by
  obtain ⟨h1, h2⟩ := splitI h x
  by_cases hm : x ∈ R
  · have h3 : R.take (posI R x) = (newI R x).take (ltI R x).length := by unfold posI; rw [← h1 hm]
    rw [h3]; unfold newI; rw [List.take_left' rfl]
  · have h3 : R.take (posI R x) = (ltI R x ++ gtI R x).take (ltI R x).length := by unfold posI; rw [← h2 hm]
    rw [h3, List.take_left' rfl]
theorem newI_insert {R : List Int} (h : RiseI R) {x : Int} (hm : x ∉ R) : R.take (posI R x) ++ x :: R.drop (posI R x) = newI R x := by
  have h2 := (splitI h x).2 hm
  have h3 : R.drop (posI R x) = (ltI R x ++ gtI R x).drop (ltI R x).length := by unfold posI; rw [← h2]
  rw [ltI_take h, h3, List.drop_left' rfl]; rfl
theorem posI_at {R : List Int} (h : RiseI R) {x : Int} (hm : x ∈ R) : posI R x < R.length ∧ R[posI R x]? = some x := by
  have h1 := (splitI h x).1 hm
  have h3 : R[posI R x]? = (newI R x)[(ltI R x).length]? := by unfold posI; rw [← h1]
  have h4 : R[posI R x]? = some x := by rw [h3]; unfold newI; rw [List.getElem?_append_right (Nat.le_refl _), Nat.sub_self]; rfl
  refine ⟨?_, h4⟩
  rcases Nat.lt_or_ge (posI R x) R.length with g | g
  · exact g
  · rw [List.getElem?_eq_none g] at h4; cases h4
def delI (R : List Int) (x : Int) : List Int := R.filter fun b => decide (b ≠ x)
theorem drop_mid {α : Type} (A : List α) (x : α) (B : List α) : (A ++ x :: B).drop (A.length + 1) = B := by
  rw [show A ++ x :: B = (A ++ [x]) ++ B by simp, List.drop_left' (by simp)]
theorem filter_ne_I {R : List Int} (h : RiseI R) (x : Int) : delI R x = ltI R x ++ gtI R x := by
  induction R with
  | nil => rfl
  | cons b R ih =>
    obtain ⟨h1, h2⟩ := List.pairwise_cons.1 h
    have ih := ih h2
    unfold delI ltI gtI at *
    by_cases c1 : b < x
    · rw [List.filter_cons_of_pos (by simp; omega), List.filter_cons_of_pos (by simpa using c1), List.filter_cons_of_neg (by simp; omega), ih]; rfl
    · have e1 : R.filter (fun b => decide (b < x)) = [] := List.filter_eq_nil_iff.2 fun y hy => by have := h1 y hy; simp; omega
      rw [e1] at ih
      by_cases c2 : b = x
      · subst c2
        rw [List.filter_cons_of_neg (by simp), List.filter_cons_of_neg (by simp), List.filter_cons_of_neg (by simp), e1, ih]
      · rw [List.filter_cons_of_pos (by simpa using c2), List.filter_cons_of_neg (by simpa using c1), List.filter_cons_of_pos (by simp; omega), e1, ih]; rfl
theorem delI_cut {R : List Int} (h : RiseI R) {x : Int} (hm : x ∈ R) : R.take (posI R x) ++ R.drop (posI R x + 1) = delI R x := by
  have h1 := (splitI h x).1 hm
  have h3 : R.drop (posI R x + 1) = (newI R x).drop ((ltI R x).length + 1) := by unfold posI; rw [← h1]
  have h4 : (newI R x).drop ((ltI R x).length + 1) = gtI R x := drop_mid _ _ _
  rw [ltI_take h, h3, h4, filter_ne_I h]
theorem delI_none {R : List Int} {x : Int} (hm : x ∉ R) : delI R x = R := List.filter_eq_self.2 fun b hb => by simp; exact fun e => hm (e ▸ hb)
def delR (R : List Ar) (x : Int) : List Ar := R.filter fun b => decide (b.t ≠ x)
theorem filter_ne_R {R : List Ar} (h : RiseR R) (x : Int) : delR R x = ltR R x ++ gtR R x := by
  induction R with
  | nil => rfl
  | cons b R ih =>
    obtain ⟨h1, h2⟩ := List.pairwise_cons.1 h
    have ih := ih h2
    unfold delR ltR gtR at *
    by_cases c1 : b.t < x
    · rw [List.filter_cons_of_pos (by simp; omega), List.filter_cons_of_pos (by simpa using c1), List.filter_cons_of_neg (by simp; omega), ih]; rfl
    · have e1 : R.filter (fun b => decide (b.t < x)) = [] := List.filter_eq_nil_iff.2 fun y hy => by have := h1 y hy; simp; omega
      rw [e1] at ih
      by_cases c2 : b.t = x
      · rw [List.filter_cons_of_neg (by simp; exact c2), List.filter_cons_of_neg (by simpa using c1), List.filter_cons_of_neg (by simp; omega), e1, ih]
      · rw [List.filter_cons_of_pos (by simpa using c2), List.filter_cons_of_neg (by simpa using c1), List.filter_cons_of_pos (by simp; omega), e1, ih]; rfl
theorem delR_cut {R : List Ar} (h : RiseR R) {x : Int} (hi : isR R x = true) : R.take (posR R x) ++ R.drop (posR R x + 1) = delR R x := by
  obtain ⟨b, h1, _, _⟩ := isR_true h hi
  have h3 : R.drop (posR R x + 1) = (ltR R x ++ b :: gtR R x).drop ((ltR R x).length + 1) := by unfold posR; rw [← h1]
  rw [ltR_take h, h3, drop_mid, filter_ne_R h]
theorem delR_none {R : List Ar} {x : Int} (hi : isR R x = false) : delR R x = R := List.filter_eq_self.2 fun b hb => by
  simp
  intro e
  have : isR R x = true := List.any_eq_true.2 ⟨b, hb, by simpa using e⟩
  rw [this] at hi; cases hi
theorem RiseI.new {R : List Int} (h : RiseI R) (x : Int) : RiseI (newI R x) := by
  unfold newI RiseI
  rw [List.pairwise_append]
  refine ⟨List.Pairwise.filter _ h, List.pairwise_cons.2 ⟨fun b hb => ?_, List.Pairwise.filter _ h⟩, fun b hb c hc => ?_⟩
  · unfold gtI at hb; have := (List.mem_filter.1 hb).2; simpa using this
  · have hb' : b < x := by unfold ltI at hb; have := (List.mem_filter.1 hb).2; simpa using this
    rcases List.mem_cons.1 hc with rfl | hc
    · exact hb'
    · unfold gtI at hc; have := (List.mem_filter.1 hc).2; simp at this; omega
theorem inF_new {L : List Ar} (h : SortN L) (a : Ar) (v : Int) : inF (newN L a) v = if v = a.t then newI (inF L v) a.f else inF L v := by
  by_cases hv : v = a.t
  · rw [if_pos hv]
    subst hv
    have e1 : inL (newN L a) a.t = (inL L a.t).filter (fun b => decide (b.f < a.f)) ++ a :: (inL L a.t).filter (fun b => decide (a.f < b.f)) := by
      unfold inL newN ltN gtN
      rw [List.filter_append, List.filter_cons_of_pos (by simp), List.filter_filter, List.filter_filter, List.filter_filter, List.filter_filter]
      have e1 : ∀ b : Ar, (decide (b.t = a.t) && decide (keyLt b a)) = (decide (b.f < a.f) && decide (b.t = a.t)) := fun b => by
        by_cases c : b.t = a.t <;> simp [c, keyLt]
      have e2 : ∀ b : Ar, (decide (b.t = a.t) && decide (keyLt a b)) = (decide (a.f < b.f) && decide (b.t = a.t)) := fun b => by
        by_cases c : b.t = a.t <;> simp [c, keyLt]
      congr 1
      · exact congrArg (fun p => List.filter p L) (funext e1)
      · congr 1
        exact congrArg (fun p => List.filter p L) (funext e2)
    unfold inF newI ltI gtI
    rw [e1, List.map_append, List.map_cons, List.filter_map, List.filter_map]
    rfl
  · rw [if_neg hv]
    unfold inF
    congr 1
    have h1 := congrArg (fun l => inL l v) (split3 h a)
    have h2 : inL (eqN L a) v = [] := by
      unfold inL eqN
      rw [List.filter_filter, List.filter_eq_nil_iff]
      intro b hb; simp; omega
    have h3 : inL (ltN L a ++ (eqN L a ++ gtN L a)) v = inL (ltN L a) v ++ (inL (eqN L a) v ++ inL (gtN L a) v) := by unfold inL; rw [List.filter_append, List.filter_append]
    have h4 : inL (newN L a) v = inL (ltN L a) v ++ inL (gtN L a) v := by unfold inL newN; rw [List.filter_append, List.filter_cons_of_neg (by simp; omega)]
    rw [h4]
    show _ = inL L v
    rw [h1]
    show _ = inL (ltN L a ++ (eqN L a ++ gtN L a)) v
    rw [h3, h2, List.nil_append]
theorem outL_cut (L : List Ar) (v u : Int) : outL (cutN L v) u = if u = v then [] else delR (outL L u) v := by
  unfold outL cutN delR
  rw [List.filter_filter]
  by_cases h : u = v
  · rw [if_pos h, List.filter_eq_nil_iff]; intro b _; simp; omega
  · rw [if_neg h, List.filter_filter]
    refine congrArg (fun p => List.filter p L) (funext fun b => ?_)
    by_cases c : b.f = u
    · by_cases d : b.t = v <;> simp [c, d, h]
    · simp [c]
theorem inF_cut (L : List Ar) (v u : Int) : inF (cutN L v) u = if u = v then [] else delI (inF L u) v := by
  unfold inF inL cutN delI
  rw [List.filter_filter]
  by_cases h : u = v
  · rw [if_pos h, List.map_eq_nil_iff, List.filter_eq_nil_iff]; intro b _; simp; omega
  · rw [if_neg h, List.filter_map, List.filter_filter]
    refine congrArg (fun p => List.map (·.f) (List.filter p L)) (funext fun b => ?_)
    by_cases c : b.t = u
    · by_cases d : b.f = v <;> simp [c, d, h]
    · simp [c]
/-- All rows, one behind the other. -/
theorem outL_all {L : List Ar} (h : SortN L) : ∀ n : Nat, (∀ b ∈ L, 0 ≤ b.f ∧ b.f < (n : Int)) → (List.range n).flatMap (fun v : Nat => outL L (v : Int)) = L := by
  have key : ∀ n : Nat, (∀ b ∈ L, 0 ≤ b.f) → (List.range n).flatMap (fun v : Nat => outL L (v : Int)) = L.filter (fun b => decide (b.f < (n : Int))) := by
    intro n h0
    induction n with
    | zero =>
      have e : L.filter (fun b => decide (b.f < ((0 : Nat) : Int))) = [] := by
        rw [List.filter_eq_nil_iff]; intro b hb; have := h0 b hb; simp; omega
      rw [e]; rfl
    | succ n ih =>
      rw [List.range_succ, List.flatMap_append, ih]
      show _ ++ (outL L (n : Int) ++ []) = _
      rw [List.append_nil]
      clear ih
      induction L with
      | nil => rfl
      | cons b L ih2 =>
        obtain ⟨h1, h2⟩ := List.pairwise_cons.1 h
        have ih2 := ih2 h2 (fun b hb => h0 b (List.mem_cons_of_mem _ hb))
        unfold outL at *
        by_cases c : b.f < (n : Int)
        · rw [List.filter_cons_of_pos (by simpa using c), List.filter_cons_of_neg (by simp; omega), List.filter_cons_of_pos (by simp; omega), ← ih2]; rfl
        · have e1 : L.filter (fun b => decide (b.f < (n : Int))) = [] := List.filter_eq_nil_iff.2 fun y hy => by have := h1 y hy; unfold keyLt at this; simp; omega
          rw [e1, List.nil_append] at ih2
          rw [List.filter_cons_of_neg (by simpa using c), e1]
          by_cases d : b.f = (n : Int)
          · rw [List.filter_cons_of_pos (by simpa using d), List.filter_cons_of_pos (by simp; omega), List.nil_append, ih2]
          · rw [List.filter_cons_of_neg (by simpa using d), List.filter_cons_of_neg (by simp; omega), List.nil_append, ih2]
  intro n hb
  rw [key n (fun b hb2 => (hb b hb2).1), List.filter_eq_self]
  intro b hb2; simpa using (hb b hb2).2
theorem cutN_none {L : List Ar} {v : Int} (h : ∀ b ∈ L, b.f ≠ v ∧ b.t ≠ v) : cutN L v = L := List.filter_eq_self.2 fun b hb => by simpa using h b hb
/-- An arc that may be, among n numbers. -/
def mayA (n : Nat) (a : Ar) : Prop := 0 ≤ a.f ∧ a.f < (n : Int) ∧ 0 ≤ a.t ∧ a.t < (n : Int) ∧ a.f ≠ a.t ∧ 1 ≤ a.w ∧ a.w ≤ 1099511627776 ∧ (a.m = -1 ∨ (0 ≤ a.m ∧ a.m < (n : Int) ∧ a.m ≠ a.f ∧ a.m ≠ a.t))
instance (n : Nat) (a : Ar) : Decidable (mayA n a) := by unfold mayA; infer_instance
structure NetOk (n : Nat) (L : List Ar) : Prop where
  sort : SortN L
  may : ∀ b ∈ L, mayA n b
theorem NetOk.nil (n : Nat) : NetOk n [] := ⟨List.Pairwise.nil, fun b hb => by simp at hb⟩
/-- Is it put in? -/
def putB (L : List Ar) (a : Ar) : Bool := (eqN L a).all fun b => decide (a.w < b.w)
def putN (L : List Ar) (a : Ar) : List Ar := if putB L a then newN L a else L
theorem NetOk.put {n : Nat} {L : List Ar} (h : NetOk n L) {a : Ar} (ha : mayA n a) : NetOk n (putN L a) := by
  unfold putN
  split
  · refine ⟨h.sort.new a, fun b hb => ?_⟩
    rcases mem_newN.1 hb with rfl | ⟨hb, _⟩
    · exact ha
    · exact h.may b hb
  · exact h
theorem NetOk.cut {n : Nat} {L : List Ar} (h : NetOk n L) (v : Int) : NetOk n (cutN L v) := ⟨h.sort.cut v, fun b hb => h.may b (mem_cutN.1 hb).1⟩
end Mile
