/- Heaps of numbers with keys, as lists: what rising and sinking come to; the sorted list that a heap stands for. -/
namespace Mile

abbrev It := Int × Int
def bef (x y : It) : Bool := decide (x.2 < y.2) || (decide (x.2 = y.2) && decide (x.1 < y.1))

theorem bef_iff (x y : It) : bef x y = true ↔ x.2 < y.2 ∨ (x.2 = y.2 ∧ x.1 < y.1) := by simp [bef]
theorem bef_not (x y : It) : bef x y = false ↔ y.2 < x.2 ∨ (x.2 = y.2 ∧ y.1 ≤ x.1) := by
  rw [← Bool.not_eq_true, bef_iff]; omega
theorem bef_irrefl (x : It) : bef x x = false := by rw [bef_not]; omega
theorem bef_asymm {x y : It} (h : bef x y = true) : bef y x = false := by rw [bef_iff] at h; rw [bef_not]; omega
theorem bef_trans {x y z : It} (h : bef x y = true) (k : bef y z = true) : bef x z = true := by rw [bef_iff] at *; omega
theorem nbef_trans {x y z : It} (h : bef x y = false) (k : bef y z = false) : bef x z = false := by rw [bef_not] at *; omega
theorem bef_of_not {x y : It} (h : bef x y = false) : x = y ∨ bef y x = true := by
  rw [bef_not] at h; rw [bef_iff]
  rcases h with h | h
  · exact .inr (.inl h)
  · by_cases e : x.1 = y.1
    · exact .inl (Prod.ext e h.1)
    · exact .inr (.inr ⟨h.1.symm, by omega⟩)

/-- The one at a place. -/
def g (l : List It) (i : Nat) : It := l.getD i (0, 0)
theorem g_eq (l : List It) (i : Nat) (h : i < l.length) : g l i = l[i] := by simp [g, List.getD, h]
theorem g_set (l : List It) (i : Nat) (x : It) (j : Nat) (h : i < l.length) : g (l.set i x) j = if j = i then x else g l j := by
  unfold g
  rw [List.getD, List.getD, List.getElem?_set]
  by_cases e : i = j
  · subst e; simp [h]
  · rw [if_neg e, if_neg (Ne.symm e)]

def HOrd (l : List It) : Prop := ∀ i, 0 < i → i < l.length → bef (g l i) (g l ((i - 1) / 2)) = false

/-- Ordered but for x, which stands at h and may be less than what is above. -/
def UpInv (l : List It) (h : Nat) (x : It) : Prop :=
  (∀ i, 0 < i → i < l.length → i ≠ h → bef (g (l.set h x) i) (g (l.set h x) ((i - 1) / 2)) = false) ∧
  (∀ c, 0 < c → c < l.length → (c - 1) / 2 = h → 0 < h → bef (g l c) (g l ((h - 1) / 2)) = false)
/-- Ordered but for x, which stands at h and may be greater than what is below. -/
def DownInv (l : List It) (h : Nat) (x : It) : Prop :=
  (∀ i, 0 < i → i < l.length → (i - 1) / 2 ≠ h → bef (g (l.set h x) i) (g (l.set h x) ((i - 1) / 2)) = false) ∧
  (∀ c, 0 < c → c < l.length → (c - 1) / 2 = h → 0 < h → bef (g l c) (g l ((h - 1) / 2)) = false)

theorem up_stop {l : List It} {h : Nat} {x : It} (hl : h < l.length) (hi : UpInv l h x) (hs : h = 0 ∨ bef x (g l ((h - 1) / 2)) = false) : HOrd (l.set h x) := by
  intro i h0 hil
  rw [List.length_set] at hil
  by_cases e : i = h
  · subst e
    rw [g_set l i x i hl, if_pos rfl, g_set l i x _ hl, if_neg (by omega)]
    rcases hs with hs | hs
    · omega
    · exact hs
  · exact hi.1 i h0 hil e

theorem up_step {l : List It} {h : Nat} {x : It} (hl : h < l.length) (h0 : 0 < h) (hi : UpInv l h x) (hb : bef x (g l ((h - 1) / 2)) = true) :
    UpInv (l.set h (g l ((h - 1) / 2))) ((h - 1) / 2) x := by
  obtain ⟨h1, h2⟩ := hi
  obtain ⟨u, hu⟩ : ∃ u, (h - 1) / 2 = u := ⟨_, rfl⟩
  rw [hu] at hb h2 ⊢
  have hul : u < l.length := by omega
  have huh : u ≠ h := by omega
  refine ⟨fun i i0 il iu => ?_, fun c c0 cl cu u0 => ?_⟩
  · rw [List.length_set] at il
    have hlen : u < (l.set h (g l u)).length := by rw [List.length_set]; exact hul
    rw [g_set _ u x i hlen, g_set _ u x _ hlen, if_neg iu, g_set l h _ i hl, g_set l h _ _ hl]
    by_cases e : i = h
    · subst e
      rw [if_pos rfl, if_pos hu]
      exact bef_asymm hb
    · rw [if_neg e]
      by_cases e2 : (i - 1) / 2 = u
      · rw [if_pos e2]
        have := h1 i i0 il e
        rw [g_set l h x i hl, g_set l h x _ hl, if_neg e, e2, if_neg huh] at this
        cases hx : bef (g l i) x with
        | false => rfl
        | true => rw [bef_trans hx hb] at this; cases this
      · rw [if_neg e2]
        by_cases e3 : (i - 1) / 2 = h
        · rw [if_pos e3]
          exact h2 i i0 il e3 h0
        · rw [if_neg e3]
          have := h1 i i0 il e
          rw [g_set l h x i hl, g_set l h x _ hl, if_neg e, if_neg e3] at this
          exact this
  · rw [List.length_set] at cl
    rw [g_set l h _ c hl, g_set l h _ _ hl, if_neg (by omega : (u - 1) / 2 ≠ h)]
    have hup := h1 u u0 hul huh
    rw [g_set l h x u hl, g_set l h x _ hl, if_neg huh, if_neg (by omega)] at hup
    by_cases e : c = h
    · rw [if_pos e]; exact hup
    · rw [if_neg e]
      have := h1 c c0 cl e
      rw [g_set l h x c hl, g_set l h x _ hl, if_neg e, cu, if_neg huh] at this
      exact nbef_trans this hup

theorem down_stop {l : List It} {h : Nat} {x : It} (hl : h < l.length) (hi : DownInv l h x) (hs : ∀ c, 0 < c → c < l.length → (c - 1) / 2 = h → bef (g l c) x = false) : HOrd (l.set h x) := by
  intro i h0 hil
  rw [List.length_set] at hil
  by_cases e : (i - 1) / 2 = h
  · rw [e, g_set l h x i hl, g_set l h x h hl, if_pos rfl, if_neg (by omega)]
    exact hs i h0 hil e
  · exact hi.1 i h0 hil e

theorem down_step {l : List It} {h d : Nat} {x : It} (hl : h < l.length) (hd : d < l.length) (d0 : 0 < d) (hdh : (d - 1) / 2 = h) (hi : DownInv l h x) (hb : bef (g l d) x = true)
    (hs : ∀ c, 0 < c → c < l.length → (c - 1) / 2 = h → bef (g l c) (g l d) = false) : DownInv (l.set h (g l d)) d x := by
  obtain ⟨h1, h2⟩ := hi
  have hne : d ≠ h := by omega
  refine ⟨fun i i0 il id => ?_, fun c c0 cl cd _ => ?_⟩
  · rw [List.length_set] at il
    have hlen : d < (l.set h (g l d)).length := by rw [List.length_set]; exact hd
    rw [g_set _ d x i hlen, g_set _ d x _ hlen, if_neg id, g_set l h _ i hl, g_set l h _ _ hl]
    by_cases e : i = d
    · subst e
      rw [if_pos rfl, if_pos hdh]
      exact bef_asymm hb
    · rw [if_neg e]
      by_cases e2 : (i - 1) / 2 = h
      · rw [if_pos e2, if_neg (by omega)]
        exact hs i i0 il e2
      · rw [if_neg e2]
        by_cases e3 : i = h
        · rw [if_pos e3]
          subst e3
          exact h2 d d0 hd hdh i0
        · rw [if_neg e3]
          have := h1 i i0 il e2
          rw [g_set l h x i hl, g_set l h x _ hl, if_neg e3, if_neg e2] at this
          exact this
  · rw [List.length_set] at cl
    rw [hdh, g_set l h _ c hl, g_set l h _ _ hl, if_pos rfl, if_neg (by omega)]
    have := h1 c c0 cl (by omega)
    rw [g_set l h x c hl, g_set l h x _ hl, if_neg (by omega), cd, if_neg hne] at this
    exact this

theorem hole_perm (l : List It) (h d : Nat) (x : It) (hl : h < l.length) (hd : d < l.length) (hne : d ≠ h) : ((l.set h (g l d)).set d x).Perm (l.set h x) := by
  have e : (l.set h (g l d)).set d x = ((l.set h x).set h (g l d)).set d x := by rw [List.set_set]
  have e1 : (l.set h x)[d]'(by simpa using hd) = g l d := by rw [List.getElem_set_ne (Ne.symm hne), g_eq]
  have e2 : (l.set h x)[h]'(by simpa using hl) = x := by simp
  have := List.set_set_perm (as := l.set h x) (i := h) (j := d) (by simpa using hl) (by simpa using hd)
  rw [e1, e2] at this
  rw [e]; exact this

/-! the map of places -/
/-- Every number but x's is where the map says; no other is in the map, but x's, perhaps. -/
def Good (f : Int → Option Int) (l : List It) (h : Nat) (x : It) : Prop := ∀ k, k ≠ x.1 → ∀ j, f k = some j ↔ ∃ i : Nat, j = i ∧ i < l.length ∧ i ≠ h ∧ (g l i).1 = k
def Full (f : Int → Option Int) (l : List It) : Prop := ∀ k j, f k = some j ↔ ∃ i : Nat, j = i ∧ i < l.length ∧ (g l i).1 = k
def updf (f : Int → Option Int) (k : Int) (c : Int) : Int → Option Int := fun j => if j = k then some c else f j

theorem Good.step {f : Int → Option Int} {l : List It} {h d : Nat} {x : It} (hl : h < l.length) (hd : d < l.length) (hne : d ≠ h) (hG : Good f l h x) (hdx : (g l d).1 ≠ x.1) : Good (updf f (g l d).1 h) (l.set h (g l d)) d x := by
  intro k hk j
  rw [List.length_set]
  by_cases e : k = (g l d).1
  · subst e
    simp only [updf, if_true]
    constructor
    · intro hj
      cases hj
      exact ⟨h, rfl, hl, Ne.symm hne, by rw [g_set l h _ h hl, if_pos rfl]⟩
    · rintro ⟨i, rfl, il, id, hi⟩
      rw [g_set l h _ i hl] at hi
      by_cases e2 : i = h
      · rw [e2]
      · rw [if_neg e2] at hi
        have h1 := (hG _ hk (i : Int)).2 ⟨i, rfl, il, e2, hi⟩
        have h2 := (hG _ hk (d : Int)).2 ⟨d, rfl, hd, hne, rfl⟩
        rw [h1] at h2
        have : (i : Int) = (d : Int) := Option.some.inj h2
        omega
  · simp only [updf, if_neg e]
    rw [hG k hk j]
    constructor
    · rintro ⟨i, rfl, il, ih, hi⟩
      exact ⟨i, rfl, il, fun e2 => e (by rw [← hi, e2]), by rw [g_set l h _ i hl, if_neg ih]; exact hi⟩
    · rintro ⟨i, rfl, il, id, hi⟩
      rw [g_set l h _ i hl] at hi
      by_cases e2 : i = h
      · rw [if_pos e2] at hi; exact absurd hi.symm e
      · rw [if_neg e2] at hi; exact ⟨i, rfl, il, e2, hi⟩

theorem Good.done {f : Int → Option Int} {l : List It} {h : Nat} {x : It} (hl : h < l.length) (hG : Good f l h x) (hx : ∀ i, i < l.length → i ≠ h → (g l i).1 ≠ x.1) : Full (updf f x.1 h) (l.set h x) := by
  intro k j
  rw [List.length_set]
  by_cases e : k = x.1
  · subst e
    simp only [updf, if_true]
    constructor
    · intro hj; cases hj
      exact ⟨h, rfl, hl, by rw [g_set l h _ h hl, if_pos rfl]⟩
    · rintro ⟨i, rfl, il, hi⟩
      rw [g_set l h _ i hl] at hi
      by_cases e2 : i = h
      · rw [e2]
      · rw [if_neg e2] at hi; exact absurd hi (hx i il e2)
  · simp only [updf, if_neg e]
    rw [hG k e j]
    constructor
    · rintro ⟨i, rfl, il, ih, hi⟩
      exact ⟨i, rfl, il, by rw [g_set l h _ i hl, if_neg ih]; exact hi⟩
    · rintro ⟨i, rfl, il, hi⟩
      rw [g_set l h _ i hl] at hi
      by_cases e2 : i = h
      · rw [if_pos e2] at hi; exact absurd hi.symm e
      · rw [if_neg e2] at hi; exact ⟨i, rfl, il, e2, hi⟩

theorem Good.keys {f : Int → Option Int} {l : List It} {h : Nat} {x : It} (hG : Good f l h x) : ∀ k, f k ≠ none → k ∈ x.1 :: l.map (·.1) := by
  intro k hk
  by_cases e : k = x.1
  · rw [e]; simp
  · obtain ⟨j, hj⟩ := Option.ne_none_iff_exists'.1 hk
    obtain ⟨i, _, il, _, hi⟩ := (hG k e j).1 hj
    rw [g_eq l i il] at hi
    rw [List.mem_cons, List.mem_map]
    exact .inr ⟨l[i], List.getElem_mem il, hi⟩
end Mile
