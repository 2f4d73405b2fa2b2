/- Levels as plain lists: the net's own arcs, shortcuts and their halves. -/
import Derived.Test.YtjjedebjbgpimaaGreatLvP3
namespace Go.Proofs.YtjjedebjbgpimaaGreat
open Go.RowKit Mile
set_option maxRecDepth 100000
theorem putR_stay {n : Nat} {L : List Ar} {z a : Ar} (hz : z ∈ L) : z ∈ putR n L a ∨ (a ∈ putR n L a ∧ a.f = z.f ∧ a.t = z.t ∧ a.w < z.w) := by
  unfold putR putN
  by_cases hm : mayA n a
  · rw [if_pos hm]
    cases hb : putB L a with
    | true =>
      rw [if_pos rfl]
      by_cases he : z.f = a.f ∧ z.t = a.t
      · right
        have h1 : z ∈ eqN L a := mem_eqN.2 ⟨hz, he⟩
        unfold putB at hb
        have h2 := of_decide_eq_true (List.all_eq_true.1 hb z h1)
        exact ⟨mem_newN.2 (.inl rfl), he.1.symm, he.2.symm, h2⟩
      · left
        refine mem_newN.2 (.inr ⟨hz, ?_⟩)
        unfold keyLt; omega
    | false => rw [if_neg (by simp)]; exact .inl hz
  · rw [if_neg hm]; exact .inl hz
theorem putRs_own {n : Nat} {Q : Ar → Prop} (A : List Ar) : ∀ L, (∀ a ∈ A, ∀ z, Q z → a.f = z.f → a.t = z.t → a.w < z.w → Q a) → (∃ z ∈ L, Q z) → ∃ z ∈ A.foldl (putR n) L, Q z := by
  induction A with
  | nil => exact fun L _ h => h
  | cons a A ih =>
    rintro L hA ⟨z, hz, hq⟩
    refine ih _ (fun b hb => hA b (List.mem_cons_of_mem _ hb)) ?_
    rcases putR_stay (n := n) (a := a) hz with h | ⟨h, h1, h2, h3⟩
    · exact ⟨z, h, hq⟩
    · exact ⟨a, h, hA a List.mem_cons_self z hq h1 h2 h3⟩
section
variable {n : Nat} (P : List Ar → Nat → Int → List Int) {L : List Ar}
/-- All arcs of the net are there, or lighter ones that have a Mid. -/
theorem bAt_own (k : Nat) {y : Ar} (hy : y ∈ L) : ∃ z ∈ (bAt n P L k).T, z.f = y.f ∧ z.t = y.t ∧ z.w ≤ y.w ∧ (z.m < 0 → z = y) := by
  induction k with
  | zero => exact ⟨y, hy, rfl, rfl, Int.le_refl _, fun _ => rfl⟩
  | succ k ih =>
    rw [bAt_T]
    refine putRs_own (Q := fun z => z.f = y.f ∧ z.t = y.t ∧ z.w ≤ y.w ∧ (z.m < 0 → z = y)) _ _ (fun a ha z hq h1 h2 h3 => ?_) ih
    obtain ⟨p, _, q, _, _, rfl⟩ := mem_scR.1 ha
    simp only at h1 h2 h3 ⊢
    exact ⟨by omega, by omega, by omega, fun h => by omega⟩
theorem bAt_two (k : Nat) {x y : Ar} (hx : x ∈ L) (hy : y ∈ L) (hne : ¬ (x.f = y.f ∧ x.t = y.t)) : 2 ≤ (bAt n P L k).T.length := by
  obtain ⟨z, hz, h1, h2, _⟩ := bAt_own (n := n) P k hx
  obtain ⟨u, hu, g1, g2, _⟩ := bAt_own (n := n) P k hy
  generalize (bAt n P L k).T = T at *
  match T, hz, hu with
  | [], hz, _ => cases hz
  | [t], hz, hu =>
    rw [List.mem_singleton] at hz hu
    subst hz; subst hu
    exact absurd ⟨by omega, by omega⟩ hne
  | a :: b :: T, _, _ => simp only [List.length_cons]; omega
/-- Each arc is the net's own, or a shortcut over one that was taken out, as heavy as its halves. -/
def HalfP (P : List Ar → Nat → Int → List Int) (n : Nat) (L T : List Ar) (k : Nat) (a : Ar) : Prop := a ∈ L ∨ ∃ j, j < k ∧ a.m = (bV n P L j : Int) ∧ (∃ p ∈ T, ∃ q ∈ T, p.f = a.f ∧ p.t = a.m ∧ q.f = a.m ∧ q.t = a.t ∧ p.w + q.w = a.w) ∧ ∀ v ∈ (bAt n P L (j + 1)).V, a.f ≠ (v : Int) ∧ a.t ≠ (v : Int)
theorem bAt_half (hok : NetOk n L) : ∀ k, k ≤ n → ∀ a ∈ (bAt n P L k).T, HalfP P n L (bAt n P L k).T k a := by
  intro k
  induction k with
  | zero => exact fun _ a ha => .inl ha
  | succ k ih =>
    intro hk a ha
    have h := bAt_ok P hok k (by omega)
    have hstay : ∀ x ∈ (bAt n P L k).T, (∃ v ∈ (bAt n P L (k + 1)).V, x.f = (v : Int) ∨ x.t = (v : Int)) → x ∈ (bAt n P L (k + 1)).T := fun x hx hv => by
      rw [mem_self, bAt_still P hok (by omega) hv, ← mem_self]; exact hx
    have hvk : bV n P L k ∈ (bAt n P L (k + 1)).V := by rw [bAt_V]; exact List.mem_append_right _ (by simp)
    have ha2 := ha
    rw [bAt_T] at ha2
    rcases mem_putRs _ _ _ ha2 with h1 | h1
    · rcases ih (by omega) a h1 with h2 | ⟨j, hj, hm, ⟨p, hp, q, hq, e1, e2, e3, e4, e5⟩, hout⟩
      · exact .inl h2
      · have hvj : bV n P L j ∈ (bAt n P L (k + 1)).V := bAt_pre P (j + 1) (k + 1) (by omega) _ (by rw [bAt_V]; exact List.mem_append_right _ (by simp))
        exact .inr ⟨j, by omega, hm, ⟨p, hstay p hp ⟨_, hvj, .inr (by rw [e2, hm])⟩, q, hstay q hq ⟨_, hvj, .inl (by rw [e3, hm])⟩, e1, e2, e3, e4, e5⟩, hout⟩
    · have hend := sc_ends P hok (k := k) (by omega) h1
      obtain ⟨p, hp, q, hq, _, rfl⟩ := mem_scR.1 h1
      obtain ⟨hp1, hp2⟩ := mem_inL.1 hp
      obtain ⟨hq1, hq2⟩ := mem_outL.1 hq
      have hT : ∀ x ∈ (bAt n P L k).C, x ∈ (bAt n P L k).T := fun x hx => by
        rw [mem_self, ← bAt_same P hok k (by omega) x (h.out x hx), ← mem_self]; exact hx
      exact .inr ⟨k, by omega, rfl, ⟨p, hstay p (hT p hp1) ⟨_, hvk, .inr hp2⟩, q, hstay q (hT q hq1) ⟨_, hvk, .inl hq2⟩, rfl, hp2, hq2, rfl, rfl⟩, hend⟩
end
theorem count_one (n : Nat) (g : Ar → Nat) : ∀ (T : List Ar), (∀ a ∈ T, g a < n) → ((List.range n).map fun v => (T.filter fun a => decide (g a = v)).length).sum = T.length := by
  intro T
  induction T with
  | nil =>
    intro _
    have : ∀ m, ((List.range m).map fun v => (([] : List Ar).filter fun a => decide (g a = v)).length).sum = 0 := fun m => by
      induction m with
      | zero => rfl
      | succ m ih => rw [List.range_succ, List.map_append, List.sum_append, ih]; rfl
    exact this n
  | cons a T ih =>
    intro h
    have h1 := ih (fun b hb => h b (List.mem_cons_of_mem _ hb))
    have h2 := h a List.mem_cons_self
    have key : ∀ m, ((List.range m).map fun v => ((a :: T).filter fun b => decide (g b = v)).length).sum = ((List.range m).map fun v => (T.filter fun b => decide (g b = v)).length).sum + if g a < m then 1 else 0 := fun m => by
      induction m with
      | zero => simp
      | succ m ih2 =>
        rw [List.range_succ, List.map_append, List.map_append, List.sum_append, List.sum_append, ih2]
        by_cases c : g a = m
        · have e : ((a :: T).filter fun b => decide (g b = m)).length = (T.filter fun b => decide (g b = m)).length + 1 := by
            rw [List.filter_cons_of_pos (by simpa using c)]; rfl
          simp only [List.map_cons, List.map_nil, List.sum_cons, List.sum_nil, e]
          rw [if_neg (by omega), if_pos (by omega)]
          omega
        · have e : ((a :: T).filter fun b => decide (g b = m)).length = (T.filter fun b => decide (g b = m)).length := by
            rw [List.filter_cons_of_neg (by simpa using c)]
          simp only [List.map_cons, List.map_nil, List.sum_cons, List.sum_nil, e]
          by_cases c2 : g a < m
          · rw [if_pos c2, if_pos (by omega)]; omega
          · rw [if_neg c2, if_neg (by omega)]; omega
    rw [key n, h1, if_pos h2]
    rfl
/-- How many go up from, and down to, the first ones. -/
def udN (n : Nat) (T : List Ar) (V : List Nat) (k : Nat) : Nat := ((List.range k).map fun v : Nat => (upV n T V (v : Int)).length + (downV n T V (v : Int)).length).sum
theorem udN_succ (n : Nat) (T : List Ar) (V : List Nat) (k : Nat) : udN n T V (k + 1) = udN n T V k + ((upV n T V (k : Int)).length + (downV n T V (k : Int)).length) := by
  unfold udN
  rw [List.range_succ, List.map_append, List.sum_append]
  simp
theorem udN_all {n : Nat} {T : List Ar} {V : List Nat} (hok : NetOk n T) (hV : V.Nodup) (hall : ∀ v, v < n → v ∈ V) : udN n T V n = T.length := by
  have hinj : ∀ a ∈ T, rankV n V a.t ≠ rankV n V a.f := fun a ha e => by
    have hm := hok.may a ha
    unfold mayA at hm
    obtain ⟨u, hu⟩ : ∃ u : Nat, a.t = (u : Int) := ⟨a.t.toNat, by omega⟩
    obtain ⟨x, hx⟩ : ∃ x : Nat, a.f = (x : Int) := ⟨a.f.toNat, by omega⟩
    rw [hu, hx, rankV_in (by omega) (hall u (by omega)), rankV_in (by omega) (hall x (by omega))] at e
    have h1 := List.getElem_idxOf (List.idxOf_lt_length_of_mem (hall u (by omega)))
    have h2 := List.getElem_idxOf (List.idxOf_lt_length_of_mem (hall x (by omega)))
    have h3 : V.idxOf u = V.idxOf x := by omega
    simp only [h3] at h1
    rw [h1] at h2
    omega
  let g : Ar → Nat := fun a => if rankV n V a.t ≤ rankV n V a.f then a.t.toNat else a.f.toNat
  have hg : ∀ a ∈ T, g a < n := fun a ha => by
    have hm := hok.may a ha
    unfold mayA at hm
    show (if rankV n V a.t ≤ rankV n V a.f then a.t.toNat else a.f.toNat) < n
    split <;> omega
  rw [← count_one n g T hg]
  unfold udN
  refine congrArg List.sum (List.map_congr_left fun v hv => ?_)
  have hvn := List.mem_range.1 hv
  have key : ∀ l : List Ar, (∀ a ∈ l, a ∈ T) → (keptG (fun a => decide (rankV n V a.t ≤ rankV n V (v : Int))) (outL l (v : Int))).length + (keptG (fun a => decide (rankV n V a.f ≤ rankV n V (v : Int))) (inL l (v : Int))).length = (l.filter fun a => decide (g a = v)).length := by
    intro l
    induction l with
    | nil => exact fun _ => rfl
    | cons a l ih =>
      intro hl
      have h1 := ih (fun b hb => hl b (List.mem_cons_of_mem _ hb))
      have hm := hok.may a (hl a List.mem_cons_self)
      have hi := hinj a (hl a List.mem_cons_self)
      unfold mayA at hm
      unfold keptG outL inL at h1 ⊢
      have hgv : g a = v ↔ (a.f = (v : Int) ∧ ¬ rankV n V a.t ≤ rankV n V (v : Int)) ∨ (a.t = (v : Int) ∧ ¬ rankV n V a.f ≤ rankV n V (v : Int)) := by
        show (if rankV n V a.t ≤ rankV n V a.f then a.t.toNat else a.f.toNat) = v ↔ _
        by_cases c : rankV n V a.t ≤ rankV n V a.f
        · rw [if_pos c]
          constructor
          · intro h
            have : a.t = (v : Int) := by omega
            rw [← this]
            exact .inr ⟨rfl, by omega⟩
          · rintro (⟨h2, h3⟩ | ⟨h2, h3⟩)
            · rw [← h2] at h3; exact absurd c h3
            · omega
        · rw [if_neg c]
          constructor
          · intro h
            have : a.f = (v : Int) := by omega
            rw [← this]
            exact .inl ⟨rfl, c⟩
          · rintro (⟨h2, h3⟩ | ⟨h2, h3⟩)
            · omega
            · rw [← h2] at h3; omega
      by_cases cf : a.f = (v : Int)
      · have ct : ¬ a.t = (v : Int) := by omega
        rw [List.filter_cons_of_pos (p := fun b : Ar => decide (b.f = (v : Int))) (by simpa using cf), List.filter_cons_of_neg (p := fun b : Ar => decide (b.t = (v : Int))) (by simpa using ct)]
        by_cases c : rankV n V a.t ≤ rankV n V (v : Int)
        · rw [List.filter_cons_of_neg (by simpa using c), List.filter_cons_of_neg (p := fun a => decide (g a = v)) (by simp only [decide_eq_true_eq]; rw [hgv]; omega)]
          exact h1
        · rw [List.filter_cons_of_pos (by simpa using c), List.filter_cons_of_pos (p := fun a => decide (g a = v)) (by simp only [decide_eq_true_eq]; rw [hgv]; omega), List.length_cons, List.length_cons, ← h1]
          omega
      · rw [List.filter_cons_of_neg (p := fun b : Ar => decide (b.f = (v : Int))) (by simpa using cf)]
        by_cases ct : a.t = (v : Int)
        · rw [List.filter_cons_of_pos (p := fun b : Ar => decide (b.t = (v : Int))) (by simpa using ct)]
          by_cases c : rankV n V a.f ≤ rankV n V (v : Int)
          · rw [List.filter_cons_of_neg (by simpa using c), List.filter_cons_of_neg (p := fun a => decide (g a = v)) (by simp only [decide_eq_true_eq]; rw [hgv]; omega)]
            exact h1
          · rw [List.filter_cons_of_pos (by simpa using c), List.filter_cons_of_pos (p := fun a => decide (g a = v)) (by simp only [decide_eq_true_eq]; rw [hgv]; omega), List.length_cons, List.length_cons, ← h1]
            omega
        · rw [List.filter_cons_of_neg (p := fun b : Ar => decide (b.t = (v : Int))) (by simpa using ct), List.filter_cons_of_neg (p := fun a => decide (g a = v)) (by simp only [decide_eq_true_eq]; rw [hgv]; omega)]
          exact h1
  exact key T (fun _ h => h)
end Go.Proofs.YtjjedebjbgpimaaGreat
