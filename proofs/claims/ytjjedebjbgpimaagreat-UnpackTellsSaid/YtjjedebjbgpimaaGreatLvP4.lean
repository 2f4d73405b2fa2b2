/- Levels as plain lists: the net's own arcs, shortcuts and their halves. -/
import Derived.Test.YtjjedebjbgpimaaGreatLvP3
namespace Go.Proofs.YtjjedebjbgpimaaGreat
open Go.RowKit Mile
set_option maxRecDepth 100000
theorem putR_stay {n : Nat} {L : List Ar} {z a : Ar} (hz : z ∈ L) : z ∈ putR n L a ∨ (a ∈ putR n L a ∧ a.f = z.f ∧ a.t = z.t ∧ a.w < z.w) := by
  unfold putR putN
  by_cases hm : mayA n a
  · rw [if_pos hm]
    cases hb : putB L a with
    | true =>
      rw [if_pos rfl]
      by_cases he : z.f = a.f ∧ z.t = a.t
      · right
        have h1 : z ∈ eqN L a := mem_eqN.2 ⟨hz, he⟩
        unfold putB at hb
        have h2 := of_decide_eq_true (List.all_eq_true.1 hb z h1)
        exact ⟨mem_newN.2 (.inl rfl), he.1.symm, he.2.symm, h2⟩
      · left
        refine mem_newN.2 (.inr ⟨hz, ?_⟩)
        unfold keyLt; omega
    | false => rw [if_neg (by simp)]; exact .inl hz
  · rw [if_neg hm]; exact .inl hz
theorem putRs_own {n : Nat} {Q : Ar → Prop} (A : List Ar) : ∀ L, (∀ a ∈ A, ∀ z, Q z → a.f = z.f → a.t = z.t → a.w < z.w → Q a) → (∃ z ∈ L, Q z) → ∃ z ∈ A.foldl (putR n) L, Q z := by
  induction A with
  | nil => exact fun L _ h => h
  | cons a A ih =>
    rintro L hA ⟨z, hz, hq⟩
    refine ih _ (fun b hb => hA b (List.mem_cons_of_mem _ hb)) ?_
    rcases putR_stay (n := n) (a := a) hz with h | ⟨h, h1, h2, h3⟩
    · exact ⟨z, h, hq⟩
    · exact ⟨a, h, hA a List.mem_cons_self z hq h1 h2 h3⟩
section
variable {n : Nat} (P : List Ar → Nat → Int → List Int) {L : List Ar}
theorem bAt_own (k : Nat) {y : Ar} (hy : y ∈ L) : ∃ z ∈ (bAt n P L k).T, z.f = y.f ∧ z.t = y.t ∧ z.w ≤ y.w ∧ (z.m < 0 → z = y) := by
  induction k with
  | zero => exact ⟨y, hy, rfl, rfl, Int.le_refl _, fun _ => rfl⟩
  | succ k ih =>
    rw [bAt_T]
    refine putRs_own (Q := fun z => z.f = y.f ∧ z.t = y.t ∧ z.w ≤ y.w ∧ (z.m < 0 → z = y)) _ _ (fun a ha z hq h1 h2 h3 => ?_) ih
    obtain ⟨p, _, q, _, _, rfl⟩ := mem_scR.1 ha
    simp only at h1 h2 h3 ⊢
    exact ⟨by omega, by omega, by omega, fun h => by omega⟩
def HalfP (P : List Ar → Nat → Int → List Int) (n : Nat) (L T : List Ar) (k : Nat) (a : Ar) : Prop := a ∈ L ∨ ∃ j, j < k ∧ a.m = (bV n P L j : Int) ∧ (∃ p ∈ T, ∃ q ∈ T, p.f = a.f ∧ p.t = a.m ∧ q.f = a.m ∧ q.t = a.t ∧ p.w + q.w = a.w) ∧ ∀ v ∈ (bAt n P L (j + 1)).V, a.f ≠ (v : Int) ∧ a.t ≠ (v : Int)
theorem bAt_half (hok : NetOk n L) : ∀ k, k ≤ n → ∀ a ∈ (bAt n P L k).T, HalfP P n L (bAt n P L k).T k a := by
  intro k
  induction k with
  | zero => exact fun _ a ha => .inl ha
  | succ k ih =>
    intro hk a ha
    have h := bAt_ok P hok k (by omega)
    have hstay : ∀ x ∈ (bAt n P L k).T, (∃ v ∈ (bAt n P L (k + 1)).V, x.f = (v : Int) ∨ x.t = (v : Int)) → x ∈ (bAt n P L (k + 1)).T := fun x hx hv => by
      rw [mem_self, bAt_still P hok (by omega) hv, ← mem_self]; exact hx
    have hvk : bV n P L k ∈ (bAt n P L (k + 1)).V := by rw [bAt_V]; exact List.mem_append_right _ (by simp)
    have ha2 := ha
    rw [bAt_T] at ha2
    rcases mem_putRs _ _ _ ha2 with h1 | h1
    · rcases ih (by omega) a h1 with h2 | ⟨j, hj, hm, ⟨p, hp, q, hq, e1, e2, e3, e4, e5⟩, hout⟩
      · exact .inl h2
      · have hvj : bV n P L j ∈ (bAt n P L (k + 1)).V := bAt_pre P (j + 1) (k + 1) (by omega) _ (by rw [bAt_V]; exact List.mem_append_right _ (by simp))
        exact .inr ⟨j, by omega, hm, ⟨p, hstay p hp ⟨_, hvj, .inr (by rw [e2, hm])⟩, q, hstay q hq ⟨_, hvj, .inl (by rw [e3, hm])⟩, e1, e2, e3, e4, e5⟩, hout⟩
    · have hend := sc_ends P hok (k := k) (by omega) h1
      obtain ⟨p, hp, q, hq, _, rfl⟩ := mem_scR.1 h1
      obtain ⟨hp1, hp2⟩ := mem_inL.1 hp
      obtain ⟨hq1, hq2⟩ := mem_outL.1 hq
      have hT : ∀ x ∈ (bAt n P L k).C, x ∈ (bAt n P L k).T := fun x hx => by
        rw [mem_self, ← bAt_same P hok k (by omega) x (h.out x hx), ← mem_self]; exact hx
      exact .inr ⟨k, by omega, rfl, ⟨p, hstay p (hT p hp1) ⟨_, hvk, .inr hp2⟩, q, hstay q (hT q hq1) ⟨_, hvk, .inl hq2⟩, rfl, hp2, hq2, rfl, rfl⟩, hend⟩
end
end Go.Proofs.YtjjedebjbgpimaaGreat
