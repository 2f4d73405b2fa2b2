/- slices.DeleteFunc, as lists; clear. -/
import Derived.Test.YtbjdjafkpldbnaaEv
import Derived.Lib.SliceRun
import Derived.Lib.Hide
namespace Mile
open Go Go.RowKit
/-- What stays. -/
def kept (p : Int → Bool) (xs : List Int) : List Int := xs.filter (fun x => !p x)
/-- Behind J of the row: those that stay stand ahead, the rest stands as it was. -/
def DelI (p : Int → Bool) (xs ys : List Int) (I J : Nat) : Prop := ys.length = xs.length ∧ J ≤ xs.length ∧ I < J ∧ I = (kept p (xs.take J)).length ∧ ys.take I = kept p (xs.take J) ∧ ys.drop J = xs.drop J
theorem kept_snoc (p : Int → Bool) (xs : List Int) (J : Nat) (h : J < xs.length) : kept p (xs.take (J + 1)) = kept p (xs.take J) ++ if p xs[J] then [] else [xs[J]] := by
  unfold kept
  rw [List.take_succ_eq_append_getElem h, List.filter_append]
  congr 1
  cases hp : p xs[J] <;> simp [hp]
theorem delI_start {p : Int → Bool} {xs : List Int} {k : Nat} (h : k < xs.length) (hp : p xs[k] = true) (ha : ∀ x ∈ xs.take k, p x = false) : DelI p xs xs k (k + 1) := by
  have h0 : kept p (xs.take k) = xs.take k := by unfold kept; rw [List.filter_eq_self]; intro x hx; simp [ha x hx]
  have h1 : kept p (xs.take (k + 1)) = xs.take k := by rw [kept_snoc p xs k h, h0]; simp [hp]
  exact ⟨rfl, h, by omega, by rw [h1, List.length_take]; omega, h1.symm, rfl⟩
theorem delI_at {p : Int → Bool} {xs ys : List Int} {I J : Nat} (h : DelI p xs ys I J) (hJ : J < xs.length) : ∃ hy : J < ys.length, ys[J] = xs[J] := by
  obtain ⟨h1, _, _, _, _, h6⟩ := h
  refine ⟨by omega, ?_⟩
  have e : (ys.drop J)[0]? = (xs.drop J)[0]? := by rw [h6]
  rw [List.getElem?_drop, List.getElem?_drop, Nat.add_zero] at e
  rw [List.getElem?_eq_getElem (by omega), List.getElem?_eq_getElem hJ] at e
  exact Option.some.inj e
theorem delI_skip {p : Int → Bool} {xs ys : List Int} {I J : Nat} (h : DelI p xs ys I J) (hJ : J < xs.length) (hp : p xs[J] = true) : DelI p xs ys I (J + 1) := by
  obtain ⟨h1, h2, h3, h4, h5, h6⟩ := h
  have hk : kept p (xs.take (J + 1)) = kept p (xs.take J) := by rw [kept_snoc p xs J hJ]; simp [hp]
  refine ⟨h1, hJ, by omega, by rw [hk]; exact h4, by rw [hk]; exact h5, ?_⟩
  have : (ys.drop J).drop 1 = (xs.drop J).drop 1 := by rw [h6]
  simpa [List.drop_drop, Nat.add_comm] using this
theorem delI_keep {p : Int → Bool} {xs ys : List Int} {I J : Nat} (h : DelI p xs ys I J) (hJ : J < xs.length) (hp : p xs[J] = false) : DelI p xs (ys.set I xs[J]) (I + 1) (J + 1) := by
  obtain ⟨h1, h2, h3, h4, h5, h6⟩ := h
  have hk : kept p (xs.take (J + 1)) = kept p (xs.take J) ++ [xs[J]] := by rw [kept_snoc p xs J hJ]; simp [hp]
  refine ⟨by simpa using h1, hJ, by omega, by rw [hk, List.length_append]; simp; exact h4, ?_, ?_⟩
  · rw [hk, ← h5, List.take_succ_eq_append_getElem (by simp; omega)]
    congr 1
    · rw [List.take_set_of_le (by omega)]
    · simp
  · rw [List.drop_set_of_lt (by omega)]
    have : (ys.drop J).drop 1 = (xs.drop J).drop 1 := by rw [h6]
    simpa [List.drop_drop, Nat.add_comm] using this
theorem delI_end {p : Int → Bool} {xs ys : List Int} {I : Nat} (h : DelI p xs ys I xs.length) : ys.take I = kept p xs ∧ I = (kept p xs).length ∧ I < xs.length := by
  obtain ⟨_, _, h3, h4, h5, _⟩ := h
  rw [List.take_length] at h4 h5
  exact ⟨h5, h4, h3⟩
theorem kept_none {p : Int → Bool} {xs : List Int} (h : ∀ x ∈ xs, p x = false) : kept p xs = xs := by unfold kept; rw [List.filter_eq_self]; intro x hx; simp [h x hx]
theorem Mod.setCells {b : Nat} : ∀ (vs : List Value) (o : Nat) (w : World), Mod (fun k => k = b) w (w.setCells b o vs)
  | [], _, w => Mod.refl _ w
  | v :: r, o, w => (Mod.setCell (F := fun k => k = b) w ⟨b, o, none⟩ v rfl).trans (Mod.setCells r (o + 1) _) (fun _ _ e => e) (fun _ _ e => e)
theorem rd_cleared {w : World} {base : Nat} {e : TypeId} {g n c I : Nat} {ys : List Int} {vs : List Value} (ho : w.ownsRow base e 1 (.slice (some ⟨g, 0, none⟩) n c) n (ys.map (Value.int .i64))) (hI : I ≤ n) :
    Rd (w.setCells g I vs) 1 (.slice (some ⟨g, 0, none⟩) I c) I ((ys.take I).map (Value.int .i64)) := by
  have hr := Rd.ofOwn ho
  have ht := hr.take hI
  obtain ⟨hl, a, c', he, h1, h2, h3, h4⟩ := ht
  cases he
  have hyl : ys.length = n := by have := ho.1; simpa using this
  refine ⟨by simp; omega, _, c, rfl, h1, h2, (fun h => by cases h), fun ad had => ?_⟩
  cases had
  refine ⟨fun _ => rfl, fun j u hj => ?_⟩
  have hjI : j < I := by
    rcases Nat.lt_or_ge j I with h | h
    · exact h
    · rw [List.getElem?_eq_none (by simp; omega)] at hj; cases hj
  rw [Addr.add_lit, World.cell?_setCells_out _ _ _ _ _ (fun _ _ => .inl (by show 0 + j < I; omega))]
  have := (h4 _ rfl).2 j u (by rw [← List.map_take]; simpa using hj)
  rwa [Addr.add_lit] at this
end Mile
