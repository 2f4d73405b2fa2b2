/- slices.DeleteFunc at rows of arcs, as lists; clear of several. -/
import Derived.Test.YtjjedebjbgpimaaGreatNet7
import Derived.Lib.SliceRun
import Derived.Lib.Hide
namespace Mile
open Go Go.RowKit
/-- What stays. -/
def keptG {α : Type} (p : α → Bool) (xs : List α) : List α := xs.filter (fun x => !p x)
/-- Behind J of the row: those that stay stand ahead, the rest stands as it was. -/
def DelG {α : Type} (p : α → Bool) (xs ys : List α) (I J : Nat) : Prop := ys.length = xs.length ∧ J ≤ xs.length ∧ I < J ∧ I = (keptG p (xs.take J)).length ∧ ys.take I = keptG p (xs.take J) ∧ ys.drop J = xs.drop J
section
variable {α : Type}
theorem keptG_snoc (p : α → Bool) (xs : List α) (J : Nat) (h : J < xs.length) : keptG p (xs.take (J + 1)) = keptG p (xs.take J) ++ if p xs[J] then [] else [xs[J]] := by
  unfold keptG
  rw [List.take_succ_eq_append_getElem h, List.filter_append]
  congr 1
  cases hp : p xs[J] <;> simp [hp]
theorem delG_start {p : α → Bool} {xs : List α} {k : Nat} (h : k < xs.length) (hp : p xs[k] = true) (ha : ∀ x ∈ xs.take k, p x = false) : DelG p xs xs k (k + 1) := by
  have h0 : keptG p (xs.take k) = xs.take k := by unfold keptG; rw [List.filter_eq_self]; intro x hx; simp [ha x hx]
  have h1 : keptG p (xs.take (k + 1)) = xs.take k := by rw [keptG_snoc p xs k h, h0]; simp [hp]
  exact ⟨rfl, h, by omega, by rw [h1, List.length_take]; omega, h1.symm, rfl⟩
theorem delG_at {p : α → Bool} {xs ys : List α} {I J : Nat} (h : DelG p xs ys I J) (hJ : J < xs.length) : ∃ hy : J < ys.length, ys[J] = xs[J] := by
  obtain ⟨h1, _, _, _, _, h6⟩ := h
  refine ⟨by omega, ?_⟩
  have e : (ys.drop J)[0]? = (xs.drop J)[0]? := by rw [h6]
  rw [List.getElem?_drop, List.getElem?_drop, Nat.add_zero] at e
  rw [List.getElem?_eq_getElem (by omega), List.getElem?_eq_getElem hJ] at e
  exact Option.some.inj e
theorem delG_skip {p : α → Bool} {xs ys : List α} {I J : Nat} (h : DelG p xs ys I J) (hJ : J < xs.length) (hp : p xs[J] = true) : DelG p xs ys I (J + 1) := by
  obtain ⟨h1, h2, h3, h4, h5, h6⟩ := h
  have hk : keptG p (xs.take (J + 1)) = keptG p (xs.take J) := by rw [keptG_snoc p xs J hJ]; simp [hp]
  refine ⟨h1, hJ, by omega, by rw [hk]; exact h4, by rw [hk]; exact h5, ?_⟩
  have : (ys.drop J).drop 1 = (xs.drop J).drop 1 := by rw [h6]
  simpa [List.drop_drop, Nat.add_comm] using this
theorem delG_keep {p : α → Bool} {xs ys : List α} {I J : Nat} (h : DelG p xs ys I J) (hJ : J < xs.length) (hp : p xs[J] = false) : DelG p xs (ys.set I xs[J]) (I + 1) (J + 1) := by
  obtain ⟨h1, h2, h3, h4, h5, h6⟩ := h
  have hk : keptG p (xs.take (J + 1)) = keptG p (xs.take J) ++ [xs[J]] := by rw [keptG_snoc p xs J hJ]; simp [hp]
  refine ⟨by simpa using h1, hJ, by omega, by rw [hk, List.length_append]; simp; exact h4, ?_, ?_⟩
  · rw [hk, ← h5, List.take_succ_eq_append_getElem (by simp; omega)]
    congr 1
    · rw [List.take_set_of_le (by omega)]
    · simp
  · rw [List.drop_set_of_lt (by omega)]
    have : (ys.drop J).drop 1 = (xs.drop J).drop 1 := by rw [h6]
    simpa [List.drop_drop, Nat.add_comm] using this
theorem delG_end {p : α → Bool} {xs ys : List α} {I : Nat} (h : DelG p xs ys I xs.length) : ys.take I = keptG p xs ∧ I = (keptG p xs).length ∧ I < xs.length := by
  obtain ⟨_, _, h3, h4, h5, _⟩ := h
  rw [List.take_length] at h4 h5
  exact ⟨h5, h4, h3⟩
theorem keptG_none {p : α → Bool} {xs : List α} (h : ∀ x ∈ xs, p x = false) : keptG p xs = xs := by unfold keptG; rw [List.filter_eq_self]; intro x hx; simp [h x hx]
end
theorem Mod.setCellsG {b : Nat} : ∀ (vs : List Value) (o : Nat) (w : World), Mod (fun k => k = b) w (w.setCells b o vs)
  | [], _, w => Mod.refl _ w
  | v :: r, o, w => (Mod.setCell (F := fun k => k = b) w ⟨b, o, none⟩ v rfl).trans (Mod.setCellsG r (o + 1) _) (fun _ _ e => e) (fun _ _ e => e)
theorem c4_set4 : ∀ (R : List Ar) (i : Nat) (_ : i < R.length) (a : Ar), ((((R.flatMap c4).set (i * 4) (.int .i64 a.f)).set (i * 4 + 1) (.int .i64 a.t)).set (i * 4 + 2) (.int .i64 a.w)).set (i * 4 + 3) (.int .i64 a.m) = (R.set i a).flatMap c4
  | b :: R, 0, _, a => by simp [c4]
  | b :: R, i + 1, hi, a => by
    have h := c4_set4 R i (by simpa using hi) a
    have e : ∀ (X : List Value) (j : Nat) (x : Value), (c4 b ++ X).set ((i + 1) * 4 + j) x = c4 b ++ X.set (i * 4 + j) x := fun X j x => by
      rw [List.set_append_right _ _ (by simp [c4]; omega), show (i + 1) * 4 + j - (c4 b).length = i * 4 + j by simp [c4]; omega]
    rw [List.set_cons_succ, List.flatMap_cons, List.flatMap_cons, ← h]
    have e0 := e (R.flatMap c4) 0 (.int .i64 a.f)
    rw [Nat.add_zero, Nat.add_zero] at e0
    rw [e0, e, e, e, Nat.add_zero]
theorem rd_cleared4 {w : World} {base : Nat} {e : TypeId} {g n c I : Nat} {ys : List Ar} {vs : List Value} (ho : w.ownsRow base e 4 (.slice (some ⟨g, 0, none⟩) n c) n (ys.flatMap c4)) (hI : I ≤ n) :
    Rd (w.setCells g (I * 4) vs) 4 (.slice (some ⟨g, 0, none⟩) I c) I ((ys.take I).flatMap c4) := by
  have hr := Rd.ofOwn ho
  have ht := hr.take hI
  rw [c4_take] at ht
  obtain ⟨hl, a, c', he, h1, h2, h3, h4⟩ := ht
  cases he
  refine ⟨hl, _, c, rfl, h1, h2, (fun h => by cases h), fun ad had => ?_⟩
  cases had
  refine ⟨fun _ => (h4 _ rfl).1 ‹_›, fun j u hj => ?_⟩
  have hjI : j < I * 4 := by
    rcases Nat.lt_or_ge j (I * 4) with h | h
    · exact h
    · rw [List.getElem?_eq_none (by rw [hl]; omega)] at hj; cases hj
  rw [Addr.add_lit, World.cell?_setCells_out _ _ _ _ _ (fun _ _ => .inl (by show 0 + j < I * 4; omega))]
  have := (h4 _ rfl).2 j u hj
  rwa [Addr.add_lit] at this
theorem zeroCells4 (k : Nat) : (Builtin.zeroCells #[Value.int .i64 0, .int .i64 0, .int .i64 0, .int .i64 0] k).toList = List.replicate (k * 4) (.int .i64 0) := by
  apply List.ext_getElem
  · simp [Builtin.zeroCells, Nat.mul_comm]
  · intro i h1 h2
    have h4 : i % 4 < 4 := Nat.mod_lt _ (by omega)
    simp [Builtin.zeroCells]
    have : i % 4 = 0 ∨ i % 4 = 1 ∨ i % 4 = 2 ∨ i % 4 = 3 := by omega
    rcases this with e | e | e | e <;> simp [e]
theorem run_clear_arcs {P : Program} (w : World) (t e ty : TypeId) (ht : P.underlying t = some (.slice e)) (hv : ∀ w, (zeroValue e).run P w = .ok (.agg #[.int .i64 0, .int .i64 0, .int .i64 0, .int .i64 0]) w) (b o n c : Nat) (hn : 0 < n)
    (hc : ∀ j, j < n * 4 → (w.cell? ⟨b, o + j, none⟩).isSome = true) (hf : ∀ j, j < n * 4 → w.frozen? ⟨b, o + j, none⟩ = false) :
    (Builtin.clear_ #[t] ty #[.slice (some ⟨b, o, none⟩) n c]).run P w = .ok (.tuple #[]) (w.setCells b o (List.replicate (n * 4) (.int .i64 0))) := by
  have hst := run_storeCells_cells (P := P) b o (List.replicate (n * 4) (Value.int .i64 0)) 0 w (by simpa using hc) (by simpa using hf) (by intro v hv'; rw [List.eq_of_mem_replicate hv']; rfl)
  simp only [Nat.add_zero] at hst
  have hz := zeroCells4 n
  obtain ⟨m, rfl⟩ : ∃ m, n = m + 1 := ⟨n - 1, by omega⟩
  have hzc : (Value.agg #[.int .i64 0, .int .i64 0, .int .i64 0, .int .i64 0] : Value).cells = #[Value.int .i64 0, .int .i64 0, .int .i64 0, .int .i64 0] := rfl
  simp [Builtin.clear_, run_underlying ht, hv, hzc, hz, hst]
end Mile
