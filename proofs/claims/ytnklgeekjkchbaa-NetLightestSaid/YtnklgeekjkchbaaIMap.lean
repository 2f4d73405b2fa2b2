/- Maps from int to int of the call's own, as a function. -/
import Derived.Test.YtnklgeekjkchbaaBase2
import Derived.Maps.OwnSet
import Derived.Maps.OwnOps
import Derived.Maps.Range
namespace Mile
open Go Go.RowKit

theorem i64_wf (n : Int) : (Lit.int .i64 n).wf = true ↔ -9223372036854775808 ≤ n ∧ n ≤ 9223372036854775807 := by
  simp [Lit.wf, IntKind.min, IntKind.max, IntKind.signed, IntKind.bits]

/-- Block b is a map from int to int that holds what f says. -/
def IMap (P : Program) (K E : TypeId) (w : World) (b : Nat) (f : Int → Option Int) : Prop :=
  ∃ n D, w.ownsMap (H := Unit) P K (plainElem P E) b n D ∧ (∀ k c, f k = some c → (Lit.int .i64 k).wf = true ∧ (Lit.int .i64 c).wf = true) ∧
    ∀ k, (Lit.int .i64 k).wf = true → Maps.has D (.int .i64 k) = (f k).isSome ∧ D.atKey (.int .i64 k) (.lit (.int .i64 0)) = .lit (.int .i64 ((f k).getD 0))

theorem IMap.lt {P : Program} {K E : TypeId} {w : World} {b : Nat} {f : Int → Option Int} (h : IMap P K E w b f) : b < w.heap.size := by
  obtain ⟨n, D, h, _⟩ := h; exact h.lt
theorem IMap.keep {P : Program} {K E : TypeId} {w w' : World} {b : Nat} {f : Int → Option Int} {G : Nat → Prop} (h : IMap P K E w b f) (hm : Mod G w w') (hb : ¬ G b) : IMap P K E w' b f := by
  obtain ⟨n, D, h, h2⟩ := h
  have hlt := h.lt
  obtain ⟨es, clock, hbk, F, hs, hD⟩ := h
  exact ⟨n, D, ⟨es, clock, (hm.block b hlt hb).trans hbk, F, hs, hD⟩, h2⟩
theorem IMap.made {P : Program} {K E : TypeId} (w : World) : IMap P K E (w.alloc (.map #[] 0)) w.heap.size (fun _ => none) :=
  ⟨0, .map [], World.ownsMap_made _ _ _ _, by simp, fun k _ => ⟨rfl, rfl⟩⟩

theorem IMap.look {P : Program} {K E t : TypeId} {w : World} {b : Nat} {f : Int → Option Int} (h : IMap P K E w b f) (ht : P.underlying t = some (.map K E)) (hk : P.underlying K = some (.int .i64)) (he : P.underlying E = some (.int .i64))
    (hz : (zeroValue E).run P w = .ok (.int .i64 0) w) (k : Int) (hw : (Lit.int .i64 k).wf = true) :
    (Instr.lookup t (.map (some b)) (.int .i64 k) true).run P w = .ok (.tuple #[.int .i64 ((f k).getD 0), .bool (f k).isSome]) w := by
  obtain ⟨n, D, h, h1, h2⟩ := h
  obtain ⟨v, ps, hrun, hv⟩ := h.look_ok (Maps.int_keyed hk) ht hz (plainElem_int he (by decide)) (Maps.keyOf_int_mk hk hw)
  obtain ⟨c, rfl, hc, hwc⟩ := plainElem_int_inv he hv
  simp only [Prod.mk.injEq] at hc
  rw [(h2 k hw).1, ] at hrun
  rw [(h2 k hw).2] at hc
  have hc := hc.1
  injection hc with hc
  injection hc with _ hc
  rw [hrun, hc]

theorem look_none {P : Program} {K E t : TypeId} {w : World} (ht : P.underlying t = some (.map K E)) (hk : P.underlying K = some (.int .i64)) (hz : (zeroValue E).run P w = .ok (.int .i64 0) w) (k : Int) (hw : (Lit.int .i64 k).wf = true) :
    (Instr.lookup t (.map none) (.int .i64 k) true).run P w = .ok (.tuple #[.int .i64 0, .bool false]) w := by
  have h := Maps.look_nil (w := w) true (Maps.int_keyed hk) ht hz (Maps.keyOf_int_mk hk hw)
  simpa using h

theorem isKey_int (k : Int) : WideAt.IsKeyLit (.int .i64 k) := trivial

/-- The bound is their number. -/
theorem own_tight {P : Program} {K E : TypeId} {w : World} {b n : Nat} {D : DataW Unit} (h : w.ownsMap P K (plainElem P E) b n D) : w.ownsMap P K (plainElem P E) b (Maps.size D) D := by
  obtain ⟨es, clock, hb, F, hs, rfl⟩ := h
  exact ⟨es, clock, hb, F, by simp [Maps.size, length_sorted], rfl⟩

theorem nodup_length {α : Type} : ∀ (l ks : List α), l.Pairwise (· ≠ ·) → (∀ x ∈ l, x ∈ ks) → l.length ≤ ks.length := by
  classical
  intro l
  induction l with
  | nil => intro ks _ _; exact Nat.zero_le _
  | cons x l ih =>
    intro ks hp hs
    rw [List.pairwise_cons] at hp
    have hx := hs x (by simp)
    have h := ih (ks.erase x) hp.2 (fun y hy => (List.mem_erase_of_ne (Ne.symm (hp.1 y hy))).2 (hs y (by simp [hy])))
    rw [List.length_erase_of_mem hx] at h
    have := List.length_pos_of_mem hx
    rw [List.length_cons]; omega

theorem keyOf_int_inv {P : Program} {K : TypeId} (hk : P.underlying K = some (.int .i64)) {v : Value} {l : Lit} (h : keyOf P K v = some l) : ∃ k : Int, l = .int .i64 k := by
  cases v <;> simp [keyOf, mapKey, hk] at h
  · obtain ⟨_, _, rfl⟩ := h
    exact ⟨_, rfl⟩

theorem has_wf {P : Program} {K E : TypeId} {w : World} {b n : Nat} {D : DataW Unit} (hk : P.underlying K = some (.int .i64)) (h : w.ownsMap P K (plainElem P E) b n D) {j : Int} (hj : Maps.has D (.int .i64 j) = true) : (Lit.int .i64 j).wf = true := by
  obtain ⟨es, clock, hb, F, hs, rfl⟩ := h
  rw [Maps.has_eq, List.any_eq_true] at hj
  obtain ⟨p, hp, hpk⟩ := hj
  obtain ⟨v, hv⟩ := Maps.fit_keys F p (mem_sorted.1 hp)
  have e := (WideAt.sameKey_iff (isKey_int j)).1 hpk
  rw [e] at hv
  cases v <;> simp [keyOf, mapKey, hk] at hv
  obtain ⟨⟨rfl, h1⟩, rfl⟩ := hv
  exact h1

/-- A map whose keys are all among some has no more of them. -/
theorem size_le_of {P : Program} {K E : TypeId} {w : World} {b n : Nat} {D : DataW Unit} (hk : P.underlying K = some (.int .i64)) (h : w.ownsMap P K (plainElem P E) b n D) {ks : List Int} (hks : ∀ k, Maps.has D (.int .i64 k) = true → k ∈ ks) : Maps.size D ≤ ks.length := by
  obtain ⟨es, clock, hb, F, hs, rfl⟩ := h
  have hkeys := Maps.fit_keys F
  have happ := Maps.fit_apart (Maps.int_keyed hk) F
  have hsz : Maps.size (H := Unit) (DataW.map ((es.toList.map (WideElems.rg P K (plainElem P E))).foldr DataW.insert [])) = (es.toList.map (WideElems.rg (H := Unit) P K (plainElem P E))).length := by simp [Maps.size, length_sorted]
  rw [hsz]
  have hh : ∀ p ∈ es.toList.map (WideElems.rg (H := Unit) P K (plainElem P E)), ∃ k ∈ ks, p.1 = .int .i64 k := by
    intro p hp
    obtain ⟨v, hv⟩ := hkeys p hp
    obtain ⟨k, hkk⟩ := keyOf_int_inv hk hv
    refine ⟨k, hks k ?_, hkk⟩
    rw [Maps.has_eq, List.any_eq_true]
    exact ⟨p, mem_sorted.2 hp, by rw [hkk]; exact (WideAt.sameKey_iff (isKey_int k)).2 rfl⟩
  generalize es.toList.map (WideElems.rg (H := Unit) P K (plainElem P E)) = L at *
  have hm : ∀ q ∈ L.map (·.1), q ∈ ks.map (Lit.int .i64) := by
    intro q hq
    obtain ⟨p, hp, rfl⟩ := List.mem_map.1 hq
    obtain ⟨k, hk', e⟩ := hh p hp
    rw [e]; exact List.mem_map_of_mem hk'
  have := nodup_length (L.map (·.1)) (ks.map (Lit.int .i64)) (by rw [List.pairwise_map]; exact happ) hm
  simpa using this

theorem IMap.store {P : Program} {K E t : TypeId} {w : World} {b : Nat} {f : Int → Option Int} (h : IMap P K E w b f) (ht : P.underlying t = some (.map K E)) (hk : P.underlying K = some (.int .i64)) (he : P.underlying E = some (.int .i64))
    (ks : List Int) (hks : ∀ k, f k ≠ none → k ∈ ks) (hl : ks.length < maxLen) (k c : Int) (hw : (Lit.int .i64 k).wf = true) (hc : (Lit.int .i64 c).wf = true) :
    ∃ w', (Instr.mapUpdate t (.map (some b)) (.int .i64 k) (.int .i64 c)).run P w = .ok () w' ∧ IMap P K E w' b (fun j => if j = k then some c else f j) ∧ Mod (fun i => i = b) w w' := by
  obtain ⟨n, D, h, h1, h2⟩ := h
  have hsz := size_le_of hk h (ks := ks) (fun j hj => hks j (by
    by_cases hwj : (Lit.int .i64 j).wf = true
    · rw [(h2 j hwj).1] at hj
      intro e; rw [e] at hj; cases hj
    · exact absurd (has_wf hk h hj) hwj))
  obtain ⟨w', hrun, hown, hg⟩ := (own_tight h).update (Maps.int_keyed hk) ht (by omega) (Maps.keyOf_int_mk hk hw) (plainElem_int he hc)
  refine ⟨w', hrun, ⟨_, _, hown, ?_, ?_⟩, ?_⟩
  · intro j d hj
    by_cases e : j = k
    · subst e; simp at hj; subst hj; exact ⟨hw, hc⟩
    · simp [e] at hj; exact h1 j d hj
  · intro j hj
    by_cases e : j = k
    · subst e
      simp [Maps.has_put_same h.isMap (isKey_int j), Maps.atKey_put_same h.isMap (isKey_int j)]
    · have hne : (Lit.int .i64 j) ≠ .int .i64 k := by intro h; injection h with _ h; exact e h
      rw [Maps.has_put_other hne, Maps.atKey_put_other hne]
      simpa [e] using h2 j hj
  · exact (Mod.ofGrown hg).mono (fun i _ h => (Option.some.inj h).symm)

theorem IMap.drop {P : Program} {K E t : TypeId} {w : World} {b : Nat} {f : Int → Option Int} (h : IMap P K E w b f) (ht : P.underlying t = some (.map K E)) (hk : P.underlying K = some (.int .i64)) (k : Int) (hw : (Lit.int .i64 k).wf = true) (ty : TypeId) :
    ∃ w', (Builtin.delete_ #[t, K] ty #[.map (some b), .int .i64 k]).run P w = .ok (.tuple #[]) w' ∧ IMap P K E w' b (fun j => if j = k then none else f j) ∧ Mod (fun i => i = b) w w' := by
  obtain ⟨n, D, h, h1, h2⟩ := h
  obtain ⟨w', hrun, hown, hg⟩ := h.drop (Maps.int_keyed hk) ht (Maps.keyOf_int_mk hk hw) ty
  refine ⟨w', hrun, ⟨_, _, hown, ?_, ?_⟩, ?_⟩
  · intro j d hj
    by_cases e : j = k
    · subst e; simp at hj
    · simp [e] at hj; exact h1 j d hj
  · intro j hj
    by_cases e : j = k
    · subst e
      simp [Maps.has_del_same, Maps.atKey_del_same]
    · have hne : (Lit.int .i64 j) ≠ .int .i64 k := by intro h; injection h with _ h; exact e h
      rw [Maps.has_del_other hne, Maps.atKey_del_other hne]
      simpa [e] using h2 j hj
  · exact (Mod.ofGrown hg.grown).mono (fun i _ h => (Option.some.inj h).symm)

end Mile
