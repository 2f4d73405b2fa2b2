/- Maps from int to bool of the call's own, as a function. -/
import Derived.Test.YtfdmjnhhgcidbaaIMap
namespace Mile
open Go Go.RowKit
theorem plainElem_bool_inv {H : Type} {P : Program} {e : TypeId} (he : P.underlying e = some .bool) {v : Value} {z : DataW H × List MemPlace} (h : plainElem P e v = some z) : ∃ a, v = .bool a ∧ z = (.lit (.bool a), []) := by
  cases v <;> simp [plainElem, he] at h
  exact ⟨_, rfl, h.symm⟩
/-- Block b is a map from int to bool that holds what f says. -/
def BMap (P : Program) (K E : TypeId) (w : World) (b : Nat) (f : Int → Option Bool) : Prop :=
  ∃ n D, w.ownsMap (H := Unit) P K (plainElem P E) b n D ∧ (∀ k c, f k = some c → (Lit.int .i64 k).wf = true) ∧
    ∀ k, (Lit.int .i64 k).wf = true → Maps.has D (.int .i64 k) = (f k).isSome ∧ D.atKey (.int .i64 k) (.lit (.bool false)) = .lit (.bool ((f k).getD false))
theorem BMap.lt {P : Program} {K E : TypeId} {w : World} {b : Nat} {f : Int → Option Bool} (h : BMap P K E w b f) : b < w.heap.size := by
  obtain ⟨n, D, h, _⟩ := h; exact h.lt
theorem BMap.keep {P : Program} {K E : TypeId} {w w' : World} {b : Nat} {f : Int → Option Bool} {G : Nat → Prop} (h : BMap P K E w b f) (hm : Mod G w w') (hb : ¬ G b) : BMap P K E w' b f := by
  obtain ⟨n, D, h, h2⟩ := h
  have hlt := h.lt
  obtain ⟨es, clock, hbk, F, hs, hD⟩ := h
  exact ⟨n, D, ⟨es, clock, (hm.block b hlt hb).trans hbk, F, hs, hD⟩, h2⟩
theorem BMap.made {P : Program} {K E : TypeId} (w : World) : BMap P K E (w.alloc (.map #[] 0)) w.heap.size (fun _ => none) :=
  ⟨0, .map [], World.ownsMap_made _ _ _ _, by simp, fun k _ => ⟨rfl, rfl⟩⟩
/-- 'm[k]'. -/
theorem BMap.look1 {P : Program} {K E t : TypeId} {w : World} {b : Nat} {f : Int → Option Bool} (h : BMap P K E w b f) (ht : P.underlying t = some (.map K E)) (hk : P.underlying K = some (.int .i64)) (he : P.underlying E = some .bool)
    (hz : (zeroValue E).run P w = .ok (.bool false) w) (k : Int) (hw : (Lit.int .i64 k).wf = true) :
    (Instr.lookup t (.map (some b)) (.int .i64 k) false).run P w = .ok (.bool ((f k).getD false)) w := by
  obtain ⟨n, D, ⟨es, clock, hb, F, _, rfl⟩, h1, h2⟩ := h
  have hz2 := (h2 k hw).2
  rcases Maps.fit_look false (Maps.int_keyed hk) ht hz hb F (Maps.keyOf_int_mk hk hw) with ⟨hrun, _, hat⟩ | ⟨e0, y, _, _, hrun, hRv, hat, _⟩
  · rw [hat] at hz2
    injection hz2 with hz2
    injection hz2 with hz2
    rw [← hz2]
    simpa using hrun
  · rw [hat] at hz2
    obtain ⟨c, hc, hy⟩ := plainElem_bool_inv he hRv
    rw [hy] at hz2
    injection hz2 with hz2
    injection hz2 with hz2
    rw [← hz2]
    rw [hc] at hrun
    simpa using hrun
/-- 'v, ok := m[k]'. -/
theorem BMap.look {P : Program} {K E t : TypeId} {w : World} {b : Nat} {f : Int → Option Bool} (h : BMap P K E w b f) (ht : P.underlying t = some (.map K E)) (hk : P.underlying K = some (.int .i64)) (he : P.underlying E = some .bool)
    (hz : (zeroValue E).run P w = .ok (.bool false) w) (k : Int) (hw : (Lit.int .i64 k).wf = true) :
    (Instr.lookup t (.map (some b)) (.int .i64 k) true).run P w = .ok (.tuple #[.bool ((f k).getD false), .bool (f k).isSome]) w := by
  obtain ⟨n, D, h, h1, h2⟩ := h
  obtain ⟨v, ps, hrun, hv⟩ := h.look_ok (Maps.int_keyed hk) ht hz (plainElem_bool he false) (Maps.keyOf_int_mk hk hw)
  obtain ⟨c, rfl, hc⟩ := plainElem_bool_inv he hv
  simp only [Prod.mk.injEq] at hc
  rw [(h2 k hw).1] at hrun
  rw [(h2 k hw).2] at hc
  have hc := hc.1
  injection hc with hc
  injection hc with hc
  rw [hrun, hc]
theorem BMap.store {P : Program} {K E t : TypeId} {w : World} {b : Nat} {f : Int → Option Bool} (h : BMap P K E w b f) (ht : P.underlying t = some (.map K E)) (hk : P.underlying K = some (.int .i64)) (he : P.underlying E = some .bool)
    (ks : List Int) (hks : ∀ k, f k ≠ none → k ∈ ks) (hl : ks.length < maxLen) (k : Int) (c : Bool) (hw : (Lit.int .i64 k).wf = true) :
    ∃ w', (Instr.mapUpdate t (.map (some b)) (.int .i64 k) (.bool c)).run P w = .ok () w' ∧ BMap P K E w' b (fun j => if j = k then some c else f j) ∧ Mod (fun i => i = b) w w' := by
  obtain ⟨n, D, h, h1, h2⟩ := h
  have hsz := size_le_of hk h (ks := ks) (fun j hj => hks j (by
    by_cases hwj : (Lit.int .i64 j).wf = true
    · rw [(h2 j hwj).1] at hj
      intro e; rw [e] at hj; cases hj
    · exact absurd (has_wf hk h hj) hwj))
  obtain ⟨w', hrun, hown, hg⟩ := (own_tight h).update (Maps.int_keyed hk) ht (by omega) (Maps.keyOf_int_mk hk hw) (plainElem_bool he c)
  refine ⟨w', hrun, ⟨_, _, hown, ?_, ?_⟩, ?_⟩
  · intro j d hj
    by_cases e : j = k
    · subst e; exact hw
    · simp [e] at hj; exact h1 j d hj
  · intro j hj
    by_cases e : j = k
    · subst e
      simp [Maps.has_put_same h.isMap (isKey_int j), Maps.atKey_put_same h.isMap (isKey_int j)]
    · have hne : (Lit.int .i64 j) ≠ .int .i64 k := by intro h; injection h with _ h; exact e h
      rw [Maps.has_put_other hne, Maps.atKey_put_other hne]
      simpa [e] using h2 j hj
  · exact (Mod.ofGrown hg).mono (fun i _ h => (Option.some.inj h).symm)
end Mile
