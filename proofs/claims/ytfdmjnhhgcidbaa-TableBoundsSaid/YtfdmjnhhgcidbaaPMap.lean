/- Maps from pairs of numbers to bool of the call's own, as a function. -/
import Derived.Test.YtfdmjnhhgcidbaaBMap
import Derived.WideKeyPair
namespace Mile
open Go Go.RowKit Go.WideMaps
/-- Block b is a map from [2]int to bool that holds what f says: N entries at most. -/
def PMap (P : Program) (K E : TypeId) (w : World) (b N : Nat) (f : Int → Int → Bool) : Prop :=
  ∃ n D, w.ownsMap (H := Unit) P K (plainElem P E) b n D ∧ Maps.size D ≤ N ∧ ∀ x y l, keyOf P K (.agg #[.int .i64 x, .int .i64 y]) = some l → D.atKey l (.lit (.bool false)) = .lit (.bool (f x y))
section
variable {P : Program} {K E t e : TypeId} {w : World} {b N : Nat} {f : Int → Int → Bool}
theorem PMap.keep {w' : World} {G : Nat → Prop} (h : PMap P K E w b N f) (hm : Mod G w w') (hb : ¬ G b) : PMap P K E w' b N f := by
  obtain ⟨n, D, h, h2⟩ := h
  have hlt := h.lt
  obtain ⟨es, clock, hbk, F, hs, hD⟩ := h
  exact ⟨n, D, ⟨es, clock, (hm.block b hlt hb).trans hbk, F, hs, hD⟩, h2⟩
theorem PMap.made (w : World) : PMap P K E (w.alloc (.map #[] 0)) w.heap.size 0 (fun _ _ => false) :=
  ⟨0, .map [], World.ownsMap_made _ _ _ _, Nat.le_refl _, fun _ _ _ _ => rfl⟩
theorem PMap.ne {g : Nat} {T : TypeId} {cs : List Value} (h : PMap P K E w b N f) (hg : Blk w g T cs) : g ≠ b := fun e => by
  subst e
  obtain ⟨n, D, ⟨es, clock, hb, _⟩, _⟩ := h
  unfold Blk at hg
  rw [hg] at hb
  cases hb
/-- 'm[k]'. -/
theorem PMap.look1 (h : PMap P K E w b N f) (A : ArrKey P K e 2) (he : P.underlying e = some (.int .i64)) (hsz : ∃ m, P.types.size = m + 1) (ht : P.underlying t = some (.map K E)) (hE : P.underlying E = some .bool)
    (hz : (zeroValue E).run P w = .ok (.bool false) w) (x y : Int) (hx : (Lit.int .i64 x).wf = true) (hy : (Lit.int .i64 y).wf = true) :
    (Instr.lookup t (.map (some b)) (.agg #[.int .i64 x, .int .i64 y]) false).run P w = .ok (.bool (f x y)) w := by
  obtain ⟨n, D, ⟨es, clock, hb, F, _, rfl⟩, _, h2⟩ := h
  have hk := keyOf_pair A he hsz hx hy
  have hz2 := h2 x y _ hk
  rcases Maps.fit_look false (Maps.Keyed.of_law A.law) ht hz hb F hk with ⟨hrun, _, hat⟩ | ⟨e0, z, _, _, hrun, hRv, hat, _⟩
  · rw [hat] at hz2
    injection hz2 with hz2
    injection hz2 with hz2
    rw [← hz2]
    simpa using hrun
  · rw [hat] at hz2
    obtain ⟨c, hc, hy⟩ := plainElem_bool_inv hE hRv
    rw [hy] at hz2
    injection hz2 with hz2
    injection hz2 with hz2
    rw [← hz2]
    rw [hc] at hrun
    simpa using hrun
theorem PMap.store (h : PMap P K E w b N f) (A : ArrKey P K e 2) (he : P.underlying e = some (.int .i64)) (hsz : ∃ m, P.types.size = m + 1) (ht : P.underlying t = some (.map K E)) (hE : P.underlying E = some .bool)
    (hN : N < maxLen) (x y : Int) (c : Bool) (hx : (Lit.int .i64 x).wf = true) (hy : (Lit.int .i64 y).wf = true) :
    ∃ w', (Instr.mapUpdate t (.map (some b)) (.agg #[.int .i64 x, .int .i64 y]) (.bool c)).run P w = .ok () w' ∧ PMap P K E w' b (N + 1) (fun x' y' => if x' = x ∧ y' = y then c else f x' y') ∧ Mod (fun i => i = b) w w' := by
  obtain ⟨n, D, h, hs, h2⟩ := h
  have hk := keyOf_pair A he hsz hx hy
  have KD := Maps.Keyed.of_law A.law
  obtain ⟨w', hrun, hown, hg⟩ := (own_tight h).update KD ht (by omega) hk (plainElem_bool hE c)
  have hsp := Maps.size_put (World.ownsMap.tidy h KD) (k := .string (keyBytes [.int .i64 x, .int .i64 y])) (.lit (.bool c))
  refine ⟨w', hrun, ⟨_, _, hown, ?_, ?_⟩, (Mod.ofGrown hg).mono (fun i _ h => (Option.some.inj h).symm)⟩
  · rw [hsp]; split <;> omega
  · intro x' y' l hl
    show _ = DataW.lit (Lit.bool (if x' = x ∧ y' = y then c else f x' y'))
    by_cases e : x' = x ∧ y' = y
    · obtain ⟨rfl, rfl⟩ := e
      rw [hk] at hl
      obtain rfl := Option.some.inj hl
      rw [if_pos ⟨rfl, rfl⟩]
      exact Maps.atKey_put_same h.isMap (KD.key hk) ..
    · rw [if_neg e]
      have hne : l ≠ .string (keyBytes [.int .i64 x, .int .i64 y]) := fun h9 => by
        rw [h9] at hl
        have h10 := KD.inj hl hk
        injection h10 with h10
        simp at h10
        exact e h10
      rw [Maps.atKey_put_other hne]
      exact h2 x' y' l hl
end
end Mile
