/- Maps from pairs of numbers to numbers of the call's own, as a function; how many they hold. -/
import Derived.Test.YtnklgeekjkchbaaIMap
import Derived.WideKeyPair
namespace Mile
open Go Go.RowKit Go.WideMaps
/-- Block b is a map from [2]int to int that holds what f says: N entries. -/
def PMapI (P : Program) (K E : TypeId) (w : World) (b N : Nat) (f : Int → Int → Option Int) : Prop :=
  ∃ n D, w.ownsMap (H := Unit) P K (plainElem P E) b n D ∧ Maps.size D = N ∧ ∀ x y l, keyOf P K (.agg #[.int .i64 x, .int .i64 y]) = some l → Maps.has D l = (f x y).isSome ∧ D.atKey l (.lit (.int .i64 0)) = .lit (.int .i64 ((f x y).getD 0))
section
variable {P : Program} {K E t e : TypeId} {w : World} {b N : Nat} {f : Int → Int → Option Int}
theorem PMapI.keep {w' : World} {G : Nat → Prop} (h : PMapI P K E w b N f) (hm : Mod G w w') (hb : ¬ G b) : PMapI P K E w' b N f := by
  obtain ⟨n, D, h, h2⟩ := h
  have hlt := h.lt
  obtain ⟨es, clock, hbk, F, hs, hD⟩ := h
  exact ⟨n, D, ⟨es, clock, (hm.block b hlt hb).trans hbk, F, hs, hD⟩, h2⟩
theorem PMapI.lt (h : PMapI P K E w b N f) : b < w.heap.size := by
  obtain ⟨n, D, h, _⟩ := h; exact h.lt
theorem PMapI.made (w : World) : PMapI P K E (w.alloc (.map #[] 0)) w.heap.size 0 (fun _ _ => none) :=
  ⟨0, .map [], World.ownsMap_made _ _ _ _, rfl, fun _ _ _ _ => ⟨rfl, rfl⟩⟩
/-- 'v, ok := m[k]'. -/
theorem PMapI.look2 (h : PMapI P K E w b N f) (A : ArrKey P K e 2) (he : P.underlying e = some (.int .i64)) (hsz : ∃ m, P.types.size = m + 1) (ht : P.underlying t = some (.map K E)) (hE : P.underlying E = some (.int .i64))
    (hz : (zeroValue E).run P w = .ok (.int .i64 0) w) (x y : Int) (hx : (Lit.int .i64 x).wf = true) (hy : (Lit.int .i64 y).wf = true) :
    (Instr.lookup t (.map (some b)) (.agg #[.int .i64 x, .int .i64 y]) true).run P w = .ok (.tuple #[.int .i64 ((f x y).getD 0), .bool (f x y).isSome]) w := by
  obtain ⟨n, D, h, _, h2⟩ := h
  have hk := keyOf_pair A he hsz hx hy
  obtain ⟨v, ps, hrun, hv⟩ := h.look_ok (Maps.Keyed.of_law A.law) ht hz (plainElem_int hE (by decide)) hk
  obtain ⟨c, rfl, hc, hwc⟩ := plainElem_int_inv hE hv
  simp only [Prod.mk.injEq] at hc
  rw [(h2 x y _ hk).1] at hrun
  rw [(h2 x y _ hk).2] at hc
  have hc := hc.1
  injection hc with hc
  injection hc with _ hc
  rw [hrun, hc]
/-- 'm[k]'. -/
theorem PMapI.look1 (h : PMapI P K E w b N f) (A : ArrKey P K e 2) (he : P.underlying e = some (.int .i64)) (hsz : ∃ m, P.types.size = m + 1) (ht : P.underlying t = some (.map K E)) (hE : P.underlying E = some (.int .i64))
    (hz : (zeroValue E).run P w = .ok (.int .i64 0) w) (x y : Int) (hx : (Lit.int .i64 x).wf = true) (hy : (Lit.int .i64 y).wf = true) :
    (Instr.lookup t (.map (some b)) (.agg #[.int .i64 x, .int .i64 y]) false).run P w = .ok (.int .i64 ((f x y).getD 0)) w := by
  obtain ⟨n, D, ⟨es, clock, hb, F, _, rfl⟩, _, h2⟩ := h
  have hk := keyOf_pair A he hsz hx hy
  have hz2 := (h2 x y _ hk).2
  rcases Maps.fit_look false (Maps.Keyed.of_law A.law) ht hz hb F hk with ⟨hrun, _, hat⟩ | ⟨e0, z, _, _, hrun, hRv, hat, _⟩
  · rw [hat] at hz2
    injection hz2 with hz2
    injection hz2 with _ hz2
    rw [← hz2]
    simpa using hrun
  · rw [hat] at hz2
    obtain ⟨c, hc, hy, _⟩ := plainElem_int_inv hE hRv
    rw [hy] at hz2
    injection hz2 with hz2
    injection hz2 with _ hz2
    rw [← hz2]
    rw [hc] at hrun
    simpa using hrun
theorem PMapI.len (h : PMapI P K E w b N f) (ht : P.underlying t = some (.map K E)) (ty : TypeId) : (Builtin.len_ #[t] ty #[.map (some b)]).run P w = .ok (.int .i64 (N : Int)) w := by
  obtain ⟨n, D, h, rfl, _⟩ := h
  exact World.ownsMap.len h ht ty
theorem PMapI.store (h : PMapI P K E w b N f) (A : ArrKey P K e 2) (he : P.underlying e = some (.int .i64)) (hsz : ∃ m, P.types.size = m + 1) (ht : P.underlying t = some (.map K E)) (hE : P.underlying E = some (.int .i64))
    (hN : N < maxLen) (x y : Int) (c : Int) (hx : (Lit.int .i64 x).wf = true) (hy : (Lit.int .i64 y).wf = true) (hc : (Lit.int .i64 c).wf = true) :
    ∃ w', (Instr.mapUpdate t (.map (some b)) (.agg #[.int .i64 x, .int .i64 y]) (.int .i64 c)).run P w = .ok () w' ∧ PMapI P K E w' b (if (f x y).isSome then N else N + 1) (fun x' y' => if x' = x ∧ y' = y then some c else f x' y') ∧ Mod (fun i => i = b) w w' := by
  obtain ⟨n, D, h, hs, h2⟩ := h
  have hk := keyOf_pair A he hsz hx hy
  have KD := Maps.Keyed.of_law A.law
  obtain ⟨w', hrun, hown, hg⟩ := (own_tight h).update KD ht (by omega) hk (plainElem_int hE hc)
  have hsp := Maps.size_put (World.ownsMap.tidy h KD) (k := .string (keyBytes [.int .i64 x, .int .i64 y])) (.lit (.int .i64 c))
  rw [(h2 x y _ hk).1, hs] at hsp
  refine ⟨w', hrun, ⟨_, _, hown, hsp, ?_⟩, (Mod.ofGrown hg).mono (fun i _ h => (Option.some.inj h).symm)⟩
  intro x' y' l hl
  by_cases e : x' = x ∧ y' = y
  · obtain ⟨rfl, rfl⟩ := e
    rw [hk] at hl
    obtain rfl := Option.some.inj hl
    dsimp only
    rw [if_pos ⟨rfl, rfl⟩]
    exact ⟨Maps.has_put_same h.isMap (KD.key hk) _, Maps.atKey_put_same h.isMap (KD.key hk) ..⟩
  · dsimp only
    rw [if_neg e]
    have hne : l ≠ .string (keyBytes [.int .i64 x, .int .i64 y]) := fun h9 => by
      rw [h9] at hl
      have h10 := KD.inj hl hk
      injection h10 with h10
      simp at h10
      exact e h10
    rw [Maps.has_put_other hne, Maps.atKey_put_other hne]
    exact h2 x' y' l hl
end
end Mile
