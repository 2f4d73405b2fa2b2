/- Law 24: six numbers, each with its start and how often it was told: plain; what the map of starts holds. -/
import Derived.Test.YtncjmdpepdfjbaaTmOne
import Derived.Test.YtncjmdpepdfjbaaTm4
namespace Go.Proofs.Ytncjmdpepdfjbaa
open Go.RowKit Mile Go.Maps
set_option maxRecDepth 100000
/-- When one that began at s is due, told so often. -/
def DW (B M s : Nat) : Nat → Nat
  | 0 => s + waitN B M 0
  | k + 1 => DW B M s k + waitN B M (k + 1)
abbrev GSt := Nat → Option (Nat × Nat)
def oneG (B M : Nat) (g : GSt) (id : Nat) : Option Wt := (g id).map fun sk => ⟨(id : Int), (DW B M sk.1 sk.2 : Int), sk.2⟩
def lstG (B M : Nat) (g : GSt) (n : Nat) : List Wt := (List.range n).filterMap (oneG B M g)
def updG (g : GSt) (id : Nat) (v : Option (Nat × Nat)) : GSt := fun j => if j = id then v else g j
theorem fm_succ {α : Type} (F : Nat → Option α) (n : Nat) : (List.range (n + 1)).filterMap F = (List.range n).filterMap F ++ (F n).toList := by
  rw [List.range_succ, List.filterMap_append]
  cases h : F n with
  | none => rw [List.filterMap_cons_none h]; rfl
  | some x => rw [List.filterMap_cons_some h]; rfl
theorem fm_at {α : Type} (F : Nat → Option α) {i : Nat} {x : α} (hx : F i = some x) : ∀ n, i < n → ((List.range n).filterMap F)[((List.range i).filterMap F).length]? = some x
  | 0, h => by omega
  | n + 1, h => by
    rw [fm_succ]
    by_cases e : i = n
    · subst e
      rw [List.getElem?_append_right (Nat.le_refl _), Nat.sub_self, hx]; rfl
    · have ih := fm_at F hx n (by omega)
      rw [List.getElem?_append_left (by
        rcases Nat.lt_or_ge ((List.range i).filterMap F).length ((List.range n).filterMap F).length with h | h
        · exact h
        · rw [List.getElem?_eq_none h] at ih; cases ih)]
      exact ih
theorem mem_lstG {B M : Nat} {g : GSt} {n : Nat} {e : Wt} : e ∈ lstG B M g n ↔ ∃ id s k, id < n ∧ g id = some (s, k) ∧ e = ⟨(id : Int), (DW B M s k : Int), k⟩ := by
  unfold lstG oneG
  rw [List.mem_filterMap]
  constructor
  · rintro ⟨id, hid, h⟩
    cases hg : g id with
    | none => rw [hg] at h; cases h
    | some sk => rw [hg] at h; exact ⟨id, sk.1, sk.2, List.mem_range.1 hid, hg, (Option.some.inj h).symm⟩
  · rintro ⟨id, s, k, h1, h2, h3⟩
    exact ⟨id, List.mem_range.2 h1, by rw [h2, h3]; rfl⟩
theorem lstG_rise (B M : Nat) (g : GSt) : ∀ n, RiseW (lstG B M g n) ∧ ∀ e ∈ lstG B M g n, e.id < (n : Int)
  | 0 => ⟨RiseW.nil, fun e he => by simp [lstG] at he⟩
  | n + 1 => by
    obtain ⟨h1, h2⟩ := lstG_rise B M g n
    have hs : lstG B M g (n + 1) = lstG B M g n ++ (oneG B M g n).toList := fm_succ _ n
    rw [hs]
    cases hg : g n with
    | none =>
      have : oneG B M g n = none := by unfold oneG; rw [hg]; rfl
      rw [this]
      simp only [Option.toList_none, List.append_nil]
      exact ⟨h1, fun e he => by have := h2 e he; omega⟩
    | some sk =>
      have : oneG B M g n = some ⟨(n : Int), (DW B M sk.1 sk.2 : Int), sk.2⟩ := by unfold oneG; rw [hg]; rfl
      rw [this]
      refine ⟨?_, fun e he => ?_⟩
      · unfold RiseW at *
        rw [List.map_append, List.pairwise_append]
        refine ⟨h1, by simp, fun a ha b hb => ?_⟩
        obtain ⟨e, he, rfl⟩ := List.mem_map.1 ha
        simp at hb
        subst hb
        exact h2 e he
      · rw [List.mem_append] at he
        rcases he with he | he
        · have := h2 e he; omega
        · simp at he; subst he; simp; omega
/-- Rising lists of the same are one. -/
theorem rise_ext {L K : List Wt} (hL : RiseW L) (hK : RiseW K) (h : ∀ e, e ∈ L ↔ e ∈ K) : L = K := by
  have pL : L.Pairwise (fun x y => x.id < y.id) := by unfold RiseW at hL; rwa [List.pairwise_map] at hL
  have pK : K.Pairwise (fun x y => x.id < y.id) := by unfold RiseW at hK; rwa [List.pairwise_map] at hK
  induction L generalizing K with
  | nil =>
    cases K with
    | nil => rfl
    | cons y K => exact absurd ((h y).2 (by simp)) (by simp)
  | cons x L ih =>
    cases K with
    | nil => exact absurd ((h x).1 (by simp)) (by simp)
    | cons y K =>
      rw [List.pairwise_cons] at pL pK
      have hxy : x = y := by
        rcases List.mem_cons.1 ((h x).1 (by simp)) with e | e
        · exact e
        · rcases List.mem_cons.1 ((h y).2 (by simp)) with e2 | e2
          · exact e2.symm
          · have := pK.1 x e; have := pL.1 y e2; omega
      subst hxy
      congr 1
      refine ih (RiseW.cons.1 hL).2 (RiseW.cons.1 hK).2 (fun e => ?_) pL.2 pK.2
      constructor
      · intro he
        rcases List.mem_cons.1 ((h e).1 (by simp [he])) with rfl | h2
        · have := pL.1 e he; omega
        · exact h2
      · intro he
        rcases List.mem_cons.1 ((h e).2 (by simp [he])) with rfl | h2
        · have := pK.1 e he; omega
        · exact h2
theorem lstG_put (B M : Nat) (g : GSt) {n id : Nat} (hid : id < n) (s k : Nat) : putW (lstG B M g n) ⟨(id : Int), (DW B M s k : Int), k⟩ = lstG B M (updG g id (some (s, k))) n := by
  refine rise_ext ((lstG_rise B M g n).1.put _) (lstG_rise B M _ n).1 (fun e => ?_)
  rw [mem_putW, mem_lstG, mem_lstG]
  constructor
  · rintro (rfl | ⟨⟨j, s', k', h1, h2, h3⟩, h4⟩)
    · exact ⟨id, s, k, hid, by unfold updG; rw [if_pos rfl], rfl⟩
    · refine ⟨j, s', k', h1, ?_, h3⟩
      unfold updG
      rw [if_neg (fun e => h4 (by rw [h3, e])), h2]
  · rintro ⟨j, s', k', h1, h2, h3⟩
    unfold updG at h2
    by_cases e : j = id
    · rw [if_pos e] at h2
      injection h2 with h2
      injection h2 with h4 h5
      subst e h4 h5
      exact .inl h3
    · rw [if_neg e] at h2
      exact .inr ⟨⟨j, s', k', h1, h2, h3⟩, by rw [h3]; simp; omega⟩
theorem lstG_stop (B M : Nat) (g : GSt) (n id : Nat) : stopW (lstG B M g n) (id : Int) = lstG B M (updG g id none) n := by
  refine rise_ext ((lstG_rise B M g n).1.stop _) (lstG_rise B M _ n).1 (fun e => ?_)
  rw [mem_stopW, mem_lstG, mem_lstG]
  constructor
  · rintro ⟨⟨j, s', k', h1, h2, h3⟩, h4⟩
    refine ⟨j, s', k', h1, ?_, h3⟩
    unfold updG
    rw [if_neg (fun e => h4 (by rw [h3, e])), h2]
  · rintro ⟨j, s', k', h1, h2, h3⟩
    unfold updG at h2
    by_cases e : j = id
    · rw [if_pos e] at h2; cases h2
    · rw [if_neg e] at h2
      exact ⟨⟨j, s', k', h1, h2, h3⟩, by rw [h3]; simp; omega⟩
/-- At a moment: whose time has not gone by. -/
def OkG (B M R now : Nat) (g : GSt) : Prop := ∀ id s k, g id = some (s, k) → k ≤ R ∧ now ≤ DW B M s k ∧ (∀ j, j < k → DW B M s j < now) ∧ s ≤ now
def stepG (B M R now : Nat) (g : GSt) : GSt := fun id => match g id with
  | none => none
  | some (s, k) => if now < DW B M s k then some (s, k) else if k < R then some (s, k + 1) else none
theorem lstG_due {B M R now : Nat} {g : GSt} (h : OkG B M R now g) (n : Nat) : (lstG B M g n).filterMap (dueW B M R (now : Int)) = lstG B M (stepG B M R now g) n := by
  unfold lstG
  rw [List.filterMap_filterMap]
  congr 1
  funext id
  unfold oneG stepG
  cases hg : g id with
  | none => rfl
  | some sk =>
    obtain ⟨s, k⟩ := sk
    have hd := (h id s k hg).2.1
    show dueW B M R (now : Int) ⟨(id : Int), (DW B M s k : Int), k⟩ = _
    unfold dueW
    by_cases c : now < DW B M s k
    · rw [if_pos (by simpa using c)]
      simp only [if_pos c]
      rfl
    · rw [if_neg (by simpa using c)]
      simp only [if_neg c]
      by_cases c2 : k < R
      · simp only [if_pos c2]
        have e : now = DW B M s k := by omega
        show some _ = some _
        congr 2
        show (now : Int) + _ = ((DW B M s k + waitN B M (k + 1) : Nat) : Int)
        omega
      · simp only [if_neg c2]; rfl
def agF (B M R now : Nat) (g : GSt) (id : Nat) : Option Int := match g id with
  | none => none
  | some (s, k) => if now < DW B M s k then none else if k < R then some (id : Int) else none
def ovF (B M R now : Nat) (g : GSt) (id : Nat) : Option Int := match g id with
  | none => none
  | some (s, k) => if now < DW B M s k then none else if k < R then none else some (id : Int)
theorem lstG_again (B M R now : Nat) (g : GSt) : ∀ n, againE R (dueE (lstG B M g n) (now : Int)) = (List.range n).filterMap (agF B M R now g)
  | 0 => rfl
  | n + 1 => by
    have hs : lstG B M g (n + 1) = lstG B M g n ++ (oneG B M g n).toList := fm_succ _ n
    rw [hs, fm_succ, ← lstG_again B M R now g n]
    unfold agF oneG
    cases hg : g n with
    | none => simp
    | some sk =>
      obtain ⟨s, k⟩ := sk
      unfold dueE againE
      simp only [Option.map_some, Option.toList_some, List.filter_append, List.map_append]
      congr 1
      by_cases c : now < DW B M s k
      · simp [c]
      · by_cases c2 : k < R
        · simp [c, c2, Nat.le_of_not_lt c]
        · simp [c, c2]
theorem lstG_over (B M R now : Nat) (g : GSt) : ∀ n, overE R (dueE (lstG B M g n) (now : Int)) = (List.range n).filterMap (ovF B M R now g)
  | 0 => rfl
  | n + 1 => by
    have hs : lstG B M g (n + 1) = lstG B M g n ++ (oneG B M g n).toList := fm_succ _ n
    rw [hs, fm_succ, ← lstG_over B M R now g n]
    unfold ovF oneG
    cases hg : g n with
    | none => simp
    | some sk =>
      obtain ⟨s, k⟩ := sk
      unfold dueE overE
      simp only [Option.map_some, Option.toList_some, List.filter_append, List.map_append]
      congr 1
      by_cases c : now < DW B M s k
      · simp [c]
      · by_cases c2 : k < R
        · simp [c, c2]
        · simp [c, c2, Nat.le_of_not_lt c]
theorem DW_lt {B M s : Nat} (hB : 1 ≤ B) (hM : B ≤ M) (k : Nat) : DW B M s k < DW B M s (k + 1) := by
  have := waitN_ge hM (k + 1)
  show DW B M s k < DW B M s k + _
  omega
theorem OkG.step {B M R now : Nat} {g : GSt} (hB : 1 ≤ B) (hM : B ≤ M) (h : OkG B M R now g) : OkG B M R (now + 1) (stepG B M R now g) := fun id s k hg => by
  unfold stepG at hg
  cases hg0 : g id with
  | none => rw [hg0] at hg; cases hg
  | some sk =>
    obtain ⟨s0, k0⟩ := sk
    rw [hg0] at hg
    obtain ⟨h1, h2, h3, h4⟩ := h id s0 k0 hg0
    simp only at hg
    by_cases c : now < DW B M s0 k0
    · rw [if_pos c] at hg
      injection hg with hg
      injection hg with e1 e2
      subst e1 e2
      exact ⟨h1, c, fun j hj => by have := h3 j hj; omega, by omega⟩
    · rw [if_neg c] at hg
      by_cases c2 : k0 < R
      · rw [if_pos c2] at hg
        injection hg with hg
        injection hg with e1 e2
        subst e1 e2
        have := DW_lt (s := s0) hB hM k0
        refine ⟨c2, by omega, fun j hj => ?_, by omega⟩
        by_cases e : j = k0
        · subst e; omega
        · have := h3 j (by omega); omega
      · rw [if_neg c2] at hg; cases hg
theorem OkG.upd {B M R now : Nat} {g : GSt} (_ : B ≤ M) (h : OkG B M R now g) (id : Nat) : OkG B M R now (updG g id (some (now, 0))) ∧ OkG B M R now (updG g id none) := by
  constructor
  · intro j s k hg
    unfold updG at hg
    by_cases e : j = id
    · rw [if_pos e] at hg
      injection hg with hg
      injection hg with e1 e2
      subst e1 e2
      exact ⟨Nat.zero_le _, by unfold DW; omega, fun j hj => by omega, Nat.le_refl _⟩
    · rw [if_neg e] at hg; exact h j s k hg
  · intro j s k hg
    unfold updG at hg
    by_cases e : j = id
    · rw [if_pos e] at hg; cases hg
    · rw [if_neg e] at hg; exact h j s k hg
/-- The map of starts. -/
def mapG (g : GSt) (n : Nat) : Int → Option Int := fun x => if 0 ≤ x ∧ x < (n : Int) then (g x.toNat).map (fun sk => (sk.1 : Int)) else none
theorem mapG_at (g : GSt) {n id : Nat} (h : id < n) : mapG g n (id : Int) = (g id).map (fun sk => (sk.1 : Int)) := by unfold mapG; rw [if_pos (by omega)]; rfl
theorem mapG_put (g : GSt) {n id : Nat} (h : id < n) (s k : Nat) : (fun j : Int => if j = (id : Int) then some (s : Int) else mapG g n j) = mapG (updG g id (some (s, k))) n := by
  funext x
  unfold mapG updG
  by_cases e : x = (id : Int)
  · subst e; rw [if_pos rfl, if_pos (by omega), Int.toNat_natCast, if_pos rfl]; rfl
  · rw [if_neg e]
    by_cases c : 0 ≤ x ∧ x < (n : Int)
    · rw [if_pos c, if_pos c, if_neg (by omega)]
    · rw [if_neg c, if_neg c]
theorem mapG_drop (g : GSt) {n id : Nat} : (fun j : Int => if j = (id : Int) then none else mapG g n j) = mapG (updG g id none) n := by
  funext x
  unfold mapG updG
  by_cases e : x = (id : Int)
  · subst e
    rw [if_pos rfl]
    by_cases c : 0 ≤ (id : Int) ∧ (id : Int) < (n : Int)
    · rw [if_pos c, Int.toNat_natCast, if_pos rfl]; rfl
    · rw [if_neg c]
  · rw [if_neg e]
    by_cases c : 0 ≤ x ∧ x < (n : Int)
    · rw [if_pos c, if_pos c, if_neg (by omega)]
    · rw [if_neg c, if_neg c]
theorem mapG_keys (B M : Nat) (g : GSt) (n : Nat) (x : Int) : mapG g n x ≠ none ↔ x ∈ (lstG B M g n).map (·.id) := by
  rw [List.mem_map]
  constructor
  · intro h
    unfold mapG at h
    by_cases c : 0 ≤ x ∧ x < (n : Int)
    · rw [if_pos c] at h
      cases hg : g x.toNat with
      | none => rw [hg] at h; exact absurd rfl h
      | some sk => exact ⟨⟨(x.toNat : Int), (DW B M sk.1 sk.2 : Int), sk.2⟩, mem_lstG.2 ⟨x.toNat, sk.1, sk.2, by omega, hg, rfl⟩, by show (x.toNat : Int) = x; omega⟩
    · rw [if_neg c] at h; exact absurd rfl h
  · rintro ⟨e, he, rfl⟩
    obtain ⟨id, s, k, h1, h2, rfl⟩ := mem_lstG.1 he
    show mapG g n (id : Int) ≠ none
    rw [mapG_at g h1, h2]
    simp
theorem mapG_same {g g' : GSt} {n : Nat} (h : ∀ id, id < n → (g id).map (fun sk => (sk.1 : Int)) = (g' id).map (fun sk => (sk.1 : Int))) : mapG g n = mapG g' n := by
  funext x
  unfold mapG
  by_cases c : 0 ≤ x ∧ x < (n : Int)
  · rw [if_pos c, if_pos c, h _ (by omega)]
  · rw [if_neg c, if_neg c]
/-- A map of the call's own has as many as there are keys. -/
theorem IMap.len {P : Program} {K E t : TypeId} {w : World} {b : Nat} {f : Int → Option Int} (h : IMap P K E w b f) (ht : P.underlying t = some (.map K E)) (hk : P.underlying K = some (.int .i64)) (ks : List Int) (hn : ks.Nodup) (hks : ∀ k, f k ≠ none ↔ k ∈ ks) (ty : TypeId) :
    (Builtin.len_ #[t] ty #[.map (some b)]).run P w = .ok (.int .i64 (ks.length : Int)) w := by
  obtain ⟨n, D, h, h1, h2⟩ := h
  have hr := h.len ht ty
  have hle := size_le_of hk h (ks := ks) (fun j hj => (hks j).1 (by
    by_cases hwj : (Lit.int .i64 j).wf = true
    · rw [(h2 j hwj).1] at hj
      intro e; rw [e] at hj; cases hj
    · exact absurd (has_wf hk h hj) hwj))
  have hge : ks.length ≤ Maps.size D := by
    obtain ⟨es, rfl⟩ := h.isMap
    rw [Maps.size_eq]
    have := nodup_length (ks.map (Lit.int .i64)) (es.map (·.1)) (by rw [List.pairwise_map]; exact hn.imp (fun h e => by injection e with _ e; exact h e)) (fun q hq => by
      obtain ⟨k, hk', rfl⟩ := List.mem_map.1 hq
      cases hf : f k with
      | none => exact absurd hf ((hks k).2 hk')
      | some c =>
        have hh := (h2 k (h1 k c hf).1).1
        rw [hf] at hh
        rw [Maps.has_eq] at hh
        replace hh : (es.any fun p => p.1.sameKey (Lit.int .i64 k)) = true := hh
        rw [List.any_eq_true] at hh
        obtain ⟨p, hp, hpk⟩ := hh
        have e := (WideAt.sameKey_iff (isKey_int k)).1 hpk
        rw [← e]
        exact List.mem_map_of_mem hp)
    simpa using this
  rw [hr]
  congr 2
  omega
end Go.Proofs.Ytncjmdpepdfjbaa
