/- A map from int to int: how many it holds; what TableDrops speaks of, as lists. -/
import Derived.Test.YtfdmjnhhgcidbaaTbL
import Derived.Test.YtfdmjnhhgcidbaaIMap
namespace Mile
open Go Go.RowKit Go.Maps
theorem size_ge_of {P : Program} {K E : TypeId} {w : World} {b n : Nat} {D : DataW Unit} (h : w.ownsMap P K (plainElem P E) b n D) {ks : List Int} (hnd : ks.Pairwise (· ≠ ·)) (hks : ∀ k ∈ ks, Maps.has D (.int .i64 k) = true) : ks.length ≤ Maps.size D := by
  obtain ⟨es, clock, hb, F, hs, rfl⟩ := h
  have hsz : Maps.size (H := Unit) (DataW.map ((es.toList.map (WideElems.rg P K (plainElem P E))).foldr DataW.insert [])) = (es.toList.map (WideElems.rg (H := Unit) P K (plainElem P E))).length := by simp [Maps.size, length_sorted]
  rw [hsz]
  have hh : ∀ k ∈ ks, Lit.int .i64 k ∈ (es.toList.map (WideElems.rg (H := Unit) P K (plainElem P E))).map (·.1) := by
    intro k hk
    have h1 := hks k hk
    rw [Maps.has_eq, List.any_eq_true] at h1
    obtain ⟨p, hp, hpk⟩ := h1
    have e := (WideAt.sameKey_iff (isKey_int k)).1 hpk
    rw [← e]
    exact List.mem_map_of_mem (mem_sorted.1 hp)
  generalize es.toList.map (WideElems.rg (H := Unit) P K (plainElem P E)) = L at *
  have hm : ∀ q ∈ ks.map (Lit.int .i64), q ∈ L.map (·.1) := by
    intro q hq
    obtain ⟨k, hk, rfl⟩ := List.mem_map.1 hq
    exact hh k hk
  have := nodup_length (ks.map (Lit.int .i64)) (L.map (·.1)) (by rw [List.pairwise_map]; exact hnd.imp (fun hne e => hne (by injection e))) hm
  simpa using this
theorem IMap.len {P : Program} {K E t : TypeId} {w : World} {b : Nat} {f : Int → Option Int} (h : IMap P K E w b f) (ht : P.underlying t = some (.map K E)) (hk : P.underlying K = some (.int .i64)) (ks : List Int) (hnd : ks.Pairwise (· ≠ ·)) (hks : ∀ k, f k ≠ none ↔ k ∈ ks) (ty : TypeId) :
    (Builtin.len_ #[t] ty #[.map (some b)]).run P w = .ok (.int .i64 (ks.length : Int)) w := by
  obtain ⟨n, D, h, h1, h2⟩ := h
  have hwf : ∀ k ∈ ks, (Lit.int .i64 k).wf = true := fun k hk => by
    have := (hks k).2 hk
    cases hf : f k with
    | none => exact absurd hf this
    | some c => exact (h1 k c hf).1
  have hle := size_le_of hk h (ks := ks) (fun k hh => (hks k).1 (by
    have hw := has_wf hk h hh
    rw [(h2 k hw).1] at hh
    intro e; rw [e] at hh; cases hh))
  have hge := size_ge_of h hnd (fun k hk' => by
    rw [(h2 k (hwf k hk')).1]
    have := (hks k).2 hk'
    cases hf : f k with
    | none => exact absurd hf this
    | some c => rfl)
  have := World.ownsMap.len h ht ty
  rw [show Maps.size D = ks.length by omega] at this
  exact this
theorem imap_ne {P : Program} {K E : TypeId} {w : World} {b g : Nat} {f : Int → Option Int} {T : TypeId} {cs : List Value} (h : IMap P K E w b f) (hg : Blk w g T cs) : g ≠ b := fun e => by
  subst e
  obtain ⟨n, D, ⟨es, clock, hb, _⟩, _⟩ := h
  unfold Blk at hg
  rw [hg] at hb
  cases hb
end Mile
namespace Go.Proofs.Ytfdmjnhhgcidbaa
open Go.RowKit Mile
set_option maxRecDepth 100000
theorem Tb.zero3 (w : World) : (zeroValue 3).run Try.prog w = .ok (.int .i64 0) w := by
  obtain ⟨iI, hiI, hzI, hsI, hbI⟩ := info_parts Tb.infoI
  simp [zeroValue, typeInfo, hiI, hzI]
theorem liveN_room {es : Nat → TbE} {i : Nat} (hi : i < 16) (h : es i = none) : (liveN es 16).length < 16 := by
  have h1 := nodup_length (liveN es 16) ((List.range 16).erase i) ((liveN_rise es 16).imp (fun h => by omega)) (fun x hx => by
    have h2 := mem_liveN.1 hx
    have hne : x ≠ i := fun e => by rw [e, h] at h2; simp at h2
    exact (List.mem_erase_of_ne hne).2 (List.mem_range.2 h2.1))
  rw [List.length_erase_of_mem (List.mem_range.2 hi), List.length_range] at h1
  omega
/-- What the laws' own map says. -/
structure ThF (es : Nat → TbE) (gr : Nat → Int) (f : Int → Option Int) : Prop where
  at_ : ∀ x : Nat, x < 16 → f (x : Int) = (es x).map fun _ => gr x
  sup : ∀ k, f k ≠ none → 0 ≤ k ∧ k < 16
theorem ThF.nil : ThF (fun _ => none) (fun _ => 0) (fun _ => none) := ⟨fun _ _ => rfl, fun k h => absurd rfl h⟩
theorem ThF.put {es : Nat → TbE} {gr : Nat → Int} {f : Int → Option Int} (h : ThF es gr f) {i : Nat} (hi : i < 16) (c : Int) (y : Nat × Value) : ThF (updT es i (some y)) (updT gr i c) (fun j => if j = (i : Int) then some c else f j) := by
  refine ⟨fun x hx => ?_, fun k hk => ?_⟩
  · by_cases e : x = i
    · subst e; simp [updT_at]
    · rw [updT_ne _ _ e, updT_ne _ _ e, if_neg (by omega)]; exact h.at_ x hx
  · by_cases e : k = (i : Int)
    · omega
    · simp [e] at hk; exact h.sup k hk
theorem ThF.keys {es : Nat → TbE} {gr : Nat → Int} {f : Int → Option Int} (h : ThF es gr f) (k : Int) : f k ≠ none ↔ k ∈ liveI es := by
  constructor
  · intro hk
    obtain ⟨h0, h1⟩ := h.sup k hk
    obtain ⟨i, rfl⟩ := Int.eq_ofNat_of_zero_le h0
    refine (liveI_mem (by omega)).2 ?_
    rw [h.at_ i (by omega)] at hk
    cases he : es i with
    | none => rw [he] at hk; exact absurd rfl hk
    | some y => rfl
  · intro hk
    unfold liveI at hk
    obtain ⟨i, hi, rfl⟩ := List.mem_map.1 hk
    obtain ⟨h1, h2⟩ := mem_liveN.1 hi
    rw [h.at_ i h1]
    obtain ⟨y, hy⟩ := Option.isSome_iff_exists.1 h2
    rw [hy]; simp
theorem liveI_nd (es : Nat → TbE) : (liveI es).Pairwise (· ≠ ·) := by
  unfold liveI
  rw [List.pairwise_map]
  exact (liveN_rise es 16).imp (fun h => by omega)
theorem filter_split {α : Type} (p q : α → Bool) : ∀ l : List α, (l.filter p).length = (l.filter fun x => p x && q x).length + (l.filter fun x => p x && !q x).length
  | [] => rfl
  | x :: l => by
    have ih := filter_split p q l
    by_cases hp : p x <;> by_cases hq : q x <;> simp [hp, hq, ih] <;> omega
theorem gone_left (es : Nat → TbE) (ps : List Int) : (liveN es 16).length = (goneN (lvF es ps ps.length) 16).length + (liveN (dropE es ps) 16).length := by
  have h := filter_split (fun i => (es i).isSome) (fun i : Nat => decide ((i : Int) ∈ ps)) (List.range 16)
  have h1 : (List.range 16).filter (fun i => (es i).isSome && decide ((i : Int) ∈ ps)) = goneN (lvF es ps ps.length) 16 := by
    unfold goneN lvF; rw [List.take_length]
  have h2 : (List.range 16).filter (fun i => (es i).isSome && !decide ((i : Int) ∈ ps)) = liveN (dropE es ps) 16 := by
    unfold liveN
    refine List.filter_congr fun i _ => ?_
    unfold dropE
    by_cases e : (i : Int) ∈ ps <;> simp [e]
  rw [h1, h2] at h
  exact h
theorem goneN_at {lv : Nat → Bool} {q j : Nat} (h : lv q = true) (hq : q < j) : (goneN lv j)[(goneN lv q).length]? = some q := by
  have hs : ∃ R, goneN lv j = goneN lv (q + 1) ++ R := by
    unfold goneN
    refine ⟨((List.range j).drop (q + 1)).filter lv, ?_⟩
    rw [← List.filter_append]
    congr 1
    have : List.range (q + 1) = (List.range j).take (q + 1) := by rw [List.take_range, Nat.min_eq_left (by omega)]
    rw [this, List.take_append_drop]
  obtain ⟨R, hR⟩ := hs
  rw [hR, goneN_succ, h]
  simp
end Go.Proofs.Ytfdmjnhhgcidbaa
