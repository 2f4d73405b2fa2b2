/- Maps from int to int of the call's own, as a function. -/
import Derived.Test.YtjjedebjbgpimaaGreatKBase
import Derived.Maps.OwnSet
import Derived.Maps.OwnOps
import Derived.Maps.Range
import Derived.Test.YtjjedebjbgpimaaGreatRows
import Derived.BigRegion
import Derived.BigQuiet
import Derived.StillTailTactics
import Derived.Deep.QuietTactic
import Derived.Deep.DeepCutAuto
namespace Mile
open Go Go.RowKit

theorem i64_wf (n : Int) : (Lit.int .i64 n).wf = true ↔ -9223372036854775808 ≤ n ∧ n ≤ 9223372036854775807 := by
 simp [Lit.wf, IntKind.min, IntKind.max, IntKind.signed, IntKind.bits]

def IMap (P : Program) (K E : TypeId) (w : World) (b : Nat) (f : Int → Option Int) : Prop :=
 ∃ n D, w.ownsMap (H := Unit) P K (plainElem P E) b n D ∧ (∀ k c, f k = some c → (Lit.int .i64 k).wf = true ∧ (Lit.int .i64 c).wf = true) ∧
  ∀ k, (Lit.int .i64 k).wf = true → Maps.has D (.int .i64 k) = (f k).isSome ∧ D.atKey (.int .i64 k) (.lit (.int .i64 0)) = .lit (.int .i64 ((f k).getD 0))

theorem IMap.lt {P : Program} {K E : TypeId} {w : World} {b : Nat} {f : Int → Option Int} (h : IMap P K E w b f) : b < w.heap.size := by
 obtain ⟨n, D, h, _⟩ := h; exact h.lt
theorem IMap.keep {P : Program} {K E : TypeId} {w w' : World} {b : Nat} {f : Int → Option Int} {G : Nat → Prop} (h : IMap P K E w b f) (hm : Mod G w w') (hb : ¬ G b) : IMap P K E w' b f := by
 obtain ⟨n, D, h, h2⟩ := h
 have hlt := h.lt
 obtain ⟨es, clock, hbk, F, hs, hD⟩ := h
 exact ⟨n, D, ⟨es, clock, (hm.block b hlt hb).trans hbk, F, hs, hD⟩, h2⟩
theorem IMap.made {P : Program} {K E : TypeId} (w : World) : IMap P K E (w.alloc (.map #[] 0)) w.heap.size (fun _ => none) :=
 ⟨0, .map [], World.ownsMap_made _ _ _ _, by simp, fun k _ => ⟨rfl, rfl⟩⟩

theorem IMap.look {P : Program} {K E t : TypeId} {w : World} {b : Nat} {f : Int → Option Int} (h : IMap P K E w b f) (ht : P.underlying t = some (.map K E)) (hk : P.underlying K = some (.int .i64)) (he : P.underlying E = some (.int .i64))
  (hz : (zeroValue E).run P w = .ok (.int .i64 0) w) (k : Int) (hw : (Lit.int .i64 k).wf = true) :
  (Instr.lookup t (.map (some b)) (.int .i64 k) true).run P w = .ok (.tuple #[.int .i64 ((f k).getD 0), .bool (f k).isSome]) w := by
 obtain ⟨n, D, h, h1, h2⟩ := h
 obtain ⟨v, ps, hrun, hv⟩ := h.look_ok (Maps.int_keyed hk) ht hz (plainElem_int he (by decide)) (Maps.keyOf_int_mk hk hw)
 obtain ⟨c, rfl, hc, hwc⟩ := plainElem_int_inv he hv
 simp only [Prod.mk.injEq] at hc
 rw [(h2 k hw).1, ] at hrun
 rw [(h2 k hw).2] at hc
 have hc := hc.1
 injection hc with hc
 injection hc with _ hc
 rw [hrun, hc]

theorem look_none {P : Program} {K E t : TypeId} {w : World} (ht : P.underlying t = some (.map K E)) (hk : P.underlying K = some (.int .i64)) (hz : (zeroValue E).run P w = .ok (.int .i64 0) w) (k : Int) (hw : (Lit.int .i64 k).wf = true) :
  (Instr.lookup t (.map none) (.int .i64 k) true).run P w = .ok (.tuple #[.int .i64 0, .bool false]) w := by
 have h := Maps.look_nil (w := w) true (Maps.int_keyed hk) ht hz (Maps.keyOf_int_mk hk hw)
 simpa using h

theorem isKey_int (k : Int) : WideAt.IsKeyLit (.int .i64 k) := trivial

theorem own_tight {P : Program} {K E : TypeId} {w : World} {b n : Nat} {D : DataW Unit} (h : w.ownsMap P K (plainElem P E) b n D) : w.ownsMap P K (plainElem P E) b (Maps.size D) D := by
 obtain ⟨es, clock, hb, F, hs, rfl⟩ := h
 exact ⟨es, clock, hb, F, by simp [Maps.size, length_sorted], rfl⟩

theorem nodup_length {α : Type} : ∀ (l ks : List α), l.Pairwise (· ≠ ·) → (∀ x ∈ l, x ∈ ks) → l.length ≤ ks.length := by
 classical
 intro l
 induction l with
 | nil => intro ks _ _; exact Nat.zero_le _
 | cons x l ih =>
  intro ks hp hs
  rw [List.pairwise_cons] at hp
  have hx := hs x (by simp)
  have h := ih (ks.erase x) hp.2 (fun y hy => (List.mem_erase_of_ne (Ne.symm (hp.1 y hy))).2 (hs y (by simp [hy])))
  rw [List.length_erase_of_mem hx] at h
  have := List.length_pos_of_mem hx
  rw [List.length_cons]; omega

theorem keyOf_int_inv {P : Program} {K : TypeId} (hk : P.underlying K = some (.int .i64)) {v : Value} {l : Lit} (h : keyOf P K v = some l) : ∃ k : Int, l = .int .i64 k := by
 cases v <;> simp [keyOf, mapKey, hk] at h
 ·
  obtain ⟨_, _, rfl⟩ := h
  exact ⟨_, rfl⟩

theorem has_wf {P : Program} {K E : TypeId} {w : World} {b n : Nat} {D : DataW Unit} (hk : P.underlying K = some (.int .i64)) (h : w.ownsMap P K (plainElem P E) b n D) {j : Int} (hj : Maps.has D (.int .i64 j) = true) : (Lit.int .i64 j).wf = true := by
 obtain ⟨es, clock, hb, F, hs, rfl⟩ := h
 rw [Maps.has_eq, List.any_eq_true] at hj
 obtain ⟨p, hp, hpk⟩ := hj
 obtain ⟨v, hv⟩ := Maps.fit_keys F p (mem_sorted.1 hp)
 have e := (WideAt.sameKey_iff (isKey_int j)).1 hpk
 rw [e] at hv
 cases v <;> simp [keyOf, mapKey, hk] at hv
 obtain ⟨⟨rfl, h1⟩, rfl⟩ := hv
 exact h1

theorem size_le_of {P : Program} {K E : TypeId} {w : World} {b n : Nat} {D : DataW Unit} (hk : P.underlying K = some (.int .i64)) (h : w.ownsMap P K (plainElem P E) b n D) {ks : List Int} (hks : ∀ k, Maps.has D (.int .i64 k) = true → k ∈ ks) : Maps.size D ≤ ks.length := by
 obtain ⟨es, clock, hb, F, hs, rfl⟩ := h
 have hkeys := Maps.fit_keys F
 have happ := Maps.fit_apart (Maps.int_keyed hk) F
 have hsz : Maps.size (H := Unit) (DataW.map ((es.toList.map (WideElems.rg P K (plainElem P E))).foldr DataW.insert [])) = (es.toList.map (WideElems.rg (H := Unit) P K (plainElem P E))).length := by simp [Maps.size, length_sorted]
 rw [hsz]
 have hh : ∀ p ∈ es.toList.map (WideElems.rg (H := Unit) P K (plainElem P E)), ∃ k ∈ ks, p.1 = .int .i64 k := by
  intro p hp
  obtain ⟨v, hv⟩ := hkeys p hp
  obtain ⟨k, hkk⟩ := keyOf_int_inv hk hv
  refine ⟨k, hks k ?_, hkk⟩
  rw [Maps.has_eq, List.any_eq_true]
  exact ⟨p, mem_sorted.2 hp, by rw [hkk]; exact (WideAt.sameKey_iff (isKey_int k)).2 rfl⟩
 generalize es.toList.map (WideElems.rg (H := Unit) P K (plainElem P E)) = L at *
 have hm : ∀ q ∈ L.map (·.1), q ∈ ks.map (Lit.int .i64) := by
  intro q hq
  obtain ⟨p, hp, rfl⟩ := List.mem_map.1 hq
  obtain ⟨k, hk', e⟩ := hh p hp
  rw [e]; exact List.mem_map_of_mem hk'
 have := nodup_length (L.map (·.1)) (ks.map (Lit.int .i64)) (by rw [List.pairwise_map]; exact happ) hm
 simpa using this

theorem IMap.store {P : Program} {K E t : TypeId} {w : World} {b : Nat} {f : Int → Option Int} (h : IMap P K E w b f) (ht : P.underlying t = some (.map K E)) (hk : P.underlying K = some (.int .i64)) (he : P.underlying E = some (.int .i64))
  (ks : List Int) (hks : ∀ k, f k ≠ none → k ∈ ks) (hl : ks.length < maxLen) (k c : Int) (hw : (Lit.int .i64 k).wf = true) (hc : (Lit.int .i64 c).wf = true) :
  ∃ w', (Instr.mapUpdate t (.map (some b)) (.int .i64 k) (.int .i64 c)).run P w = .ok () w' ∧ IMap P K E w' b (fun j => if j = k then some c else f j) ∧ Mod (fun i => i = b) w w' := by
 obtain ⟨n, D, h, h1, h2⟩ := h
 have hsz := size_le_of hk h (ks := ks) (fun j hj => hks j (by
  by_cases hwj : (Lit.int .i64 j).wf = true
  ·
   rw [(h2 j hwj).1] at hj
   intro e; rw [e] at hj; cases hj
  ·
   exact absurd (has_wf hk h hj) hwj))
 obtain ⟨w', hrun, hown, hg⟩ := (own_tight h).update (Maps.int_keyed hk) ht (by omega) (Maps.keyOf_int_mk hk hw) (plainElem_int he hc)
 refine ⟨w', hrun, ⟨_, _, hown, ?_, ?_⟩, ?_⟩
 ·
  intro j d hj
  by_cases e : j = k
  ·
   subst e; simp at hj; subst hj; exact ⟨hw, hc⟩
  ·
   simp [e] at hj; exact h1 j d hj
 ·
  intro j hj
  by_cases e : j = k
  ·
   subst e
   simp [Maps.has_put_same h.isMap (isKey_int j), Maps.atKey_put_same h.isMap (isKey_int j)]
  ·
   have hne : (Lit.int .i64 j) ≠ .int .i64 k := by intro h; injection h with _ h; exact e h
   rw [Maps.has_put_other hne, Maps.atKey_put_other hne]
   simpa [e] using h2 j hj
 ·
  exact (Mod.ofGrown hg).mono (fun i _ h => (Option.some.inj h).symm)

theorem IMap.drop {P : Program} {K E t : TypeId} {w : World} {b : Nat} {f : Int → Option Int} (h : IMap P K E w b f) (ht : P.underlying t = some (.map K E)) (hk : P.underlying K = some (.int .i64)) (k : Int) (hw : (Lit.int .i64 k).wf = true) (ty : TypeId) :
  ∃ w', (Builtin.delete_ #[t, K] ty #[.map (some b), .int .i64 k]).run P w = .ok (.tuple #[]) w' ∧ IMap P K E w' b (fun j => if j = k then none else f j) ∧ Mod (fun i => i = b) w w' := by
 obtain ⟨n, D, h, h1, h2⟩ := h
 obtain ⟨w', hrun, hown, hg⟩ := h.drop (Maps.int_keyed hk) ht (Maps.keyOf_int_mk hk hw) ty
 refine ⟨w', hrun, ⟨_, _, hown, ?_, ?_⟩, ?_⟩
 ·
  intro j d hj
  by_cases e : j = k
  ·
   subst e; simp at hj
  ·
   simp [e] at hj; exact h1 j d hj
 ·
  intro j hj
  by_cases e : j = k
  ·
   subst e
   simp [Maps.has_del_same, Maps.atKey_del_same]
  ·
   have hne : (Lit.int .i64 j) ≠ .int .i64 k := by intro h; injection h with _ h; exact e h
   rw [Maps.has_del_other hne, Maps.atKey_del_other hne]
   simpa [e] using h2 j hj
 ·
  exact (Mod.ofGrown hg.grown).mono (fun i _ h => (Option.some.inj h).symm)

end Mile
/- Heaps of numbers with keys, as lists: what rising and sinking come to; the sorted list that a heap stands for. -/
namespace Mile

abbrev It := Int × Int
def bef (x y : It) : Bool := decide (x.2 < y.2) || (decide (x.2 = y.2) && decide (x.1 < y.1))

theorem bef_iff (x y : It) : bef x y = true ↔ x.2 < y.2 ∨ (x.2 = y.2 ∧ x.1 < y.1) := by simp [bef]
theorem bef_not (x y : It) : bef x y = false ↔ y.2 < x.2 ∨ (x.2 = y.2 ∧ y.1 ≤ x.1) := by
 rw [← Bool.not_eq_true, bef_iff]; omega
theorem bef_irrefl (x : It) : bef x x = false := by rw [bef_not]; omega
theorem bef_asymm {x y : It} (h : bef x y = true) : bef y x = false := by rw [bef_iff] at h; rw [bef_not]; omega
theorem bef_trans {x y z : It} (h : bef x y = true) (k : bef y z = true) : bef x z = true := by rw [bef_iff] at *; omega
theorem nbef_trans {x y z : It} (h : bef x y = false) (k : bef y z = false) : bef x z = false := by rw [bef_not] at *; omega
theorem bef_of_not {x y : It} (h : bef x y = false) : x = y ∨ bef y x = true := by
 rw [bef_not] at h; rw [bef_iff]
 rcases h with h | h
 ·
  exact .inr (.inl h)
 ·
  by_cases e : x.1 = y.1
  ·
   exact .inl (Prod.ext e h.1)
  ·
   exact .inr (.inr ⟨h.1.symm, by omega⟩)

def g (l : List It) (i : Nat) : It := l.getD i (0, 0)
theorem g_eq (l : List It) (i : Nat) (h : i < l.length) : g l i = l[i] := by simp [g, List.getD, h]
theorem g_set (l : List It) (i : Nat) (x : It) (j : Nat) (h : i < l.length) : g (l.set i x) j = if j = i then x else g l j := by
 unfold g
 rw [List.getD, List.getD, List.getElem?_set]
 by_cases e : i = j
 ·
  subst e; simp [h]
 ·
  rw [if_neg e, if_neg (Ne.symm e)]

def HOrd (l : List It) : Prop := ∀ i, 0 < i → i < l.length → bef (g l i) (g l ((i - 1) / 2)) = false

def UpInv (l : List It) (h : Nat) (x : It) : Prop :=
 (∀ i, 0 < i → i < l.length → i ≠ h → bef (g (l.set h x) i) (g (l.set h x) ((i - 1) / 2)) = false) ∧
 (∀ c, 0 < c → c < l.length → (c - 1) / 2 = h → 0 < h → bef (g l c) (g l ((h - 1) / 2)) = false)
def DownInv (l : List It) (h : Nat) (x : It) : Prop :=
 (∀ i, 0 < i → i < l.length → (i - 1) / 2 ≠ h → bef (g (l.set h x) i) (g (l.set h x) ((i - 1) / 2)) = false) ∧
 (∀ c, 0 < c → c < l.length → (c - 1) / 2 = h → 0 < h → bef (g l c) (g l ((h - 1) / 2)) = false)

theorem up_stop {l : List It} {h : Nat} {x : It} (hl : h < l.length) (hi : UpInv l h x) (hs : h = 0 ∨ bef x (g l ((h - 1) / 2)) = false) : HOrd (l.set h x) := by
 intro i h0 hil
 rw [List.length_set] at hil
 by_cases e : i = h
 ·
  subst e
  rw [g_set l i x i hl, if_pos rfl, g_set l i x _ hl, if_neg (by omega)]
  rcases hs with hs | hs
  ·
   omega
  ·
   exact hs
 ·
  exact hi.1 i h0 hil e

theorem up_step {l : List It} {h : Nat} {x : It} (hl : h < l.length) (h0 : 0 < h) (hi : UpInv l h x) (hb : bef x (g l ((h - 1) / 2)) = true) :
  UpInv (l.set h (g l ((h - 1) / 2))) ((h - 1) / 2) x := by
 obtain ⟨h1, h2⟩ := hi
 obtain ⟨u, hu⟩ : ∃ u, (h - 1) / 2 = u := ⟨_, rfl⟩
 rw [hu] at hb h2 ⊢
 have hul : u < l.length := by omega
 have huh : u ≠ h := by omega
 refine ⟨fun i i0 il iu => ?_, fun c c0 cl cu u0 => ?_⟩
 ·
  rw [List.length_set] at il
  have hlen : u < (l.set h (g l u)).length := by rw [List.length_set]; exact hul
  rw [g_set _ u x i hlen, g_set _ u x _ hlen, if_neg iu, g_set l h _ i hl, g_set l h _ _ hl]
  by_cases e : i = h
  ·
   subst e
   rw [if_pos rfl, if_pos hu]
   exact bef_asymm hb
  ·
   rw [if_neg e]
   by_cases e2 : (i - 1) / 2 = u
   ·
    rw [if_pos e2]
    have := h1 i i0 il e
    rw [g_set l h x i hl, g_set l h x _ hl, if_neg e, e2, if_neg huh] at this
    cases hx : bef (g l i) x with
    | false => rfl
    | true => rw [bef_trans hx hb] at this; cases this
   ·
    rw [if_neg e2]
    by_cases e3 : (i - 1) / 2 = h
    ·
     rw [if_pos e3]
     exact h2 i i0 il e3 h0
    ·
     rw [if_neg e3]
     have := h1 i i0 il e
     rw [g_set l h x i hl, g_set l h x _ hl, if_neg e, if_neg e3] at this
     exact this
 ·
  rw [List.length_set] at cl
  rw [g_set l h _ c hl, g_set l h _ _ hl, if_neg (by omega : (u - 1) / 2 ≠ h)]
  have hup := h1 u u0 hul huh
  rw [g_set l h x u hl, g_set l h x _ hl, if_neg huh, if_neg (by omega)] at hup
  by_cases e : c = h
  ·
   rw [if_pos e]; exact hup
  ·
   rw [if_neg e]
   have := h1 c c0 cl e
   rw [g_set l h x c hl, g_set l h x _ hl, if_neg e, cu, if_neg huh] at this
   exact nbef_trans this hup

theorem down_stop {l : List It} {h : Nat} {x : It} (hl : h < l.length) (hi : DownInv l h x) (hs : ∀ c, 0 < c → c < l.length → (c - 1) / 2 = h → bef (g l c) x = false) : HOrd (l.set h x) := by
 intro i h0 hil
 rw [List.length_set] at hil
 by_cases e : (i - 1) / 2 = h
 ·
  rw [e, g_set l h x i hl, g_set l h x h hl, if_pos rfl, if_neg (by omega)]
  exact hs i h0 hil e
 ·
  exact hi.1 i h0 hil e

theorem down_step {l : List It} {h d : Nat} {x : It} (hl : h < l.length) (hd : d < l.length) (d0 : 0 < d) (hdh : (d - 1) / 2 = h) (hi : DownInv l h x) (hb : bef (g l d) x = true)
  (hs : ∀ c, 0 < c → c < l.length → (c - 1) / 2 = h → bef (g l c) (g l d) = false) : DownInv (l.set h (g l d)) d x := by
 obtain ⟨h1, h2⟩ := hi
 have hne : d ≠ h := by omega
 refine ⟨fun i i0 il id => ?_, fun c c0 cl cd _ => ?_⟩
 ·
  rw [List.length_set] at il
  have hlen : d < (l.set h (g l d)).length := by rw [List.length_set]; exact hd
  rw [g_set _ d x i hlen, g_set _ d x _ hlen, if_neg id, g_set l h _ i hl, g_set l h _ _ hl]
  by_cases e : i = d
  ·
   subst e
   rw [if_pos rfl, if_pos hdh]
   exact bef_asymm hb
  ·
   rw [if_neg e]
   by_cases e2 : (i - 1) / 2 = h
   ·
    rw [if_pos e2, if_neg (by omega)]
    exact hs i i0 il e2
   ·
    rw [if_neg e2]
    by_cases e3 : i = h
    ·
     rw [if_pos e3]
     subst e3
     exact h2 d d0 hd hdh i0
    ·
     rw [if_neg e3]
     have := h1 i i0 il e2
     rw [g_set l h x i hl, g_set l h x _ hl, if_neg e3, if_neg e2] at this
     exact this
 ·
  rw [List.length_set] at cl
  rw [hdh, g_set l h _ c hl, g_set l h _ _ hl, if_pos rfl, if_neg (by omega)]
  have := h1 c c0 cl (by omega)
  rw [g_set l h x c hl, g_set l h x _ hl, if_neg (by omega), cd, if_neg hne] at this
  exact this

theorem hole_perm (l : List It) (h d : Nat) (x : It) (hl : h < l.length) (hd : d < l.length) (hne : d ≠ h) : ((l.set h (g l d)).set d x).Perm (l.set h x) := by
 have e : (l.set h (g l d)).set d x = ((l.set h x).set h (g l d)).set d x := by rw [List.set_set]
 have e1 : (l.set h x)[d]'(by simpa using hd) = g l d := by rw [List.getElem_set_ne (Ne.symm hne), g_eq]
 have e2 : (l.set h x)[h]'(by simpa using hl) = x := by simp
 have := List.set_set_perm («as» := l.set h x) (i := h) (j := d) (by simpa using hl) (by simpa using hd)
 rw [e1, e2] at this
 rw [e]; exact this

/-! the map of places -/
def Good (f : Int → Option Int) (l : List It) (h : Nat) (x : It) : Prop := ∀ k, k ≠ x.1 → ∀ j, f k = some j ↔ ∃ i : Nat, j = i ∧ i < l.length ∧ i ≠ h ∧ (g l i).1 = k
def Full (f : Int → Option Int) (l : List It) : Prop := ∀ k j, f k = some j ↔ ∃ i : Nat, j = i ∧ i < l.length ∧ (g l i).1 = k
def updf (f : Int → Option Int) (k : Int) (c : Int) : Int → Option Int := fun j => if j = k then some c else f j

theorem Good.step {f : Int → Option Int} {l : List It} {h d : Nat} {x : It} (hl : h < l.length) (hd : d < l.length) (hne : d ≠ h) (hG : Good f l h x) (_ : (g l d).1 ≠ x.1) : Good (updf f (g l d).1 h) (l.set h (g l d)) d x := by
 intro k hk j
 rw [List.length_set]
 by_cases e : k = (g l d).1
 ·
  subst e
  simp only [updf, if_true]
  constructor
  ·
   intro hj
   cases hj
   exact ⟨h, rfl, hl, Ne.symm hne, by rw [g_set l h _ h hl, if_pos rfl]⟩
  ·
   rintro ⟨i, rfl, il, id, hi⟩
   rw [g_set l h _ i hl] at hi
   by_cases e2 : i = h
   ·
    rw [e2]
   ·
    rw [if_neg e2] at hi
    have h1 := (hG _ hk (i : Int)).2 ⟨i, rfl, il, e2, hi⟩
    have h2 := (hG _ hk (d : Int)).2 ⟨d, rfl, hd, hne, rfl⟩
    rw [h1] at h2
    have : (i : Int) = (d : Int) := Option.some.inj h2
    omega
 ·
  simp only [updf, if_neg e]
  rw [hG k hk j]
  constructor
  ·
   rintro ⟨i, rfl, il, ih, hi⟩
   exact ⟨i, rfl, il, fun e2 => e (by rw [← hi, e2]), by rw [g_set l h _ i hl, if_neg ih]; exact hi⟩
  ·
   rintro ⟨i, rfl, il, id, hi⟩
   rw [g_set l h _ i hl] at hi
   by_cases e2 : i = h
   ·
    rw [if_pos e2] at hi; exact absurd hi.symm e
   ·
    rw [if_neg e2] at hi; exact ⟨i, rfl, il, e2, hi⟩

theorem Good.done {f : Int → Option Int} {l : List It} {h : Nat} {x : It} (hl : h < l.length) (hG : Good f l h x) (hx : ∀ i, i < l.length → i ≠ h → (g l i).1 ≠ x.1) : Full (updf f x.1 h) (l.set h x) := by
 intro k j
 rw [List.length_set]
 by_cases e : k = x.1
 ·
  subst e
  simp only [updf, if_true]
  constructor
  ·
   intro hj; cases hj
   exact ⟨h, rfl, hl, by rw [g_set l h _ h hl, if_pos rfl]⟩
  ·
   rintro ⟨i, rfl, il, hi⟩
   rw [g_set l h _ i hl] at hi
   by_cases e2 : i = h
   ·
    rw [e2]
   ·
    rw [if_neg e2] at hi; exact absurd hi (hx i il e2)
 ·
  simp only [updf, if_neg e]
  rw [hG k e j]
  constructor
  ·
   rintro ⟨i, rfl, il, ih, hi⟩
   exact ⟨i, rfl, il, by rw [g_set l h _ i hl, if_neg ih]; exact hi⟩
  ·
   rintro ⟨i, rfl, il, hi⟩
   rw [g_set l h _ i hl] at hi
   by_cases e2 : i = h
   ·
    rw [if_pos e2] at hi; exact absurd hi.symm e
   ·
    rw [if_neg e2] at hi; exact ⟨i, rfl, il, e2, hi⟩

theorem Good.keys {f : Int → Option Int} {l : List It} {h : Nat} {x : It} (hG : Good f l h x) : ∀ k, f k ≠ none → k ∈ x.1 :: l.map (·.1) := by
 intro k hk
 by_cases e : k = x.1
 ·
  rw [e]; simp
 ·
  obtain ⟨j, hj⟩ := Option.ne_none_iff_exists'.1 hk
  obtain ⟨i, _, il, _, hi⟩ := (hG k e j).1 hj
  rw [g_eq l i il] at hi
  rw [List.mem_cons, List.mem_map]
  exact .inr ⟨l[i], List.getElem_mem il, hi⟩
end Mile
namespace Mile

def Srt (S : List It) : Prop := S.Pairwise (fun x y => bef x y = true)
def Ids (S : List It) : Prop := (S.map (·.1)).Pairwise (· ≠ ·)

def keyS (S : List It) (id : Int) : Option Int := (S.find? (fun x => x.1 == id)).map (·.2)
def insS (S : List It) (x : It) : List It := S.takeWhile (fun y => bef y x) ++ x :: S.dropWhile (fun y => bef y x)
def dropS (S : List It) (id : Int) : List It := S.filter (fun y => y.1 != id)
def pushS (S : List It) (id key : Int) : Bool × List It :=
 match keyS S id with
 | some k => if k ≤ key then (false, S) else (true, insS (dropS S id) (id, key))
 | none => (true, insS S (id, key))

theorem insS_perm (S : List It) (x : It) : (insS S x).Perm (x :: S) := by
 unfold insS
 refine List.perm_middle.trans ?_
 rw [List.takeWhile_append_dropWhile]

theorem ids_perm {S T : List It} (h : S.Perm T) (hi : Ids S) : Ids T := (h.map _).pairwise hi (fun {_ _} e => Ne.symm e)
theorem ids_drop {S : List It} (h : Ids S) (id : Int) : Ids (dropS S id) := by
 unfold Ids dropS at *
 exact h.sublist (List.Sublist.map _ List.filter_sublist)
theorem srt_drop {S : List It} (h : Srt S) (id : Int) : Srt (dropS S id) := List.Pairwise.filter _ h
theorem mem_dropS {S : List It} {id : Int} {x : It} : x ∈ dropS S id ↔ x ∈ S ∧ x.1 ≠ id := by simp [dropS]

theorem srt_ins {S : List It} {x : It} (h : Srt S) (hx : x ∉ S) : Srt (insS S x) := by
 unfold insS Srt
 induction S with
 | nil => simp
 | cons y S ih =>
  rw [Srt, List.pairwise_cons] at h
  have hxS : x ∉ S := fun e => hx (by simp [e])
  have hne : x ≠ y := fun e => hx (by simp [e])
  cases hb : bef y x with
  | true =>
   simp only [List.takeWhile_cons, List.dropWhile_cons, hb, if_true]
   rw [List.cons_append, List.pairwise_cons]
   refine ⟨fun z hz => ?_, ih h.2 hxS⟩
   have hz' := (insS_perm S x).mem_iff.1 hz
   rw [List.mem_cons] at hz'
   rcases hz' with e | e
   ·
    rw [e]; exact hb
   ·
    exact h.1 z e
  | false =>
   simp only [List.takeWhile_cons, List.dropWhile_cons, hb, Bool.false_eq_true, if_false]
   rw [List.nil_append, List.pairwise_cons]
   have hxy : bef x y = true := by
    rcases bef_of_not hb with e | e
    ·
     exact absurd e.symm hne
    ·
     exact e
   refine ⟨fun z hz => ?_, by rw [List.pairwise_cons]; exact h⟩
   rw [List.mem_cons] at hz
   rcases hz with e | e
   ·
    rw [e]; exact hxy
   ·
    exact bef_trans hxy (h.1 z e)

theorem keyS_none {S : List It} {id : Int} (h : ∀ x ∈ S, x.1 ≠ id) : keyS S id = none := by
 unfold keyS
 rw [List.find?_eq_none.2 (fun x hx => by simpa using h x hx)]; rfl
theorem keyS_some {S : List It} {id : Int} (hi : Ids S) {x : It} (hx : x ∈ S) (he : x.1 = id) : keyS S id = some x.2 := by
 unfold keyS
 induction S with
 | nil => cases hx
 | cons y S ih =>
  unfold Ids at hi
  rw [List.map_cons, List.pairwise_cons] at hi
  rw [List.find?_cons]
  by_cases e : y.1 = id
  ·
   have : y = x := by
    rcases List.mem_cons.1 hx with h | h
    ·
     exact h.symm
    ·
     exact absurd (e.trans he.symm) (hi.1 x.1 (List.mem_map_of_mem h))
   subst this
   simp [e]
  ·
   have : (y.1 == id) = false := by simpa using e
   rw [this]
   rcases List.mem_cons.1 hx with h | h
   ·
    subst h; exact absurd he e
   ·
    exact ih hi.2 h
theorem keyS_inv {S : List It} {id k : Int} (h : keyS S id = some k) : (id, k) ∈ S := by
 unfold keyS at h
 obtain ⟨x, hx, hk⟩ := Option.map_eq_some_iff.1 h
 have h1 := List.mem_of_find?_eq_some hx
 have h2 := List.find?_some hx
 simp at h2
 have : x = (id, k) := Prod.ext h2 hk
 rwa [this] at h1
theorem keyS_none_inv {S : List It} {id : Int} (h : keyS S id = none) : ∀ x ∈ S, x.1 ≠ id := by
 unfold keyS at h
 rw [Option.map_eq_none_iff, List.find?_eq_none] at h
 intro x hx e
 exact h x hx (by simpa using e)

theorem pushS_ok {S : List It} (hs : Srt S) (hi : Ids S) (id key : Int) : Srt (pushS S id key).2 ∧ Ids (pushS S id key).2 := by
 unfold pushS
 have hins : ∀ T : List It, Srt T → Ids T → (∀ x ∈ T, x.1 ≠ id) → Srt (insS T (id, key)) ∧ Ids (insS T (id, key)) := by
  intro T h1 h2 h3
  refine ⟨srt_ins h1 (fun e => h3 _ e rfl), ids_perm (insS_perm T (id, key)).symm ?_⟩
  unfold Ids at h2 ⊢
  rw [List.map_cons, List.pairwise_cons]
  refine ⟨fun k hk => ?_, h2⟩
  obtain ⟨x, hx, rfl⟩ := List.mem_map.1 hk
  exact Ne.symm (h3 x hx)
 split
 ·
  split
  ·
   exact ⟨hs, hi⟩
  ·
   exact hins _ (srt_drop hs id) (ids_drop hi id) (fun x hx => (mem_dropS.1 hx).2)
 ·
  rename_i h
  exact hins S hs hi (keyS_none_inv h)

/-! of a heap's list -/
theorem getElem_g {l : List It} {i : Nat} (h : i < l.length) : l[i] = g l i := (g_eq l i h).symm
theorem g_mem {l : List It} {i : Nat} (h : i < l.length) : g l i ∈ l := by rw [g_eq l i h]; exact List.getElem_mem h
theorem mem_g {l : List It} {x : It} (h : x ∈ l) : ∃ i, i < l.length ∧ g l i = x := by
 obtain ⟨i, hi, e⟩ := List.getElem_of_mem h
 exact ⟨i, hi, by rw [g_eq l i hi]; exact e⟩
theorem ids_g {l : List It} (h : Ids l) {i j : Nat} (hi : i < l.length) (hj : j < l.length) (e : (g l i).1 = (g l j).1) : i = j := by
 unfold Ids at h
 rw [List.pairwise_iff_getElem] at h
 rcases Nat.lt_trichotomy i j with hlt | heq | hgt
 ·
  have := h i j (by simpa using hi) (by simpa using hj) hlt
  simp [getElem_g] at this
  exact absurd e this
 ·
  exact heq
 ·
  have := h j i (by simpa using hj) (by simpa using hi) hgt
  simp [getElem_g] at this
  exact absurd e.symm this

theorem hord_min {l : List It} (h : HOrd l) : ∀ i, i < l.length → bef (g l i) (g l 0) = false := by
 intro i
 induction i using Nat.strongRecOn with
 | _ i ih =>
  intro hi
  by_cases h0 : i = 0
  ·
   subst h0; exact bef_irrefl _
  ·
   exact nbef_trans (h i (by omega) hi) (ih ((i - 1) / 2) (by omega) (by omega))

theorem head_min {l : List It} {s : It} {S : List It} (h : HOrd l) (hp : l.Perm (s :: S)) (hs : Srt (s :: S)) : g l 0 = s := by
 have hlen : 0 < l.length := by rw [hp.length_eq]; simp
 obtain ⟨i, hi, e⟩ := mem_g (hp.mem_iff.2 (List.mem_cons_self : s ∈ s :: S))
 have h1 := hord_min h i hi
 rw [e] at h1
 have h2 : g l 0 ∈ s :: S := hp.mem_iff.1 (g_mem hlen)
 rcases List.mem_cons.1 h2 with h2 | h2
 ·
  exact h2
 ·
  rw [Srt, List.pairwise_cons] at hs
  rw [hs.1 _ h2] at h1
  cases h1

theorem set_perm : ∀ {l : List It} {i : Nat} (_ : i < l.length) (x : It), (l.set i x).Perm (x :: l.eraseIdx i)
 | [], _, h, _ => by simp at h
 | y :: l, 0, _, x => by simp
 | y :: l, i + 1, h, x => by
  rw [List.set_cons_succ, List.eraseIdx_cons_succ]
  exact ((set_perm (by simpa using h) x).cons y).trans (List.Perm.swap x y _)
theorem get_perm : ∀ {l : List It} {i : Nat} (h : i < l.length), (l[i] :: l.eraseIdx i).Perm l
 | [], _, h => by simp at h
 | y :: l, 0, _ => by simp
 | y :: l, i + 1, h => by
  rw [List.getElem_cons_succ, List.eraseIdx_cons_succ]
  exact (List.Perm.swap y _ _).trans ((get_perm (by simpa using h)).cons y)
theorem erase_perm {l : List It} {i : Nat} (hi : i < l.length) (h : Ids l) : (l.eraseIdx i).Perm (dropS l (g l i).1) := by
 have h1 : (g l i :: l.eraseIdx i).Perm l := by rw [g_eq l i hi]; exact get_perm hi
 have h2 := h1.filter (fun y => y.1 != (g l i).1)
 have h3 : Ids (g l i :: l.eraseIdx i) := ids_perm h1.symm h
 unfold Ids at h3
 rw [List.map_cons, List.pairwise_cons] at h3
 have e : (g l i :: l.eraseIdx i).filter (fun y => y.1 != (g l i).1) = l.eraseIdx i := by
  rw [List.filter_cons_of_neg (by simp), List.filter_eq_self]
  intro y hy
  have := h3.1 y.1 (List.mem_map_of_mem hy)
  simpa using Ne.symm this
 rw [e] at h2
 exact h2
theorem drop_perm {l S : List It} (h : l.Perm S) (id : Int) : (dropS l id).Perm (dropS S id) := h.filter _

theorem lowered_perm {l S : List It} {i : Nat} (hi : i < l.length) (hids : Ids l) (hp : l.Perm S) (key : Int) : (l.set i ((g l i).1, key)).Perm (insS (dropS S (g l i).1) ((g l i).1, key)) :=
 (set_perm hi _).trans ((((erase_perm hi hids).trans (drop_perm hp _)).cons _).trans (insS_perm _ _).symm)

theorem up_of_ord {l : List It} {i : Nat} (hi : i < l.length) (h : HOrd l) {x : It} (hx : bef x (g l i) = true) : UpInv l i x := by
 refine ⟨fun j j0 jl hj => ?_, fun c c0 cl cp i0 => ?_⟩
 ·
  rw [g_set l i x j hi, g_set l i x _ hi, if_neg hj]
  have := h j j0 jl
  by_cases e : (j - 1) / 2 = i
  ·
   rw [if_pos e]
   rw [e] at this
   cases hb : bef (g l j) x with
   | false => rfl
   | true => rw [bef_trans hb hx] at this; cases this
  ·
   rw [if_neg e]; exact this
 ·
  have h1 := h c c0 cl
  rw [cp] at h1
  exact nbef_trans h1 (h i i0 hi)

theorem up_of_new {l : List It} (h : HOrd l) (x y : It) : UpInv (l ++ [y]) l.length x := by
 have hg : ∀ i, i < l.length → g (l ++ [y]) i = g l i := fun i hi => by unfold g; simp [List.getD, List.getElem?_append_left hi]
 refine ⟨fun j j0 jl hj => ?_, fun c c0 cl cp _ => ?_⟩
 ·
  rw [List.length_append] at jl
  simp at jl
  rw [g_set _ _ x j (by simp), g_set _ _ x _ (by simp), if_neg hj, if_neg (by omega), hg j (by omega), hg _ (by omega)]
  exact h j j0 (by omega)
 ·
  simp at cl; omega

theorem good_of_full {f : Int → Option Int} {l : List It} {i : Nat} (_ : i < l.length) (h : Full f l) (key : Int) : Good f l i ((g l i).1, key) := by
 intro k hk j
 rw [h k j]
 constructor
 ·
  rintro ⟨a, rfl, al, e⟩
  exact ⟨a, rfl, al, fun e2 => hk (by rw [← e, e2]), e⟩
 ·
  rintro ⟨a, rfl, al, _, e⟩
  exact ⟨a, rfl, al, e⟩

theorem good_of_new {f : Int → Option Int} {l : List It} (h : Full f l) (x y : It) : Good f (l ++ [y]) l.length x := by
 have hg : ∀ i, i < l.length → g (l ++ [y]) i = g l i := fun i hi => by unfold g; simp [List.getD, List.getElem?_append_left hi]
 intro k hk j
 rw [h k j]
 constructor
 ·
  rintro ⟨a, rfl, al, e⟩
  exact ⟨a, rfl, by simp; omega, by omega, by rw [hg a al]; exact e⟩
 ·
  rintro ⟨a, rfl, al, hne, e⟩
  have : a < l.length := by simp at al; omega
  exact ⟨a, rfl, this, by rw [hg a this] at e; exact e⟩

theorem new_perm {l S : List It} (hp : l.Perm S) (x y : It) : ((l ++ [y]).set l.length x).Perm (insS S x) := by
 have e : (l ++ [y]).set l.length x = l ++ [x] := by simp
 rw [e]
 exact (List.perm_append_comm.trans (hp.cons x)).trans (insS_perm S x).symm

/-! Pop -/
theorem g_take {l : List It} {n i : Nat} (h : i < n) : g (l.take n) i = g l i := by
 unfold g; rw [List.getD, List.getD, List.getElem?_take, if_pos h]

theorem pop_good {f : Int → Option Int} {l : List It} (h : Full f l) (hids : Ids l) (h1 : 1 < l.length) :
  Good (fun k => if k = (g l 0).1 then none else f k) (l.take (l.length - 1)) 0 (g l (l.length - 1)) := by
 intro k hk j
 rw [List.length_take, Nat.min_eq_left (Nat.sub_le _ _)]
 by_cases e : k = (g l 0).1
 ·
  simp only [e, if_true]
  constructor
  ·
   intro hj; cases hj
  ·
   rintro ⟨i, rfl, il, i0, hi⟩
   rw [g_take il] at hi
   exact absurd (ids_g hids (by omega) (by omega) hi) i0
 ·
  simp only [if_neg e]
  rw [h k j]
  constructor
  ·
   rintro ⟨i, rfl, il, hi⟩
   have h2 : i ≠ l.length - 1 := fun e2 => hk (by rw [← hi, e2])
   exact ⟨i, rfl, by omega, fun e2 => e (by rw [← hi, e2]), by rw [g_take (by omega)]; exact hi⟩
  ·
   rintro ⟨i, rfl, il, _, hi⟩
   rw [g_take il] at hi
   exact ⟨i, rfl, by omega, hi⟩

theorem pop_ids {l : List It} (hids : Ids l) (h1 : 1 < l.length) : ∀ i, i < (l.take (l.length - 1)).length → i ≠ 0 → (g (l.take (l.length - 1)) i).1 ≠ (g l (l.length - 1)).1 := by
 intro i hi _ e
 rw [List.length_take] at hi
 rw [g_take (by omega)] at e
 have := ids_g hids (by omega) (by omega) e
 omega

theorem pop_down {l : List It} (h : HOrd l) (h1 : 1 < l.length) : DownInv (l.take (l.length - 1)) 0 (g l (l.length - 1)) := by
 have hl : (l.take (l.length - 1)).length = l.length - 1 := by rw [List.length_take]; omega
 refine ⟨fun i i0 il ip => ?_, fun c c0 cl cp h0 => by omega⟩
 rw [hl] at il
 rw [g_set _ 0 _ i (by omega), g_set _ 0 _ _ (by omega), if_neg (by omega), if_neg ip, g_take il, g_take (by omega)]
 exact h i i0 (by omega)

theorem pop_perm {l S : List It} {s : It} (hp : l.Perm (s :: S)) (hs : g l 0 = s) (h1 : 1 < l.length) : ((l.take (l.length - 1)).set 0 (g l (l.length - 1))).Perm S := by
 match l, h1, hs, hp with
 | a :: b :: r, _, hs, hp =>
  have ha : a = s := hs
  subst ha
  have hp' : (b :: r).Perm S := List.Perm.cons_inv hp
  refine List.Perm.trans ?_ hp'
  have e1 : (a :: b :: r).take ((a :: b :: r).length - 1) = a :: (b :: r).take r.length := by simp
  rw [e1, List.set_cons_zero]
  have e2 : g (a :: b :: r) ((a :: b :: r).length - 1) = g (b :: r) r.length := by simp [g]
  rw [e2]
  have e3 : (b :: r).take r.length ++ [g (b :: r) r.length] = b :: r := by
   have hlt : r.length < (b :: r).length := by simp
   rw [g_eq _ _ hlt, ← List.take_succ_eq_append_getElem hlt]
   simp
  have e4 := (List.perm_append_comm (l₁ := (b :: r).take r.length) (l₂ := [g (b :: r) r.length]))
  rw [e3] at e4
  exact e4.symm

theorem pop_last {f : Int → Option Int} {l : List It} (h : Full f l) (h1 : l.length = 1) : Full (fun k => if k = (g l 0).1 then none else f k) (l.take (l.length - 1)) := by
 intro k j
 rw [h1]
 simp only [Nat.sub_self, List.take_zero, List.length_nil]
 constructor
 ·
  intro hj
  split at hj
  ·
   cases hj
  ·
   obtain ⟨i, _, il, e⟩ := (h k j).1 hj
   have : i = 0 := by omega
   subst this
   exact absurd e.symm ‹_›
 ·
  rintro ⟨i, _, il, _⟩; omega

theorem full_key {f : Int → Option Int} {l S : List It} (h : Full f l) (hids : Ids S) (hp : l.Perm S) (id : Int) :
  (f id = none ∧ keyS S id = none) ∨ ∃ i : Nat, i < l.length ∧ f id = some (i : Int) ∧ (g l i).1 = id ∧ keyS S id = some (g l i).2 := by
 cases hf : f id with
 | none =>
  refine .inl ⟨rfl, keyS_none fun x hx e => ?_⟩
  obtain ⟨i, hi, hg⟩ := mem_g (hp.mem_iff.2 hx)
  have := (h id (i : Int)).2 ⟨i, rfl, hi, by rw [hg]; exact e⟩
  rw [hf] at this; cases this
 | some j =>
  obtain ⟨i, rfl, il, e⟩ := (h id j).1 hf
  exact .inr ⟨i, il, rfl, e, keyS_some hids (hp.mem_iff.1 (g_mem il)) e⟩
end Mile
namespace Mile
open Go
abbrev Rest4 := Value × Value × Value × Value
end Mile
namespace Go.Proofs.YtjjedebjbgpimaaGreat.WH
open Go.RowKit Mile
set_option maxRecDepth 100000

theorem Hp.info3 : (Tryz.prog.info? 3).map (fun i => (i.zero, i.size, i.bytes)) = some (some (.int .i64 0), 1, 8) := by kernel_rfl
theorem Hp.infoI : (Tryz.prog.info? 166).map (fun i => (i.zero, i.size, i.bytes)) = some (some (.agg #[.int .i64 0, .int .i64 0]), 2, 16) := by kernel_rfl
theorem Hp.zero3 (w : World) : (zeroValue 3).run Tryz.prog w = .ok (.int .i64 0) w := by kernel_rfl

def cellsIt (x : It) : List Value := [.int .i64 x.1, .int .i64 x.2]
def itV (x : It) : Value := .agg #[.int .i64 x.1, .int .i64 x.2]
def okIt (x : It) : Prop := (Lit.int .i64 x.1).wf = true ∧ (Lit.int .i64 x.2).wf = true

def PlaceOk (w : World) (mb : Option Nat) (f : Int → Option Int) : Prop :=
 match mb with
 | none => ∀ k, f k = none
 | some b => IMap Tryz.prog 3 3 w b f

structure HRaw (w : World) (p : Nat) (fv : Rest4) (v : Value) (l : List It) (mb : Option Nat) (f : Int → Option Int) (F : Nat → Prop) : Prop where
 blk : Blk w p 193 [v, .map mb, fv.1, fv.2.1, fv.2.2.1, fv.2.2.2]
 own : w.ownsRow 0 166 2 v l.length (l.flatMap cellsIt)
 place : PlaceOk w mb f
 self : F p
 row : ∀ k, v.ownBlock = some k → F k ∧ k ≠ p
 map : ∀ b, mb = some b → F b ∧ b ≠ p ∧ v.ownBlock ≠ some b
 lt : ∀ k, F k → k < w.heap.size
 ok : ∀ x ∈ l, okIt x

theorem PlaceOk.keep {w w' : World} {mb : Option Nat} {f : Int → Option Int} {G : Nat → Prop} (h : PlaceOk w mb f) (hm : Mod G w w') (hb : ∀ b, mb = some b → ¬ G b) : PlaceOk w' mb f := by
 cases mb with
 | none => exact h
 | some b => exact IMap.keep h hm (hb b rfl)
theorem HRaw.keep {fv : Rest4} {w w' : World} {p : Nat} {v : Value} {l : List It} {mb : Option Nat} {f : Int → Option Int} {F G : Nat → Prop} (h : HRaw w p fv v l mb f F) (hm : Mod G w w') (hd : ∀ k, F k → ¬ G k) : HRaw w' p fv v l mb f F :=
 ⟨h.blk.keep hm (hd p h.self), Own.keep h.own hm (fun k hk => hd k (h.row k hk).1), h.place.keep hm (fun b hb => hd b (h.map b hb).1), h.self, h.row, h.map, fun k hk => Nat.lt_of_lt_of_le (h.lt k hk) hm.size, h.ok⟩

theorem before_any (x y : It) (w : World) : Calls Tryz.prog 145 #[itV x, itV y] w fun e w' => e = .returned (.bool (bef x y)) ∧ Mod (fun _ => False) w w' := by
 obtain ⟨a, b⟩ := x
 obtain ⟨c, d⟩ := y
 have hM := ((Mod.refl (fun _ => False) w).thenAlloc (.cells #[.int .i64 a, .int .i64 b] 166)).thenAlloc (.cells #[.int .i64 c, .int .i64 d] 166)
 unfold itV
 by_cases h1 : b < d
 ·
  have e : bef (a, b) (c, d) = true := by rw [bef_iff]; exact .inl h1
  have e1 : decide (b < d) = true := by simpa using h1
  rw [e]
  go_enter Tryz.func145, Tryz.ntmps145
  go_wp2
  go_ret
  exact ⟨rfl, hM⟩
 ·
  by_cases h2 : b = d
  ·
   subst h2
   have e2 : (b == b) = true := by simp
   have e : bef (a, b) (c, b) = decide (a < c) := by simp [bef]
   rw [e]
   go_enter Tryz.func145, Tryz.ntmps145
   go_wp2
   go_ret
   exact ⟨by simp, hM⟩
  ·
   have e : bef (a, b) (c, d) = false := by rw [bef_not]; simp only; omega
   have e1 : decide (b < d) = false := by simpa using h1
   have e2 : (b == d) = false := by simpa using h2
   rw [e]
   go_enter Tryz.func145, Tryz.ntmps145
   go_wp2
   go_ret
   exact ⟨by simp, hM⟩

theorem len_it (l : List It) : (l.flatMap cellsIt).length = l.length * 2 := by
 induction l with
 | nil => rfl
 | cons x l ih => rw [List.flatMap_cons, List.length_append, ih, List.length_cons]; simp [cellsIt]; omega

theorem own_n {w : World} {e : TypeId} {gb n m c size base : Nat} {xs : List Value} (h : w.ownsRow base e size (.slice (some ⟨gb, 0, none⟩) n c) m xs) : n = m := by
 rcases h.2 with ⟨e, _⟩ | ⟨_, _, _, e, _⟩ <;> cases e; rfl

theorem cell_it {w : World} {e : TypeId} {gb n m c : Nat} {l : List It} (h : w.ownsRow 0 e 2 (.slice (some ⟨gb, 0, none⟩) n c) m (l.flatMap cellsIt)) (i : Nat) (hi : i < l.length) :
  w.cell? ⟨gb, i * 2, none⟩ = some (.int .i64 (g l i).1) ∧ w.cell? ⟨gb, i * 2 + 1, none⟩ = some (.int .i64 (g l i).2) := by
 have hl : (l.flatMap cellsIt).length = l.length * 2 := len_it l
 obtain rfl := own_n h
 have hn : n = l.length := by have := h.1; omega
 have key : ∀ (l : List It) (i : Nat) (hi : i < l.length), (l.flatMap cellsIt)[i * 2]? = some (.int .i64 l[i].1) ∧ (l.flatMap cellsIt)[i * 2 + 1]? = some (.int .i64 l[i].2) := by
  intro l
  induction l with
  | nil => intro i hi; simp at hi
  | cons x l ih =>
   intro i hi
   cases i with
   | zero => simp [cellsIt]
   | succ i =>
    have := ih i (by simpa using hi)
    simp only [List.flatMap_cons, List.getElem_cons_succ]
    rw [show (i + 1) * 2 = 2 + i * 2 by omega, show 2 + i * 2 + 1 = 2 + (i * 2 + 1) by omega]
    rw [List.getElem?_append_right (by simp [cellsIt]), List.getElem?_append_right (by simp [cellsIt])]
    simpa [cellsIt] using this
 have k := key l i hi
 rw [h.cellAt _ (by omega), h.cellAt _ (by omega), g_eq l i hi]
 exact k

theorem flat_set : ∀ (l : List It) (i : Nat) (x : It), i < l.length → ((l.flatMap cellsIt).set (i * 2) (.int .i64 x.1)).set (i * 2 + 1) (.int .i64 x.2) = (l.set i x).flatMap cellsIt := by
 intro l
 induction l with
 | nil => intro i x h; simp at h
 | cons y l ih =>
  intro i x h
  cases i with
  | zero => simp [cellsIt]
  | succ i =>
   rw [List.set_cons_succ, List.flatMap_cons, List.flatMap_cons, ← ih i x (by simpa using h), show (i + 1) * 2 = i * 2 + 1 + 1 by omega, show i * 2 + 1 + 1 + 1 = (i * 2 + 1) + 1 + 1 by omega]
   simp [cellsIt]

theorem HRaw.set {fv : Rest4} {w : World} {p gb n c : Nat} {l : List It} {mb : Option Nat} {f : Int → Option Int} {F : Nat → Prop} (h : HRaw w p fv (.slice (some ⟨gb, 0, none⟩) n c) l mb f F) (i : Nat) (hi : i < l.length) (x : It) (hx : okIt x) :
  HRaw ((w.setCell ⟨gb, i * 2, none⟩ (.int .i64 x.1)).setCell ⟨gb, i * 2 + 1, none⟩ (.int .i64 x.2)) p fv (.slice (some ⟨gb, 0, none⟩) n c) (l.set i x) mb f F ∧ Mod F w ((w.setCell ⟨gb, i * 2, none⟩ (.int .i64 x.1)).setCell ⟨gb, i * 2 + 1, none⟩ (.int .i64 x.2)) := by
 have hg := h.row gb rfl
 have hm : Mod (fun k => k = gb) w ((w.setCell ⟨gb, i * 2, none⟩ (.int .i64 x.1)).setCell ⟨gb, i * 2 + 1, none⟩ (.int .i64 x.2)) := ((Mod.refl (fun k => k = gb) w).thenSet ⟨gb, i * 2, none⟩ _ (fun _ => rfl)).thenSet ⟨gb, i * 2 + 1, none⟩ _ (fun _ => rfl)
 have ho := h.own
 have hn : n = l.length := by have h1 := ho.1; rcases ho.2 with ⟨e, _⟩ | ⟨_, _, _, e, _⟩ <;> cases e; rfl
 subst hn
 refine ⟨⟨h.blk.keep hm (fun e => hg.2 e.symm), ?_, h.place.keep hm (fun b hb e => (h.map b hb).2.2 (by rw [e]; rfl)), h.self, h.row, h.map, fun k hk => Nat.lt_of_lt_of_le (h.lt k hk) hm.size, ?_⟩, hm.mono (fun k _ e => by subst e; exact hg.1)⟩
 ·
  have h1 := (ho.stored (i * 2) (.int .i64 x.1)).1
  have h2 := (h1.stored (i * 2 + 1) (.int .i64 x.2)).1
  rw [flat_set l i x hi] at h2
  rw [List.length_set]; exact h2
 ·
  intro y hy
  rcases List.mem_or_eq_of_mem_set hy with e | e
  ·
   exact h.ok y e
  ·
   rw [e]; exact hx

theorem HRaw.placed {fv : Rest4} {w w' : World} {p : Nat} {v : Value} {l : List It} {b : Nat} {f f' : Int → Option Int} {F : Nat → Prop} (h : HRaw w p fv v l (some b) f F) (hm : Mod (fun i => i = b) w w') (hp : IMap Tryz.prog 3 3 w' b f') :
  HRaw w' p fv v l (some b) f' F ∧ Mod F w w' := by
 have hb := h.map b rfl
 exact ⟨⟨h.blk.keep hm (fun e => hb.2.1 e.symm), Own.keep h.own hm (fun k hk e => hb.2.2 (by rw [← e]; exact hk)), hp, h.self, h.row, h.map, fun k hk => Nat.lt_of_lt_of_le (h.lt k hk) hm.size, h.ok⟩, hm.mono (fun k _ e => by subst e; exact hb.1)⟩

theorem put_any {fv : Rest4} (p : Nat) (w : World) (v : Value) (l : List It) (b : Nat) (f : Int → Option Int) (F : Nat → Prop) (h : HRaw w p fv v l (some b) f F) (i : Nat) (hi : i < l.length) (hl : l.length ≤ 1000000000) (x : It) (hx : okIt x)
  (ks : List Int) (hk : ∀ k, f k ≠ none → k ∈ ks) (hkl : ks.length ≤ 2000000000) :
  Calls Tryz.prog 146 #[.pointer (some ⟨p, 0, none⟩), .int .i64 i, itV x] w fun e w' => e = .returned (.tuple #[]) ∧ HRaw w' p fv v (l.set i x) (some b) (updf f x.1 i) F ∧ Mod F w w' := by
 obtain ⟨iI, hiI, zI, sI, bI⟩ := info_parts Hp.infoI
 obtain ⟨c, d⟩ := x
 obtain ⟨gb, cap, hv⟩ : ∃ gb cap, v = .slice (some ⟨gb, 0, none⟩) l.length cap := by
  rcases h.own.2 with ⟨_, h0⟩ | ⟨gb, cap, _, hv, _⟩
  ·
   omega
  ·
   exact ⟨gb, cap, hv⟩
 subst hv
 unfold itV
 go_enter Tryz.func146, Tryz.ntmps146
 go_wp2_with fail
 have hM := Mod.alloc F w (.cells #[.int .i64 c, .int .i64 d] 166)
 have h1 := h.keep (Mod.alloc (fun _ => False) w (.cells #[.int .i64 c, .int .i64 d] 166)) (fun _ _ e => e)
 have b1 := Blk.new w 166 [.int .i64 c, .int .i64 d]
 have hbx : ¬ F w.heap.size := fun e => by have := h.lt _ e; omega
 obtain ⟨W, hW⟩ : ∃ W, w.alloc (.cells #[.int .i64 c, .int .i64 d] 166) = W := ⟨_, rfl⟩
 obtain ⟨bx, hbxx⟩ : ∃ bx, w.heap.size = bx := ⟨_, rfl⟩
 rw [hbxx] at b1 hbx ⊢
 change Blk (w.alloc (.cells #[.int .i64 c, .int .i64 d] 166)) bx _ _ at b1
 rw [hW] at hM h1 b1 ⊢
 clear hW hbxx h
 have hown := h1.own
 obtain ⟨f1, f2⟩ := cell_it hown i hi
 have fz1 := hown.frozenAt (i * 2)
 have fz2 := hown.frozenAt (i * 2 + 1)
 have c0 := h1.blk.cell 0 rfl
 have c1 := h1.blk.cell 1 rfl
 have d0 := b1.cell 0 rfl
 have d1 := b1.cell 1 rfl
 go_region
 have h2 := h1.set i hi (c, d) hx
 have b2 := b1.keep h2.2 hbx
 have hM2 := hM.trans h2.2 (fun _ _ e => e) (fun _ _ e => e)
 obtain ⟨h2, _⟩ := h2
 obtain ⟨W2, hW2⟩ : ∃ W2, (W.setCell ⟨gb, i * 2, none⟩ (.int .i64 c)).setCell ⟨gb, i * 2 + 1, none⟩ (.int .i64 d) = W2 := ⟨_, rfl⟩
 rw [hW2] at h2 b2 hM2 ⊢
 clear hW2 f1 f2 fz1 fz2 c0 c1 d0 d1 b1 h1 hM hown
 have c1 := h2.blk.cell 1 rfl
 have d0 := b2.cell 0 rfl
 obtain ⟨w', hrun, hmap, hmm⟩ := IMap.store (w := W2.drew.drew) (IMap.keep h2.place (Mod.drew (fun _ => False) _).thenDrew (fun e => e)) Tryz.underlying136 Tryz.underlying3 Tryz.underlying3 ks hk (by unfold maxLen; omega) c i hx.1 ((i64_wf _).2 (by omega))
 go_wp2_with fail
 go_region
 go_end0
 have h3 := (h2.keep ((Mod.drew (fun _ => False) _).thenDrew) (fun _ _ e => e)).placed hmm hmap
 exact ⟨rfl, h3.1, hM2.thenDrew.thenDrew.trans h3.2 (fun _ _ e => e) (fun _ _ e => e)⟩

theorem HRaw.slice {fv : Rest4} {w : World} {p : Nat} {v : Value} {l : List It} {mb : Option Nat} {f : Int → Option Int} {F : Nat → Prop} (h : HRaw w p fv v l mb f F) (hl : 0 < l.length) : ∃ gb cap, v = .slice (some ⟨gb, 0, none⟩) l.length cap := by
 rcases h.own.2 with ⟨_, h0⟩ | ⟨gb, cap, _, hv, _⟩
 ·
  omega
 ·
  exact ⟨gb, cap, hv⟩

def lesserI (l : List It) (i : Nat) : Nat := if decide (i + 1 < l.length) && bef (g l (i + 1)) (g l i) then i + 1 else i

set_option maxHeartbeats 1000000 in
theorem lesser_any {fv : Rest4} (p : Nat) (w : World) (v : Value) (l : List It) (mb : Option Nat) (f : Int → Option Int) (F : Nat → Prop) (h : HRaw w p fv v l mb f F) (i : Nat) (hl : l.length ≤ 1000000000) (hi : i ≤ 4000000000) :
  Calls Tryz.prog 144 #[.pointer (some ⟨p, 0, none⟩), .int .i64 i] w fun e w' => e = .returned (.int .i64 (lesserI l i)) ∧ Mod (fun _ => False) w w' := by
 obtain ⟨iI, hiI, zI, sI, bI⟩ := info_parts Hp.infoI
 have c0 := h.blk.cell 0 rfl
 by_cases hlt : i + 1 < l.length
 ·
  obtain ⟨gb, cap, hv⟩ := h.slice (by omega)
  subst hv
  have hown := h.own
  obtain ⟨f1, f2⟩ := cell_it hown i (by omega)
  obtain ⟨f3, f4⟩ := cell_it hown (i + 1) hlt
  have e1 : decide (i + 1 < l.length) = true := by simpa using hlt
  have hq : (i : Int) + 1 < (l.length : Int) := by omega
  obtain ⟨bb, hbb⟩ : ∃ bb, bef (g l (i + 1)) (g l i) = bb := ⟨_, rfl⟩
  have hle : lesserI l i = if bb then i + 1 else i := by unfold lesserI; rw [e1, hbb]; simp
  rw [hle]
  have HB := Lib.hid hbb
  clear hle hbb e1
  go_enter Tryz.func144, Tryz.ntmps144
  go_wp2_with fail
  have hw1 : IntKind.i64.wrap ((i : Int) + 1) = (i : Int) + 1 := IntWalk.i64_in _ (by omega)
  have hw2 : (0 : Int) ≤ (i : Int) + 1 := by omega
  have hw3 : ((i : Int) + 1).toNat = i + 1 := by omega
  have hw4 : decide ((i : Int) + 1 < (l.length : Int)) = true := by simpa using hq
  have hw5 : (i : Int) < (l.length : Int) := by omega
  go_still_tail 24, (by kernel_rfl)
  change wpList _ _ _ _ _ (World.drew w)
  clear hw1 hw2 hw3 hw4 hw5
  go_wp2_with fail
  refine (before_any (g l (i + 1)) (g l i) _).mono ?_
  rintro e w' ⟨rfl, hM⟩
  rw [HB.out]
  have hM2 := (Mod.drew (fun _ => False) w).trans hM (H := fun _ => False) (fun _ _ e => e) (fun _ _ e => e)
  cases bb with
  | true =>
   go_wp2
   go_ret
   exact ⟨by simp, hM2⟩
  | false =>
   go_wp2
   go_ret
   exact ⟨by simp, hM2⟩
 ·
  have e1 : decide (i + 1 < l.length) = false := by simpa using hlt
  have hq : (l.length : Int) ≤ (i : Int) + 1 := by omega
  have hq2 : decide ((i : Int) + 1 < (l.length : Int)) = false := by simp; omega
  have hle : lesserI l i = i := by unfold lesserI; rw [e1]; simp
  obtain ⟨a, c, hv⟩ : ∃ a c, v = .slice a l.length c := own_form h.own
  subst hv
  rw [hle]
  clear hle e1
  go_enter Tryz.func144, Tryz.ntmps144
  go_wp2_with fail
  go_quiet (fail)
  go_wp2
  go_ret
  exact ⟨rfl, Mod.drewN _ _ _⟩
end Go.Proofs.YtjjedebjbgpimaaGreat.WH
namespace Go.Proofs.YtjjedebjbgpimaaGreat.WH
open Go.RowKit Mile
set_option maxRecDepth 100000

def Settled (p : Nat) (fv : Rest4) (v : Value) (l : List It) (h : Nat) (x : It) (b : Nat) (F : Nat → Prop) (w w' : World) : Prop :=
 ∃ l' f', HRaw w' p fv v l' (some b) f' F ∧ l'.Perm (l.set h x) ∧ HOrd l' ∧ Full f' l' ∧ Mod F w w'

structure HoleAt (w wr : World) (p : Nat) (fv : Rest4) (v : Value) (l0 : List It) (h0 : Nat) (x : It) (b : Nat) (F : Nat → Prop) (bx : Nat) (h : Nat) (l : List It) (f : Int → Option Int) : Prop where
 raw : HRaw wr p fv v l (some b) f F
 box : Blk wr bx 166 [.int .i64 x.1, .int .i64 x.2]
 mod : Mod F w wr
 lt : h < l.length
 len : l.length = l0.length
 good : Mile.Good f l h x
 ids : ∀ i, i < l.length → i ≠ h → (g l i).1 ≠ x.1
 perm : (l.set h x).Perm (l0.set h0 x)
 box' : ¬ F bx

theorem HoleAt.later {fv : Rest4} {w wr w' : World} {p : Nat} {v : Value} {l0 : List It} {h0 : Nat} {x : It} {b : Nat} {F : Nat → Prop} {bx h : Nat} {l : List It} {f : Int → Option Int} (s : HoleAt w wr p fv v l0 h0 x b F bx h l f) (hm : Mod (fun _ => False) wr w') : HoleAt w w' p fv v l0 h0 x b F bx h l f :=
 ⟨s.raw.keep hm (fun _ _ e => e), s.box.keep hm (fun e => e), s.mod.trans hm (fun _ _ e => e) (fun _ _ e => e.elim), s.lt, s.len, s.good, s.ids, s.perm, s.box'⟩

theorem ids_step {l : List It} {h d : Nat} {x : It} (hl : h < l.length) (hd : d < l.length) (hne : d ≠ h) (hx : ∀ i, i < l.length → i ≠ h → (g l i).1 ≠ x.1) : ∀ i, i < (l.set h (g l d)).length → i ≠ d → (g (l.set h (g l d)) i).1 ≠ x.1 := by
 intro i hi hid
 rw [List.length_set] at hi
 rw [g_set l h _ i hl]
 split
 ·
  exact hx d hd hne
 ·
  rename_i e; exact hx i hi e

theorem HoleAt.step {fv : Rest4} {w wr w' : World} {p : Nat} {v : Value} {l0 : List It} {h0 : Nat} {x : It} {b : Nat} {F : Nat → Prop} {bx h d : Nat} {l : List It} {f : Int → Option Int} (s : HoleAt w wr p fv v l0 h0 x b F bx h l f) (hd : d < l.length) (hne : d ≠ h)
  (hr : HRaw w' p fv v (l.set h (g l d)) (some b) (updf f (g l d).1 h) F) (hm : Mod F wr w') : HoleAt w w' p fv v l0 h0 x b F bx d (l.set h (g l d)) (updf f (g l d).1 h) :=
 ⟨hr, s.box.keep hm s.box', s.mod.trans hm (fun _ _ e => e) (fun _ _ e => e), by rw [List.length_set]; exact hd, by rw [List.length_set]; exact s.len, s.good.step s.lt hd hne (s.ids d hd hne), ids_step s.lt hd hne s.ids, (hole_perm l h d x s.lt hd hne).trans s.perm, s.box'⟩

set_option maxHeartbeats 4000000 in
theorem rise_any {fv : Rest4} (p : Nat) (w : World) (v : Value) (l : List It) (b : Nat) (f : Int → Option Int) (F : Nat → Prop) (hr : HRaw w p fv v l (some b) f F) (h : Nat) (hl : l.length ≤ 1000000000) (hh : h < l.length) (x : It) (hx : okIt x)
  (hg : Mile.Good f l h x) (hids : ∀ i, i < l.length → i ≠ h → (g l i).1 ≠ x.1) (hup : UpInv l h x) :
  Calls Tryz.prog 155 #[.pointer (some ⟨p, 0, none⟩), .int .i64 h, itV x] w fun e w' => e = .returned (.tuple #[]) ∧ Settled p fv v l h x b F w w' := by
 obtain ⟨iI, hiI, zI, sI, bI⟩ := info_parts Hp.infoI
 obtain ⟨gb, cap, hv⟩ := hr.slice (by omega)
 subst hv
 obtain ⟨c, d⟩ := x
 unfold itV
 go_enter Tryz.func155, Tryz.ntmps155
 go_wp2_with fail
 have hM := Mod.alloc F w (.cells #[.int .i64 c, .int .i64 d] 166)
 have h1 := hr.keep (Mod.alloc (fun _ => False) w (.cells #[.int .i64 c, .int .i64 d] 166)) (fun _ _ e => e)
 have b1 := Blk.new w 166 [.int .i64 c, .int .i64 d]
 have hbx : ¬ F w.heap.size := fun e => by have := hr.lt _ e; omega
 obtain ⟨W, hW⟩ : ∃ W, w.alloc (.cells #[.int .i64 c, .int .i64 d] 166) = W := ⟨_, rfl⟩
 obtain ⟨bx, hbxx⟩ : ∃ bx, w.heap.size = bx := ⟨_, rfl⟩
 rw [hbxx] at b1 hbx ⊢
 change Blk (w.alloc (.cells #[.int .i64 c, .int .i64 d] 166)) bx _ _ at b1
 rw [hW] at hM h1 b1 ⊢
 clear hW hbxx hr
 go_loopw [1, 6] (fun i _ wr => ∃ (h' : Nat) (l' : List It) (f' : Int → Option Int), i = .int .i64 h' ∧ HoleAt w wr p fv (.slice (some ⟨gb, 0, none⟩) l.length cap) l h (c, d) b F bx h' l' f' ∧ UpInv l' h' (c, d)) (fun i _ _ => (intOf i).toNat)
 case atStart => exact ⟨h, l, f, rfl, ⟨h1, b1, hM, hh, rfl, hg, hids, List.Perm.refl _, hbx⟩, hup⟩
 case round =>
  clear h1 b1 hM
  obtain ⟨h', l', f', rfl, hS, hU⟩ := hrel
  have hlt := hS.lt
  have hln := hS.len
  by_cases h0 : h' = 0
  ·
   subst h0
   have d0 := hS.box.cell 0 rfl
   have d1 := hS.box.cell 1 rfl
   go_wp2_with fail
   refine (put_any p wr _ l' b f' F hS.raw 0 hlt (by omega) (c, d) hx _ hS.good.keys (by rw [List.length_cons, List.length_map]; omega)).mono ?_
   rintro e w' ⟨rfl, hR, hMp⟩
   go_wp2
   go_end0
   exact ⟨rfl, _, _, hR, hS.perm, up_stop hlt hU (.inl rfl), hS.good.done hlt hS.ids, hS.mod.trans hMp (fun _ _ e => e) (fun _ _ e => e)⟩
  ·
   have h0' : 0 < h' := by omega
   have h0i : (0 : Int) < (h' : Int) := by omega
   obtain ⟨u, hu⟩ : ∃ u, (h' - 1) / 2 = u := ⟨_, rfl⟩
   have hul : u < l'.length := by omega
   have hui : ((h' : Int) - 1) / 2 = (u : Int) := by omega
   have HUI := Lib.hid hui
   have HU := Lib.hid hu
   clear hui
   have hne : u ≠ h' := by omega
   have huh : u < h' := by omega
   clear hu
   obtain ⟨f1, f2⟩ := cell_it hS.raw.own u hul
   have c0 := hS.raw.blk.cell 0 rfl
   have d0 := hS.box.cell 0 rfl
   have d1 := hS.box.cell 1 rfl
   have hq2 : (u : Int) < (l.length : Int) := by omega
   go_wp2_with fail
   rw [HUI.out]
   go_still_tail 8, (by kernel_rfl)
   change wpList _ _ _ _ _ (World.drew wr)
   go_wp2_with fail
   refine (before_any (c, d) (g l' u) _).mono ?_
   rintro e w1 ⟨rfl, hM1⟩
   have hS1 := hS.later ((Mod.drew (fun _ => False) wr).trans hM1 (fun _ _ e => e) (fun _ _ e => e))
   clear f1 f2 c0 d0 d1 hM1
   obtain ⟨f1, f2⟩ := cell_it hS1.raw.own u hul
   have c0 := hS1.raw.blk.cell 0 rfl
   have d0 := hS1.box.cell 0 rfl
   have d1 := hS1.box.cell 1 rfl
   cases hbb : bef (c, d) (g l' u) with
   | true =>
    have hU2 := up_step hlt h0' hU (by rw [HU.out]; exact hbb)
    rw [HU.out] at hU2
    have hok : okIt (g l' u) := by rw [g_eq l' u hul]; exact hS1.raw.ok _ (List.getElem_mem hul)
    go_wp2_with fail
    refine (put_any p w1 _ l' b f' F hS1.raw h' hlt (by omega) (g l' u) hok _ hS1.good.keys (by rw [List.length_cons, List.length_map]; omega)).mono ?_
    rintro e w2 ⟨rfl, hR, hMp⟩
    go_wp2_with fail
    go_roundw
    case rel => exact ⟨u, _, _, rfl, hS1.step hul hne hR hMp, hU2⟩
    case measure => simp [intOf]; omega
   | false =>
    go_wp2_with fail
    refine (put_any p w1 _ l' b f' F hS1.raw h' hlt (by omega) (c, d) hx _ hS1.good.keys (by rw [List.length_cons, List.length_map]; omega)).mono ?_
    rintro e w2 ⟨rfl, hR, hMp⟩
    go_wp2
    go_end0
    exact ⟨rfl, _, _, hR, hS1.perm, up_stop hlt hU (.inr (by rw [HU.out]; exact hbb)), hS1.good.done hlt hS1.ids, hS1.mod.trans hMp (fun _ _ e => e) (fun _ _ e => e)⟩

theorem lesser_spec (l : List It) (h d : Nat) (hd : lesserI l (2 * h + 1) = d) : (d = 2 * h + 1 ∨ d = 2 * h + 2) ∧ (d < l.length → ∀ c, 0 < c → c < l.length → (c - 1) / 2 = h → bef (g l c) (g l d) = false) ∧ (l.length ≤ d → ∀ c, 0 < c → (c - 1) / 2 = h → l.length ≤ c) := by
 unfold lesserI at hd
 by_cases e : 2 * h + 1 + 1 < l.length
 ·
  cases hb : bef (g l (2 * h + 1 + 1)) (g l (2 * h + 1)) with
  | true =>
   rw [hb] at hd
   simp [e] at hd
   subst hd
   refine ⟨.inr rfl, fun _ c c0 cl cp => ?_, fun hl => by omega⟩
   have : c = 2 * h + 1 ∨ c = 2 * h + 2 := by omega
   rcases this with rfl | rfl
   ·
    exact bef_asymm hb
   ·
    exact bef_irrefl _
  | false =>
   rw [hb] at hd
   simp at hd
   subst hd
   refine ⟨.inl rfl, fun _ c c0 cl cp => ?_, fun hl => by omega⟩
   have : c = 2 * h + 1 ∨ c = 2 * h + 2 := by omega
   rcases this with rfl | rfl
   ·
    exact bef_irrefl _
   ·
    exact hb
 ·
  simp [e] at hd
  subst hd
  refine ⟨.inl rfl, fun hl c c0 cl cp => ?_, fun hl c c0 cp => by omega⟩
  have : c = 2 * h + 1 := by omega
  subst this
  exact bef_irrefl _

set_option maxHeartbeats 4000000 in
theorem sink_any {fv : Rest4} (p : Nat) (w : World) (v : Value) (l : List It) (b : Nat) (f : Int → Option Int) (F : Nat → Prop) (hr : HRaw w p fv v l (some b) f F) (h : Nat) (hl : l.length ≤ 1000000000) (hh : h < l.length) (x : It) (hx : okIt x)
  (hg : Mile.Good f l h x) (hids : ∀ i, i < l.length → i ≠ h → (g l i).1 ≠ x.1) (hdn : DownInv l h x) :
  Calls Tryz.prog 129 #[.pointer (some ⟨p, 0, none⟩), .int .i64 h, itV x] w fun e w' => e = .returned (.tuple #[]) ∧ Settled p fv v l h x b F w w' := by
 obtain ⟨iI, hiI, zI, sI, bI⟩ := info_parts Hp.infoI
 obtain ⟨gb, cap, hv⟩ := hr.slice (by omega)
 subst hv
 obtain ⟨c, d⟩ := x
 unfold itV
 go_enter Tryz.func129, Tryz.ntmps129
 go_wp2_with fail
 have hM := Mod.alloc F w (.cells #[.int .i64 c, .int .i64 d] 166)
 have h1 := hr.keep (Mod.alloc (fun _ => False) w (.cells #[.int .i64 c, .int .i64 d] 166)) (fun _ _ e => e)
 have b1 := Blk.new w 166 [.int .i64 c, .int .i64 d]
 have hbx : ¬ F w.heap.size := fun e => by have := hr.lt _ e; omega
 obtain ⟨W, hW⟩ : ∃ W, w.alloc (.cells #[.int .i64 c, .int .i64 d] 166) = W := ⟨_, rfl⟩
 obtain ⟨bx, hbxx⟩ : ∃ bx, w.heap.size = bx := ⟨_, rfl⟩
 rw [hbxx] at b1 hbx ⊢
 change Blk (w.alloc (.cells #[.int .i64 c, .int .i64 d] 166)) bx _ _ at b1
 rw [hW] at hM h1 b1 ⊢
 clear hW hbxx hr
 go_loopw [1, 6] (fun i _ wr => ∃ (h' : Nat) (l' : List It) (f' : Int → Option Int), i = .int .i64 h' ∧ HoleAt w wr p fv (.slice (some ⟨gb, 0, none⟩) l.length cap) l h (c, d) b F bx h' l' f' ∧ DownInv l' h' (c, d)) (fun i _ _ => l.length - (intOf i).toNat)
 case atStart => exact ⟨h, l, f, rfl, ⟨h1, b1, hM, hh, rfl, hg, hids, List.Perm.refl _, hbx⟩, hdn⟩
 case round =>
  clear h1 b1 hM
  obtain ⟨h', l', f', rfl, hS, hU⟩ := hrel
  have hlt := hS.lt
  have hln := hS.len
  go_wp2_with fail
  rw [show 2 * (h' : Int) + 1 = ((2 * h' + 1 : Nat) : Int) by omega]
  refine (lesser_any p wr _ l' (some b) f' F hS.raw (2 * h' + 1) (by omega) (by omega)).mono ?_
  rintro e w0 ⟨rfl, hM0⟩
  obtain ⟨q, hq⟩ : ∃ q, lesserI l' (2 * h' + 1) = q := ⟨_, rfl⟩
  rw [hq]
  obtain ⟨s1, s2, s3⟩ := lesser_spec l' h' q hq
  clear hq
  have hS0 := hS.later hM0
  have c0 := hS0.raw.blk.cell 0 rfl
  have d0 := hS0.box.cell 0 rfl
  have d1 := hS0.box.cell 1 rfl
  by_cases hql : q < l'.length
  ·
   obtain ⟨f1, f2⟩ := cell_it hS0.raw.own q hql
   have e1 : decide (l.length ≤ q) = false := by simp; omega
   have e2 : (q : Int) < (l.length : Int) := by omega
   go_wp2_with fail
   go_still_tail 16, (by kernel_rfl)
   change wpList _ _ _ _ _ (World.drew w0)
   go_wp2_with fail
   refine (before_any (g l' q) (c, d) _).mono ?_
   rintro e w1 ⟨rfl, hM1⟩
   have hS1 := hS0.later ((Mod.drew (fun _ => False) w0).trans hM1 (fun _ _ e => e) (fun _ _ e => e))
   clear f1 f2 c0 d0 d1 hM1 hS0 hM0
   obtain ⟨f1, f2⟩ := cell_it hS1.raw.own q hql
   have c0 := hS1.raw.blk.cell 0 rfl
   have d0 := hS1.box.cell 0 rfl
   have d1 := hS1.box.cell 1 rfl
   have hne : q ≠ h' := by omega
   cases hbb : bef (g l' q) (c, d) with
   | true =>
    have hU2 := down_step hlt hql (by omega) (by omega) hU hbb (s2 hql)
    have hok : okIt (g l' q) := by rw [g_eq l' q hql]; exact hS1.raw.ok _ (List.getElem_mem hql)
    go_wp2_with fail
    refine (put_any p w1 _ l' b f' F hS1.raw h' hlt (by omega) (g l' q) hok _ hS1.good.keys (by rw [List.length_cons, List.length_map]; omega)).mono ?_
    rintro e w2 ⟨rfl, hR, hMp⟩
    go_wp2_with fail
    go_roundw
    case rel => exact ⟨q, _, _, rfl, hS1.step hql hne hR hMp, hU2⟩
    case measure => simp [intOf]; omega
   | false =>
    go_wp2_with fail
    refine (put_any p w1 _ l' b f' F hS1.raw h' hlt (by omega) (c, d) hx _ hS1.good.keys (by rw [List.length_cons, List.length_map]; omega)).mono ?_
    rintro e w2 ⟨rfl, hR, hMp⟩
    go_wp2
    go_end0
    refine ⟨rfl, _, _, hR, hS1.perm, down_stop hlt hU (fun c' c0' cl cp => ?_), hS1.good.done hlt hS1.ids, hS1.mod.trans hMp (fun _ _ e => e) (fun _ _ e => e)⟩
    exact nbef_trans (s2 hql c' c0' cl cp) hbb
  ·
   have e1 : decide (l.length ≤ q) = true := by simp; omega
   go_wp2_with fail
   go_quiet (fail)
   have hSd := hS0.later (Mod.drewN (fun _ => False) w0 nq)
   have c0 := hSd.raw.blk.cell 0 rfl
   have d0 := hSd.box.cell 0 rfl
   have d1 := hSd.box.cell 1 rfl
   go_wp2_with fail
   refine (put_any p _ _ l' b f' F hSd.raw h' hlt (by omega) (c, d) hx _ hSd.good.keys (by rw [List.length_cons, List.length_map]; omega)).mono ?_
   rintro e w2 ⟨rfl, hR, hMp⟩
   go_wp2
   go_end0
   refine ⟨rfl, _, _, hR, hSd.perm, down_stop hlt hU (fun c' c0' cl cp => ?_), hSd.good.done hlt hSd.ids, hSd.mod.trans hMp (fun _ _ e => e) (fun _ _ e => e)⟩
   have := s3 (by omega) c' c0' cp
   omega
end Go.Proofs.YtjjedebjbgpimaaGreat.WH
namespace Mile
open Go Go.RowKit
theorem Rd.one2 (w : World) (T : TypeId) (x y : Value) (b : Nat) (hb : b = w.heap.size) : Rd (w.alloc (.cells #[x, y] T)) 2 (.slice (some ⟨b, 0, none⟩) 1 1) 1 [x, y] := by
 subst hb
 refine ⟨rfl, some ⟨w.heap.size, 0, none⟩, 1, rfl, Nat.le_refl _, by decide, fun h => (by cases h), fun ad had => ?_⟩
 cases had
 refine ⟨fun _ => rfl, fun j u hj => ?_⟩
 rw [Addr.add_lit, Nat.zero_add]
 exact (Blk.new w T [x, y]).cell j hj
theorem Own.take {w : World} {base : Nat} {e : TypeId} {size gb n c m : Nat} {xs : List Value} (h : w.ownsRow base e size (.slice (some ⟨gb, 0, none⟩) n c) n xs) (hm : m ≤ n) : w.ownsRow base e size (.slice (some ⟨gb, 0, none⟩) m c) m (xs.take (m * size)) := by
 refine ⟨by rw [List.length_take, h.1]; exact Nat.min_eq_left (Nat.mul_le_mul_right _ hm), ?_⟩
 rcases h.2 with ⟨h', _⟩ | ⟨g', cap', cur, h', hb, hg, hnc, hcm, hcs, htake⟩
 ·
  cases h'
 ·
  cases h'
  refine .inr ⟨gb, c, cur, rfl, hb, hg, by omega, hcm, hcs, ?_⟩
  rw [← htake, List.take_take, Nat.min_eq_left (Nat.mul_le_mul_right _ hm)]
end Mile
namespace Go.Proofs.YtjjedebjbgpimaaGreat.WH
open Go.RowKit Mile
set_option maxRecDepth 100000

def HpO (w : World) (p : Nat) (fv : Rest4) (S : List It) (F : Nat → Prop) : Prop :=
 ∃ v l mb f, HRaw w p fv v l mb f F ∧ HOrd l ∧ Full f l ∧ l.Perm S ∧ Srt S ∧ Ids S

theorem HpO.keep {fv : Rest4} {w w' : World} {p : Nat} {S : List It} {F G : Nat → Prop} (h : HpO w p fv S F) (hm : Mod G w w') (hd : ∀ k, F k → ¬ G k) : HpO w' p fv S F := by
 obtain ⟨v, l, mb, f, h1, rest⟩ := h
 exact ⟨v, l, mb, f, h1.keep hm hd, rest⟩
theorem HpO.lt {fv : Rest4} {w : World} {p : Nat} {S : List It} {F : Nat → Prop} (h : HpO w p fv S F) : ∀ k, F k → k < w.heap.size := by
 obtain ⟨v, l, mb, f, h1, rest⟩ := h; exact h1.lt
theorem HpO.self {fv : Rest4} {w : World} {p : Nat} {S : List It} {F : Nat → Prop} (h : HpO w p fv S F) : F p := by
 obtain ⟨v, l, mb, f, h1, rest⟩ := h; exact h1.self
theorem HpO.ok {fv : Rest4} {w : World} {p : Nat} {S : List It} {F : Nat → Prop} (h : HpO w p fv S F) : Srt S ∧ Ids S ∧ ∀ x ∈ S, okIt x := by
 obtain ⟨v, l, mb, f, h1, _, _, hp, hs, hi⟩ := h; exact ⟨hs, hi, fun x hx => h1.ok x (hp.mem_iff.2 hx)⟩
theorem HpO.new {fv : Rest4} (w : World) (p : Nat) (hp : p = w.heap.size) : HpO (w.alloc (.cells #[.slice none 0 0, .map none, fv.1, fv.2.1, fv.2.2.1, fv.2.2.2] 193)) p fv [] (fun k => k = p) := by
 subst hp
 exact ⟨.slice none 0 0, [], none, fun _ => none, ⟨Blk.new w _ [.slice none 0 0, .map none, fv.1, fv.2.1, fv.2.2.1, fv.2.2.2], World.ownsRow_nil _ _ _ _, fun _ => rfl, rfl, by simp [Value.ownBlock], by simp, fun k hk => by subst hk; simp, by simp⟩,
  fun i _ h => by simp at h, fun k j => by simp, List.Perm.refl _, List.Pairwise.nil, List.Pairwise.nil⟩

theorem len_any {fv : Rest4} (p : Nat) (w : World) (S : List It) (F : Nat → Prop) (h : HpO w p fv S F) : Calls Tryz.prog 128 #[.pointer (some ⟨p, 0, none⟩)] w fun e w' => e = .returned (.int .i64 S.length) ∧ w = w' := by
 obtain ⟨v, l, mb, f, h1, _, _, hp, _, _⟩ := h
 rw [← hp.length_eq]
 have c0 := h1.blk.cell 0 rfl
 obtain ⟨a, c, hv⟩ : ∃ a c, v = .slice a l.length c := own_form h1.own
 subst hv
 go_enter Tryz.func128, Tryz.ntmps128
 go_wp2
 go_ret
 exact ⟨rfl, rfl⟩

theorem look_place {w : World} {mb : Option Nat} {f : Int → Option Int} (h : PlaceOk w mb f) (id : Int) (hid : (Lit.int .i64 id).wf = true) :
  (Instr.lookup 136 (.map mb) (.int .i64 id) true).run Tryz.prog w = .ok (.tuple #[.int .i64 ((f id).getD 0), .bool (f id).isSome]) w := by
 cases mb with
 | none => rw [h id]; exact look_none Tryz.underlying136 Tryz.underlying3 (Hp.zero3 w) id hid
 | some b => exact IMap.look h Tryz.underlying136 Tryz.underlying3 Tryz.underlying3 (Hp.zero3 w) id hid

theorem HRaw.grown {fv : Rest4} {w w0 w' : World} {p : Nat} {v v' : Value} {l : List It} {mb : Option Nat} {f : Int → Option Int} {F : Nat → Prop} (h : HRaw w p fv v l mb f F) (hm : Mod (fun _ => False) w w0)
  (hap : Appended w0 w' 166 2 v v' (l.length + 1) (l.flatMap cellsIt ++ [.int .i64 0, .int .i64 0])) :
  HRaw (w'.setCell ⟨p, 0, none⟩ v') p fv v' (l ++ [(0, 0)]) mb f (fun k => F k ∨ v'.ownBlock = some k) ∧ Aft w (w'.setCell ⟨p, 0, none⟩ v') F (fun k => F k ∨ v'.ownBlock = some k) := by
 have h0 := h.keep hm (fun _ _ e => e)
 have hm2 := hap.mod
 have hsz : w.heap.size ≤ w'.heap.size := Nat.le_trans hm.size hm2.size
 have hnew : ∀ k, v'.ownBlock = some k → v.ownBlock = some k ∨ w.heap.size ≤ k := fun k hk => (hap.row k hk).imp id (fun e => Nat.le_trans hm.size e)
 have hpv : v'.ownBlock ≠ some p := by
  intro e
  rcases hnew p e with e | e
  ·
   exact (h.row p e).2 rfl
  ·
   have := h.lt p h.self; omega
 have hset : Mod (fun k => k = p) w' (w'.setCell ⟨p, 0, none⟩ v') := Mod.setCell _ _ _ rfl
 have hmall : Mod F w (w'.setCell ⟨p, 0, none⟩ v') := ((hm.mono (fun _ _ e => e.elim) : Mod F w w0).trans hm2 (H := F) (fun _ _ e => e) (fun i _ e => (h.row i e).1)).thenSet _ _ (fun _ => h.self)
 refine ⟨⟨(h0.blk.keep hm2 (fun e => (h.row p e).2 rfl)).set 0 v', ?_, ?_, .inl h.self, fun k hk => ⟨.inr hk, fun e => hpv (by rw [← e]; exact hk)⟩, fun b hb => ?_, ?_, ?_⟩, hmall, fun k hk => hk.elim .inl (fun e => (hnew k e).elim (fun e => .inl (h.row k e).1) .inr)⟩
 ·
  have ho := Own.keep hap.own hset (fun k hk e => hpv (by rw [← e]; exact hk))
  simpa [List.flatMap_append, cellsIt] using ho
 ·
  exact ((h0.place.keep hm2 (fun b hb e => (h.map b hb).2.2 e)).keep hset (fun b hb e => (h.map b hb).2.1 e))
 ·
  have hb' := h.map b hb
  refine ⟨.inl hb'.1, hb'.2.1, fun e => ?_⟩
  rcases hnew b e with e | e
  ·
   exact hb'.2.2 e
  ·
   have := h.lt b hb'.1; omega
 ·
  rintro k (hk | hk)
  ·
   have := h.lt k hk; simp; omega
  ·
   simpa using Own.lt hap.own hk
 ·
  intro x hx
  rw [List.mem_append, List.mem_singleton] at hx
  rcases hx with hx | rfl
  ·
   exact h.ok x hx
  ·
   exact ⟨by decide, by decide⟩

set_option maxHeartbeats 1000000 in
theorem grow_any {fv : Rest4} (p : Nat) (w : World) (v : Value) (l : List It) (mb : Option Nat) (f : Int → Option Int) (F : Nat → Prop) (h : HRaw w p fv v l mb f F) (hl : l.length ≤ 1000000000) :
  Calls Tryz.prog 154 #[.pointer (some ⟨p, 0, none⟩)] w fun e w' => e = .returned (.int .i64 l.length) ∧ ∃ v' b F', HRaw w' p fv v' (l ++ [(0, 0)]) (some b) f F' ∧ Aft w w' F F' := by
 obtain ⟨iI, hiI, zI, sI, bI⟩ := info_parts Hp.infoI
 have c0 := h.blk.cell 0 rfl
 have c1 := h.blk.cell 1 rfl
 have d0 := h.blk.free 0
 have d1 := h.blk.free 1
 have hap1 : l.length + 1 ≤ maxLen := by unfold maxLen; omega
 have hap2 : (l.length + 1) * 16 ≤ 140737488355328 := by omega
 have h1c : ∀ u ∈ [Value.int .i64 0, .int .i64 0], u.oneCell' = true := by simp [Value.oneCell']
 have hne := fun (wx : World) => run_eql_map_nil wx 136 3 3 mb Tryz.underlying136
 cases mb with
 | some b =>
  go_enter Tryz.func154, Tryz.ntmps154
  go_wp2_with (at_builtin; refine wpList_append_any rfl (.tmp 16) (.tmp 18) 135 rfl 166 iI (.agg #[.int .i64 0, .int .i64 0]) 2 16 Tryz.underlying135 hiI zI sI bI rfl (by decide) _ l.length (l.flatMap cellsIt) rfl (World.ownsRow.alloc h.own _) _ 1 [.int .i64 0, .int .i64 0] rfl (Rd.one2 w 166 _ _ _ rfl) h1c hap1 hap2 ?_; intro v' w' hap; obtain ⟨a3, c3, rfl⟩ := hap.form; have hb1 : Blk w' p 193 [v, .map (some b), fv.1, fv.2.1, fv.2.2.1, fv.2.2.2] := (h.blk.alloc _).keep hap.mod (fun e => (h.row p e).2 rfl); have c0' := hb1.cell 0 rfl; have d0' := hb1.free 0)
  go_ret
  have hg := h.grown (Mod.alloc (fun _ => False) w _) hap
  exact ⟨by simp, _, b, _, hg.1, hg.2⟩
 | none =>
  have hmm := @run_makeMap Tryz.prog
  have hba := h.blk.alloc (.map #[] 0)
  have c1a := hba.cell 1 rfl
  have d1a := hba.free 1
  clear hba
  go_enter Tryz.func154, Tryz.ntmps154
  go_upto_region 3 with fail
  have hmid : HRaw ((w.alloc (.map #[] 0)).setCell ⟨p, 1, none⟩ (.map (some w.heap.size))) p fv v l (some w.heap.size) f (fun k => F k ∨ k = w.heap.size) := by
   have h0 := h.keep (Mod.alloc (fun _ => False) w (.map #[] 0)) (fun _ _ e => e)
   have hset : Mod (fun k => k = p) (w.alloc (.map #[] 0)) ((w.alloc (.map #[] 0)).setCell ⟨p, 1, none⟩ (.map (some w.heap.size))) := Mod.setCell _ _ _ rfl
   have hpl := h.lt p h.self
   refine ⟨h0.blk.set 1 _, Own.keep h0.own hset (fun k hk e => (h.row k hk).2 e), ?_, .inl h.self, fun k hk => ⟨.inl (h.row k hk).1, (h.row k hk).2⟩, fun b hb => ?_, ?_, h.ok⟩
   ·
    have hf : f = fun _ => none := funext h.place
    rw [hf]
    exact (IMap.made w).keep hset (fun e => by omega)
   ·
    cases hb
    exact ⟨.inr rfl, by omega, fun e => by have := h.lt _ (h.row _ e).1; omega⟩
   ·
    rintro k (hk | rfl)
    ·
     have := h.lt k hk; simp; omega
    ·
     simp
  have hAft : Aft w ((w.alloc (.map #[] 0)).setCell ⟨p, 1, none⟩ (.map (some w.heap.size))) F (fun k => F k ∨ k = w.heap.size) :=
   ⟨((Mod.refl F w).thenAlloc _).thenSet _ _ (fun _ => h.self), fun k hk => hk.elim .inl (fun e => .inr (by omega))⟩
  obtain ⟨W, hW⟩ : ∃ W, (w.alloc (.map #[] 0)).setCell ⟨p, 1, none⟩ (.map (some w.heap.size)) = W := ⟨_, rfl⟩
  rw [hW] at hmid hAft ⊢
  clear hW c0 c1 d0 d1 c1a d1a
  have c0 := hmid.blk.cell 0 rfl
  have c1 := hmid.blk.cell 1 rfl
  have d0 := hmid.blk.free 0
  go_wp2_with (at_builtin; refine wpList_append_any rfl (.tmp 16) (.tmp 18) 135 rfl 166 iI (.agg #[.int .i64 0, .int .i64 0]) 2 16 Tryz.underlying135 hiI zI sI bI rfl (by decide) _ l.length (l.flatMap cellsIt) rfl (World.ownsRow.alloc hmid.own _) _ 1 [.int .i64 0, .int .i64 0] rfl (Rd.one2 W 166 _ _ _ rfl) h1c hap1 hap2 ?_; intro v' w' hap; obtain ⟨a3, c3, rfl⟩ := hap.form; have hb1 : Blk w' p 193 [v, .map (some w.heap.size), fv.1, fv.2.1, fv.2.2.1, fv.2.2.2] := (hmid.blk.alloc _).keep hap.mod (fun e => (hmid.row p e).2 rfl); have c0' := hb1.cell 0 rfl; have d0' := hb1.free 0)
  go_ret
  have hg := hmid.grown (Mod.alloc (fun _ => False) W _) hap
  exact ⟨by simp, _, _, _, hg.1, hAft.trans hg.2⟩
end Go.Proofs.YtjjedebjbgpimaaGreat.WH
namespace Go.Proofs.YtjjedebjbgpimaaGreat.WH
open Go.RowKit Mile
set_option maxRecDepth 100000

def PushPost (p : Nat) (fv : Rest4) (S : List It) (id key : Int) (F : Nat → Prop) (w : World) (e : Ending) (w' : World) : Prop :=
 e = .returned (.bool (pushS S id key).1) ∧ ∃ F', HpO w' p fv (pushS S id key).2 F' ∧ Aft w w' F F'

set_option maxHeartbeats 2000000 in
theorem hpush_any {fv : Rest4} (p : Nat) (w : World) (S : List It) (F : Nat → Prop) (h : HpO w p fv S F) (hS : S.length ≤ 900000000) (id key : Int) (hid : (Lit.int .i64 id).wf = true) (hkey : (Lit.int .i64 key).wf = true) :
  Calls Tryz.prog 143 #[.pointer (some ⟨p, 0, none⟩), .int .i64 id, .int .i64 key] w (PushPost p fv S id key F w) := by
 obtain ⟨iI, hiI, zI, sI, bI⟩ := info_parts Hp.infoI
 have h0 := h
 obtain ⟨v, l, mb, f, h1, ho, hf, hp, hs, hids⟩ := h
 have hlS : l.length = S.length := hp.length_eq
 have HLS := Lib.hid hlS
 clear hlS
 have c0 := h1.blk.cell 0 rfl
 have c1 := h1.blk.cell 1 rfl
 have hlk := look_place h1.place id hid
 have hxo : okIt (id, key) := ⟨hid, hkey⟩
 have hpo := pushS_ok hs hids id key
 have hidl : Ids l := ids_perm hp.symm hids
 rcases full_key hf hids hp id with ⟨e1, e2⟩ | ⟨i, hi, e1, e2, e3⟩
 ·
  rw [e1] at hlk
  simp only [Option.getD_none, Option.isSome_none] at hlk
  have hP : pushS S id key = (true, insS S (id, key)) := by simp [pushS, e2]
  have HP := Lib.hid hP
  clear hP e1
  have hne := keyS_none_inv e2
  clear e2
  go_enter Tryz.func143, Tryz.ntmps143
  go_wp2_with fail
  refine (grow_any p w v l mb f F h1 (by have := HLS.out; omega)).mono ?_
  rintro e w1 ⟨rfl, v', b, F', hR, hA⟩
  go_wp2_with fail
  refine (rise_any p w1 v' _ b f F' hR l.length (by have := HLS.out; simp; omega) (by simp) (id, key) hxo (good_of_new hf _ _) (fun i hi hne' => ?_) (up_of_new ho _ _)).mono ?_
  ·
   have hil : i < l.length := by simp at hi; omega
   have hg : g (l ++ [(0, 0)]) i = g l i := by unfold g; simp [List.getD, List.getElem?_append_left hil]
   rw [hg]
   exact hne _ (hp.mem_iff.1 (g_mem hil))
  rintro e w2 ⟨rfl, l', f', hR', hpp, ho', hf', hM⟩
  go_wp2
  go_ret
  refine ⟨by rw [HP.out]; rfl, F', ⟨_, _, _, _, hR', ho', hf', ?_, hpo.1, hpo.2⟩, hA.trans (Aft.ofMod hM)⟩
  rw [HP.out]
  exact hpp.trans (new_perm hp _ _)
 ·
  rw [e1] at hlk
  simp only [Option.getD_some, Option.isSome_some] at hlk
  obtain ⟨gb, cap, hv⟩ := h1.slice (by omega)
  subst hv
  obtain ⟨f1, f2⟩ := cell_it h1.own i hi
  have hq : (i : Int) < (l.length : Int) := by omega
  by_cases hle : (g l i).2 ≤ key
  ·
   have hP : pushS S id key = (false, S) := by simp [pushS, e3, hle]
   have HP := Lib.hid hP
   clear hP e1 e3
   go_enter Tryz.func143, Tryz.ntmps143
   go_wp2
   go_ret
   exact ⟨by rw [HP.out]; rfl, F, by rw [HP.out]; exact h0, Aft.refl _ _⟩
  ·
   have hP : pushS S id key = (true, insS (dropS S id) (id, key)) := by simp [pushS, e3, hle]
   have HP := Lib.hid hP
   have hgood : Mile.Good f l i (id, key) := by have := good_of_full hi hf key; rw [e2] at this; exact this
   have hup : UpInv l i (id, key) := up_of_ord hi ho (by rw [bef_iff]; exact .inl (by simp; omega))
   have hperm : (l.set i (id, key)).Perm (insS (dropS S id) (id, key)) := by have := lowered_perm hi hidl hp key; rw [e2] at this; exact this
   have hlt : key < (g l i).2 := by omega
   have hnid : ∀ j, j < l.length → j ≠ i → (g l j).1 ≠ id := fun j hj hji e => hji (ids_g hidl hj hi (by rw [e2]; exact e))
   obtain ⟨b, hb⟩ : ∃ b, mb = some b := by
    cases mb with
    | some b => exact ⟨b, rfl⟩
    | none => have := h1.place id; rw [e1] at this; cases this
   subst hb
   clear hP e1 e3 e2 hle
   go_enter Tryz.func143, Tryz.ntmps143
   go_wp2_with fail
   refine (rise_any p w _ _ b f F h1 i (by have := HLS.out; omega) hi (id, key) hxo hgood hnid hup).mono ?_
   rintro e w2 ⟨rfl, l', f', hR', hpp, ho', hf', hM⟩
   go_wp2
   go_ret
   refine ⟨by rw [HP.out]; rfl, F, ⟨_, _, _, _, hR', ho', hf', ?_, hpo.1, hpo.2⟩, Aft.ofMod hM⟩
   rw [HP.out]
   exact hpp.trans hperm

theorem HRaw.cut {fv : Rest4} {w : World} {p gb m c : Nat} {l : List It} {mb : Option Nat} {f : Int → Option Int} {F : Nat → Prop} (h : HRaw w p fv (.slice (some ⟨gb, 0, none⟩) m c) l mb f F) (n : Nat) (hn : n ≤ l.length) :
  HRaw (w.setCell ⟨p, 0, none⟩ (.slice (some ⟨gb, 0, none⟩) n c)) p fv (.slice (some ⟨gb, 0, none⟩) n c) (l.take n) mb f F ∧ Mod (fun k => k = p) w (w.setCell ⟨p, 0, none⟩ (.slice (some ⟨gb, 0, none⟩) n c)) := by
 have hset : Mod (fun k => k = p) w (w.setCell ⟨p, 0, none⟩ (.slice (some ⟨gb, 0, none⟩) n c)) := Mod.setCell _ _ _ rfl
 have hm : m = l.length := own_n h.own
 subst hm
 have hr := h.row gb rfl
 refine ⟨⟨h.blk.set 0 _, ?_, h.place.keep hset (fun b hb e => (h.map b hb).2.1 e), h.self, fun k hk => h.row k hk, fun b hb => h.map b hb, fun k hk => by have := h.lt k hk; simp; omega, fun x hx => h.ok x (List.mem_of_mem_take hx)⟩, hset⟩
 have ho := Own.keep (Own.take h.own hn) hset (fun k hk e => by
  have : gb = k := Option.some.inj hk
  exact hr.2 (by omega))
 have e1 : (l.take n).length = n := by rw [List.length_take]; omega
 have e2 : (l.flatMap cellsIt).take (n * 2) = (l.take n).flatMap cellsIt := by
  clear ho hset h hr
  induction l generalizing n with
  | nil => simp
  | cons x l ih =>
   cases n with
   | zero => simp
   | succ n =>
    rw [List.take_succ_cons, List.flatMap_cons, List.flatMap_cons, show (n + 1) * 2 = 2 + n * 2 by omega]
    have h2 : (cellsIt x).length = 2 := rfl
    rw [List.take_append, h2, List.take_of_length_le (by omega), show 2 + n * 2 - 2 = n * 2 by omega, ih n (by simpa using hn)]
    ·
     simp; simp at hn; omega
 rw [e1, ← e2]; exact ho

def PopPost (p : Nat) (fv : Rest4) (S : List It) (F : Nat → Prop) (w : World) (e : Ending) (w' : World) : Prop :=
 match S with
 | [] => e = .returned (.tuple #[.int .i64 0, .int .i64 0, .int .i64 4]) ∧ HpO w' p fv [] F ∧ Mod F w w'
 | x :: r => e = .returned (.tuple #[.int .i64 x.1, .int .i64 x.2, .int .i64 0]) ∧ HpO w' p fv r F ∧ Mod F w w'

set_option maxHeartbeats 2000000 in
theorem hpop_any {fv : Rest4} (p : Nat) (w : World) (S : List It) (F : Nat → Prop) (h : HpO w p fv S F) (hS : S.length ≤ 900000000) :
  Calls Tryz.prog 110 #[.pointer (some ⟨p, 0, none⟩)] w (PopPost p fv S F w) := by
 obtain ⟨iI, hiI, zI, sI, bI⟩ := info_parts Hp.infoI
 cases S with
 | nil =>
  have hlen := len_any p w [] F h
  go_enter Tryz.func110, Tryz.ntmps110
  go_wp2_with (go_at_call 128; refine hlen.mono ?_; rintro e w' ⟨rfl, rfl⟩)
  go_ret3
  exact ⟨rfl, h, Mod.refl _ _⟩
 | cons s r =>
  have hlen := len_any p w (s :: r) F h
  obtain ⟨v, l, mb, f, h1, ho, hf, hp, hs, hids⟩ := h
  have hlS : l.length = r.length + 1 := by rw [hp.length_eq]; rfl
  have hlb : l.length ≤ 900000000 := by rw [hp.length_eq]; exact hS
  have HLS := Lib.hid hlS
  have hg0 := head_min ho hp hs
  have hsok : okIt s := h1.ok s (hp.mem_iff.2 List.mem_cons_self)
  have hlok : ∀ i, i < l.length → okIt (g l i) := fun i hi => h1.ok _ (g_mem hi)
  have HLOK := Lib.hid hlok
  clear hlok
  have hidl : Ids l := ids_perm hp.symm hids
  obtain ⟨gb, cap, hv⟩ := h1.slice (by omega)
  subst hv
  have c0 := h1.blk.cell 0 rfl
  have c1 := h1.blk.cell 1 rfl
  obtain ⟨f1, f2⟩ := cell_it h1.own 0 (by omega)
  simp only [Nat.zero_mul, Nat.zero_add] at f1 f2
  have hlen0 : (0 : Int) < (l.length : Int) := by omega
  have hz : (((s :: r).length : Nat) : Int) = (l.length : Int) := by rw [hlS]; rfl
  rw [hz] at hlen
  have hl0 : ((l.length : Int) == 0) = false := by rw [beq_eq_false_iff_ne]; omega
  have hlN : 0 < l.length := by omega
  have c0a := fun x y => (h1.blk.alloc (.cells #[x, y] 166)).cell 0 rfl
  have f1a := fun x y => (cell_it (World.ownsRow.alloc h1.own (.cells #[x, y] 166)) 0 (by omega)).1
  have f2a := fun x y => (cell_it (World.ownsRow.alloc h1.own (.cells #[x, y] 166)) 0 (by omega)).2
  simp only [Nat.zero_mul, Nat.zero_add] at f1a f2a
  clear hz hlS
  go_enter Tryz.func110, Tryz.ntmps110
  go_wp2_with (go_at_call 128; refine hlen.mono ?_; rintro e w' ⟨rfl, rfl⟩)
  go_region
  obtain ⟨n, hn⟩ : ∃ n, l.length - 1 = n := ⟨_, rfl⟩
  rw [show (l.length : Int) - 1 = (n : Int) by omega]
  have hM1 := (Mod.refl F w).thenAlloc (.cells #[.int .i64 s.1, .int .i64 s.2] 166)
  have hM0 := (Mod.refl (fun _ => False) w).thenAlloc (.cells #[.int .i64 s.1, .int .i64 s.2] 166)
  have b1 : Blk (w.alloc (.cells #[.int .i64 s.1, .int .i64 s.2] 166)) w.heap.size 166 [.int .i64 s.1, .int .i64 s.2] := Blk.new w _ _
  have hb1 : ¬ F w.heap.size := fun e => by have := h1.lt _ e; omega
  have h2 := h1.keep hM0 (fun _ _ e => e)
  have hM1 := hM1.thenDrew
  have b1 := b1.drew
  have h2 := h2.keep (Mod.drew (fun _ => False) _) (fun _ _ e => e)
  obtain ⟨W, hW⟩ : ∃ W, World.drew (w.alloc (.cells #[.int .i64 s.1, .int .i64 s.2] 166)) = W := ⟨_, rfl⟩
  obtain ⟨x1, hx1⟩ : ∃ x1, w.heap.size = x1 := ⟨_, rfl⟩
  rw [hx1] at b1 hb1 ⊢
  rw [hW] at hM1 b1 h2 ⊢
  clear hW hx1 h1 c0 c1 f1 f2 c0a f1a f2a hM0 hlen
  have hnl : n < l.length := by omega
  obtain ⟨f3, f4⟩ := cell_it h2.own n hnl
  have c0 := h2.blk.cell 0 rfl
  have d0 := h2.blk.free 0
  have hq : (n : Int) < (l.length : Int) := by omega
  have HN := Lib.hid hn
  clear hn
  have rT := fun wx => run_takeS (P := Tryz.prog) wx 135 166 iI Tryz.underlying135 hiI (some ⟨gb, 0, none⟩) l.length cap n (by have := h2.own; rcases this.2 with ⟨e, _⟩ | ⟨_, _, _, e, _, _, h', _⟩ <;> cases e; omega)
  go_upto_region 5 with fail
  obtain ⟨le, hle⟩ : ∃ le, g l n = le := ⟨_, rfl⟩
  have hM2 := hM1.thenAlloc (.cells #[.int .i64 le.1, .int .i64 le.2] 166)
  have b2 : Blk (W.alloc (.cells #[.int .i64 le.1, .int .i64 le.2] 166)) W.heap.size 166 [.int .i64 le.1, .int .i64 le.2] := Blk.new W _ _
  have hb2 : ¬ F W.heap.size := fun e => by have := h2.lt _ e; omega
  have hx12 : x1 ≠ W.heap.size := by have := b1.lt; omega
  have b1 := b1.alloc (.cells #[.int .i64 le.1, .int .i64 le.2] 166)
  have h2 := h2.keep (Mod.alloc (fun _ => False) W (.cells #[.int .i64 le.1, .int .i64 le.2] 166)) (fun _ _ e => e)
  rw [hle]
  obtain ⟨W2, hW⟩ : ∃ W2, W.alloc (.cells #[.int .i64 le.1, .int .i64 le.2] 166) = W2 := ⟨_, rfl⟩
  obtain ⟨x2, hx2⟩ : ∃ x2, W.heap.size = x2 := ⟨_, rfl⟩
  rw [hx2] at b2 hb2 hx12 ⊢
  rw [hW] at hM2 b1 b2 h2 ⊢
  clear hW hx2 c0 d0 f3 f4 hM1
  have c0 := h2.blk.cell 0 rfl
  have d0 := h2.blk.free 0
  go_upto_region 6 with fail
  have h3 := h2.cut n (by omega)
  obtain ⟨h3, hM3⟩ := h3
  have b1 := b1.keep hM3 (fun e => hb1 (by rw [e]; exact h2.self))
  have b2 := b2.keep hM3 (fun e => hb2 (by rw [e]; exact h2.self))
  have hM3 := hM2.trans hM3 (H := F) (fun _ _ e => e) (fun _ _ e => by rw [e]; exact h2.self)
  obtain ⟨W3, hW⟩ : ∃ W3, W2.setCell ⟨p, 0, none⟩ (.slice (some ⟨gb, 0, none⟩) n cap) = W3 := ⟨_, rfl⟩
  rw [hW] at h3 b1 b2 hM3 ⊢
  clear hW c0 d0 hM2 h2
  have c1 := h3.blk.cell 1 rfl
  have e0 := b1.cell 0 rfl
  obtain ⟨b, hb⟩ : ∃ b, mb = some b := by
   cases mb with
   | some b => exact ⟨b, rfl⟩
   | none =>
    have h := (hf s.1 0).2 ⟨0, rfl, by omega, by rw [hg0]⟩
    rw [h3.place s.1] at h; cases h
  subst hb
  obtain ⟨w', hrun, hmap, hmm⟩ := IMap.drop (w := W3.drew) (IMap.keep h3.place (Mod.drew (fun _ => False) _) (fun e => e)) Tryz.underlying136 Tryz.underlying3 s.1 hsok.1 (ty := 0)
  go_region
  obtain ⟨h4, hM4⟩ := (h3.keep (Mod.drew (fun _ => False) _) (fun _ _ e => e)).placed hmm hmap
  have b1 := b1.drew.keep hM4 hb1
  have b2 := b2.drew.keep hM4 hb2
  have hM5 := hM3.thenDrew.trans hM4 (H := F) (fun _ _ e => e) (fun _ _ e => e)
  clear hrun hmap hmm h3 c1 e0 hM3 hM4
  have e0 := b1.cell 0 rfl
  have e1 := b1.cell 1 rfl
  have g0 := b2.cell 0 rfl
  have g1 := b2.cell 1 rfl
  have HG0 := Lib.hid hg0
  have HLE := Lib.hid hle
  clear hg0 hle
  have hnn := HN.out
  by_cases hn0 : n = 0
  ·
   subst hn0
   go_wp2_with fail
   go_quiet (fail)
   go_wp2
   go_ret3
   have hfull := pop_last hf (by omega)
   rw [HN.out, HG0.out] at hfull
   have hr0 : r = [] := by have := HLS.out; exact List.eq_nil_of_length_eq_zero (by omega)
   subst hr0
   refine ⟨rfl, ⟨_, _, _, _, h4.keep (Mod.drewN (fun _ => False) _ _) (fun _ _ e => e), ?_, hfull, ?_, List.Pairwise.nil, List.Pairwise.nil⟩, hM5.trans (Mod.drewN F _ _) (fun _ _ e => e) (fun _ _ e => e)⟩
   ·
    intro i _ h; simp at h
   ·
    rw [List.take_zero]
  ·
   have hn1 : 1 < l.length := by omega
   have hnp : (0 : Int) < (n : Int) := by omega
   have hgood := pop_good hf hidl hn1
   have hpi := pop_ids hidl hn1
   have hpd := pop_down ho hn1
   have hpp := pop_perm hp HG0.out hn1
   rw [HN.out, HLE.out] at hgood hpi hpd hpp
   rw [HG0.out] at hgood
   have htl : (l.take n).length = n := by rw [List.length_take]; omega
   have hleok : okIt le := by rw [← HLE.out]; exact HLOK.out n (by omega)
   go_wp2_with fail
   refine (sink_any p w' _ (l.take n) b _ F h4 0 (by omega) (by omega) le hleok hgood hpi hpd).mono ?_
   rintro e w6 ⟨rfl, l', f', hR', hperm, ho', hf', hM6⟩
   have b1 := b1.keep hM6 hb1
   clear e0 e1 g0 g1
   have e0 := b1.cell 0 rfl
   have e1 := b1.cell 1 rfl
   go_wp2_with fail
   go_quiet (fail)
   go_wp2
   go_ret3
   rw [Srt, List.pairwise_cons] at hs
   have hids' : Ids r := by unfold Ids at hids ⊢; rw [List.map_cons, List.pairwise_cons] at hids; exact hids.2
   exact ⟨rfl, ⟨_, _, _, _, hR'.keep (Mod.drewN (fun _ => False) _ _) (fun _ _ e => e), ho', hf', hperm.trans hpp, hs.2, hids'⟩, (hM5.trans hM6 (H := F) (fun _ _ e => e) (fun _ _ e => e)).trans (Mod.drewN F _ _) (fun _ _ e => e) (fun _ _ e => e)⟩
end Go.Proofs.YtjjedebjbgpimaaGreat.WH
