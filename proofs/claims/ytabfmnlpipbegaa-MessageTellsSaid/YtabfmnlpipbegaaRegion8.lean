/- A region that draws its order, with an invariant that speaks of who has come up. -/
import Derived.Test.YtabfmnlpipbegaaRegion2
namespace Mile
open Go Go.RowKit
section
variable {P : Program} {ops : Array Oper} {Q : Exit → Act → World → Prop}
structure KnownG (a0 : Act) (ops : Array Oper) (I : (Nat → Prop) → (Nat → Value) → World → Prop) (listed : Array Bool) (a : Act) (w : World) (vs : Nat → Value) : Prop where
  act : a = putAll a0 ops.toList 0 vs
  inv : I (fun j => listed.getD j false = true) vs w
  closed : ∀ i o, ops[i]? = some o → listed.getD i false = true → ∀ e ∈ o.after, Region.binds .any e = true → listed.getD e.on false = true
/-- What is to be shown of operation i; L: those that have come up. -/
def OpOkG (P : Program) (ops : Array Oper) (Q : Exit → Act → World → Prop) (act : (Nat → Value) → Act) (I : (Nat → Prop) → (Nat → Value) → World → Prop) (D : List Nat) (i : Nat) (o : Oper) : Prop :=
  ∀ (K : Act → World → Prop) (vs : Nat → Value) (w : World) (L : Nat → Prop), I L vs w → (∀ j ∈ D, L j) → ¬ L i →
    (∀ v w', I (fun j => L j ∨ j = i) (upd vs i v) w' → K ((act vs).put o.dst v) w') →
    wpList P ops (Exit.then K Q) [o] (act vs) w
def OpsOkG (P : Program) (ops : Array Oper) (Q : Exit → Act → World → Prop) (act : (Nat → Value) → Act) (I : (Nat → Prop) → (Nat → Value) → World → Prop) (D : Nat → List Nat) : Nat → List Oper → Prop
  | _, [] => True
  | k, o :: r => OpOkG P ops Q act I (D k) k o ∧ OpsOkG P ops Q act I D (k + 1) r
theorem opsOkG_cons {act : (Nat → Value) → Act} {I : (Nat → Prop) → (Nat → Value) → World → Prop} {D : Nat → List Nat} {k : Nat} {o : Oper} {r : List Oper} (h : OpOkG P ops Q act I (D k) k o) (t : OpsOkG P ops Q act I D (k + 1) r) : OpsOkG P ops Q act I D k (o :: r) := ⟨h, t⟩
theorem opsOkG_nil {act : (Nat → Value) → Act} {I : (Nat → Prop) → (Nat → Value) → World → Prop} {D : Nat → List Nat} {k : Nat} : OpsOkG P ops Q act I D k [] := trivial
theorem OpsOkG.at_ {act : (Nat → Value) → Act} {I : (Nat → Prop) → (Nat → Value) → World → Prop} {D : Nat → List Nat} : ∀ (l : List Oper) (k : Nat), OpsOkG P ops Q act I D k l → ∀ i o, l[i]? = some o → OpOkG P ops Q act I (D (k + i)) (k + i) o := by
  intro l
  induction l with
  | nil => intro k _ i o h; simp at h
  | cons p r ih =>
    intro k h i o hi
    cases i with
    | zero => simp at hi; subst hi; exact h.1
    | succ i =>
      have := ih (k + 1) h.2 i o (by simpa using hi)
      rwa [show k + 1 + i = k + (i + 1) by omega] at this
theorem wp_region_gen {id : Nat} {a0 : Act} {w0 : World} {act : (Nat → Value) → Act} (I : (Nat → Prop) → (Nat → Value) → World → Prop) (D : Nat → List Nat)
    (hm : P.follows .mixedOrders = true) (hdst : dstsApart ops.toList = true) (hback : backB .any ops = true)
    (hD : ((List.range ops.size).all fun i => (D i).all fun j => ((masks .any ops).getD i 0).testBit j) = true)
    (hact : ∀ vs, putAll a0 ops.toList 0 vs = act vs) (h0 : ∀ vs, I (fun _ => False) vs w0.drew)
    (hops : OpsOkG P ops Q act I D 0 ops.toList)
    (hend : ∀ vs w L, I L vs w → (∀ i, i < ops.size → L i) → Q .normal (act vs) w) :
    (Code.region id ops true).wp P Q a0 w0 := by
  refine wp_region_any hm ?_
  have key := wpAny_inv (P := P) (ops := ops) (Q := Q) (md := .any) (I := fun listed a w => ∃ vs, KnownG a0 ops I listed a w vs)
    (fun listed a w i hs hi ⟨vs, hk⟩ => by
      obtain ⟨hun, o, ho, hdeps⟩ := mem_ready.1 hi
      have hok := hops.at_ ops.toList 0 i o (by simpa using ho)
      rw [Nat.zero_add] at hok
      have hlt : i < ops.size := (Array.getElem?_eq_some_iff.1 ho).1
      have hil : i < listed.size := by omega
      have hunf : listed.getD i false = false := by
        simp [hil] at hun ⊢; exact hun
      have hDi : ∀ j ∈ D i, listed.getD j false = true := fun j hj =>
        mask_listed hback hk.closed i (fun o' ho' => by rw [ho] at ho'; cases ho'; exact hdeps) j (List.all_eq_true.1 (List.all_eq_true.1 hD i (List.mem_range.2 hlt)) j hj)
      have hw := hok (fun a' w' => ∃ vs, KnownG a0 ops I (listed.setIfInBounds i true) a' w' vs) vs w (fun j => listed.getD j false = true) hk.inv hDi (by rw [hunf]; simp) (fun v w' hv => by
        refine ⟨upd vs i v, ?_, ?_, fun j oj hoj hj e he hb => ?_⟩
        · have := putAll_upd (a := a0) (v := v) ops.toList 0 i o vs hdst (by simpa using ho)
          rw [← hact, this, Nat.zero_add]
        · have e : (fun j => (listed.setIfInBounds i true).getD j false = true) = (fun j => listed.getD j false = true ∨ j = i) := by
            funext j
            apply propext
            by_cases hji : j = i
            · subst hji; simp [hil]
            · rw [getD_set_ne false (Ne.symm hji)]; simp [hji]
          rw [e]; exact hv
        · by_cases hji : j = i
          · subst hji
            rw [ho] at hoj; cases hoj
            exact getD_set_true (hdeps e he hb)
          · rw [getD_set_ne false (Ne.symm hji)] at hj
            exact getD_set_true (hk.closed j oj hoj hj e he hb))
      rw [hk.act, hact]
      exact wpOp_of_list ho hw)
    (fun listed a w hs hr ⟨vs, hk⟩ => by
      rw [hk.act, hact]
      refine hend vs w _ hk.inv fun i hi => ?_
      have := listed_all hback hs hr i hi
      have hlt : i < listed.size := by omega
      simp [hlt] at this ⊢; exact this)
  have e0 : (fun j => (Array.replicate ops.size false).getD j false = true) = (fun _ : Nat => False) := by
    funext j
    apply propext
    rcases Nat.lt_or_ge j ops.size with h | h <;> simp [h]
  refine key ops.size _ a0 _ (by simp) ?_ ⟨vs0 a0 ops.toList, ?_, ?_, fun i o _ hi => ?_⟩
  · simp [unlisted]
  · refine (putAll_start a0 ops.toList 0 _ (fun i o ho d hd => ?_)).symm
    rw [Nat.zero_add]; unfold vs0; rw [ho]; simp [hd]
  · have := h0 (vs0 a0 ops.toList)
    rw [← e0] at this; exact this
  · rcases Nat.lt_or_ge i ops.size with h | h <;> simp [h] at hi
end
end Mile
