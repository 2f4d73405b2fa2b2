/- A region in which what an operation leaves may speak of the values of those ahead of it (an alloc, and the store into it). -/
import Derived.Test.YtmpcpmgpnccphaaRegion2
namespace Mile
open Go Go.RowKit
section
variable {P : Program} {ops : Array Oper} {Q : Exit → Act → World → Prop} {md : Region.Mode}
structure KnownV (a0 : Act) (ops : Array Oper) (md : Region.Mode) (R : World → World → Prop) (w0 : World) (F : Nat → (Nat → Value) → World → Prop) (listed : Array Bool) (a : Act) (w : World) (vs : Nat → Value) : Prop where
  act : a = putAll a0 ops.toList 0 vs
  rel : R w0 w
  known : ∀ j, listed.getD j false = true → F j vs w
  closed : ∀ i o, ops[i]? = some o → listed.getD i false = true → ∀ e ∈ o.after, Region.binds md e = true → listed.getD e.on false = true
/-- What is to be shown of operation i; the frame's form laid once. -/
def OpOkV (P : Program) (ops : Array Oper) (Q : Exit → Act → World → Prop) (act : (Nat → Value) → Act) (R : World → World → Prop) (w0 : World) (F : Nat → (Nat → Value) → World → Prop) (D : List Nat) (i : Nat) (o : Oper) : Prop :=
  ∀ (K : Act → World → Prop) (vs : Nat → Value) (w : World), R w0 w → (∀ j ∈ D, F j vs w) → (∀ v w', F i (upd vs i v) w' → R w w' → K ((act vs).put o.dst v) w') →
    wpList P ops (Exit.then K Q) [o] (act vs) w
def OpsOkV (P : Program) (ops : Array Oper) (Q : Exit → Act → World → Prop) (act : (Nat → Value) → Act) (R : World → World → Prop) (w0 : World) (F : Nat → (Nat → Value) → World → Prop) (D : Nat → List Nat) : Nat → List Oper → Prop
  | _, [] => True
  | k, o :: r => OpOkV P ops Q act R w0 F (D k) k o ∧ OpsOkV P ops Q act R w0 F D (k + 1) r
theorem opsOkV_cons {act : (Nat → Value) → Act} {R : World → World → Prop} {w0 : World} {F : Nat → (Nat → Value) → World → Prop} {D : Nat → List Nat} {k : Nat} {o : Oper} {r : List Oper} (h : OpOkV P ops Q act R w0 F (D k) k o) (t : OpsOkV P ops Q act R w0 F D (k + 1) r) : OpsOkV P ops Q act R w0 F D k (o :: r) := ⟨h, t⟩
theorem opsOkV_nil {act : (Nat → Value) → Act} {R : World → World → Prop} {w0 : World} {F : Nat → (Nat → Value) → World → Prop} {D : Nat → List Nat} {k : Nat} : OpsOkV P ops Q act R w0 F D k [] := trivial
theorem OpsOkV.at_ {act : (Nat → Value) → Act} {R : World → World → Prop} {w0 : World} {F : Nat → (Nat → Value) → World → Prop} {D : Nat → List Nat} : ∀ (l : List Oper) (k : Nat), OpsOkV P ops Q act R w0 F D k l → ∀ i o, l[i]? = some o → OpOkV P ops Q act R w0 F (D (k + i)) (k + i) o := by
  intro l
  induction l with
  | nil => intro k _ i o h; simp at h
  | cons p r ih =>
    intro k h i o hi
    cases i with
    | zero => simp at hi; subst hi; exact h.1
    | succ i =>
      have := ih (k + 1) h.2 i o (by simpa using hi)
      rwa [show k + 1 + i = k + (i + 1) by omega] at this
theorem wp_region_rel {id : Nat} {a0 : Act} {w0 : World} {act : (Nat → Value) → Act} (R : World → World → Prop) (F : Nat → (Nat → Value) → World → Prop) (D : Nat → List Nat)
    (hm : P.follows .mixedOrders = true) (hdst : dstsApart ops.toList = true) (hback : backB .any ops = true)
    (hD : ((List.range ops.size).all fun i => (D i).all fun j => ((masks .any ops).getD i 0).testBit j) = true)
    (hrefl : ∀ w, R w w) (htrans : ∀ w w' w'', R w w' → R w' w'' → R w w'')
    (hact : ∀ vs, putAll a0 ops.toList 0 vs = act vs) (hF : ∀ i vs w w', F i vs w → R w w' → F i vs w')
    (hloc : ∀ i (vs vs' : Nat → Value) w, (∀ k, (k = i ∨ k ∈ D i) → vs k = vs' k) → F i vs w → F i vs' w)
    (hops : OpsOkV P ops Q act R w0.drew F D 0 ops.toList)
    (hend : ∀ vs w, R w0.drew w → (∀ i, i < ops.size → F i vs w) → Q .normal (act vs) w) :
    (Code.region id ops true).wp P Q a0 w0 := by
  refine wp_region_any hm ?_
  have key := wpAny_inv (P := P) (ops := ops) (Q := Q) (md := .any) (I := fun listed a w => ∃ vs, KnownV a0 ops .any R w0.drew F listed a w vs)
    (fun listed a w i hs hi ⟨vs, hk⟩ => by
      obtain ⟨hun, o, ho, hdeps⟩ := mem_ready.1 hi
      have hok := hops.at_ ops.toList 0 i o (by simpa using ho)
      rw [Nat.zero_add] at hok
      have hlt : i < ops.size := (Array.getElem?_eq_some_iff.1 ho).1
      have hunf : listed.getD i false = false := by
        have hil : i < listed.size := by omega
        simp [hil] at hun ⊢; exact hun
      have hbit : ∀ x, x < ops.size → ∀ j ∈ D x, ((masks .any ops).getD x 0).testBit j = true := fun x hx j hj =>
        List.all_eq_true.1 (List.all_eq_true.1 hD x (List.mem_range.2 hx)) j hj
      have hDi : ∀ j ∈ D i, F j vs w := fun j hj =>
        hk.known j (mask_listed hback hk.closed i (fun o' ho' => by rw [ho] at ho'; cases ho'; exact hdeps) j (hbit i hlt j hj))
      have hw := hok (fun a' w' => ∃ vs, KnownV a0 ops .any R w0.drew F (listed.setIfInBounds i true) a' w' vs) vs w hk.rel hDi (fun v w' hv hR => by
        refine ⟨upd vs i v, ?_, htrans _ _ _ hk.rel hR, fun j hj => ?_, fun j oj hoj hj e he hb => ?_⟩
        · have := putAll_upd (a := a0) (v := v) ops.toList 0 i o vs hdst (by simpa using ho)
          rw [← hact, this, Nat.zero_add]
        · by_cases hji : j = i
          · subst hji; exact hv
          · rw [getD_set_ne false (Ne.symm hji)] at hj
            have hjl : j < ops.size := by
              rcases Nat.lt_or_ge j ops.size with h | h
              · exact h
              · rw [← hs] at h; simp [Array.getElem?_eq_none h] at hj
            refine hloc j vs (upd vs i v) w' (fun k hkj => ?_) (hF _ _ _ _ (hk.known j hj) hR)
            have hki : k ≠ i := by
              rintro rfl
              rcases hkj with h | h
              · exact hji h.symm
              · have := mask_listed hback hk.closed j (fun o' ho' => hk.closed j o' ho' hj) k (hbit j hjl k h)
                rw [hunf] at this; cases this
            simp only [upd, if_neg hki]
        · by_cases hji : j = i
          · subst hji
            rw [ho] at hoj; cases hoj
            exact getD_set_true (hdeps e he hb)
          · rw [getD_set_ne false (Ne.symm hji)] at hj
            exact getD_set_true (hk.closed j oj hoj hj e he hb))
      rw [hk.act, hact]
      exact wpOp_of_list ho hw)
    (fun listed a w hs hr ⟨vs, hk⟩ => by
      rw [hk.act, hact]
      refine hend vs w hk.rel (fun i hi => hk.known i ?_)
      have := listed_all hback hs hr i hi
      have hlt : i < listed.size := by omega
      simp [hlt] at this ⊢; exact this)
  refine key ops.size _ a0 _ (by simp) ?_ ⟨vs0 a0 ops.toList, ?_, hrefl _, fun i hi => ?_, fun i o _ hi => ?_⟩
  · simp [unlisted]
  · refine (putAll_start a0 ops.toList 0 _ (fun i o ho d hd => ?_)).symm
    rw [Nat.zero_add]; unfold vs0; rw [ho]; simp [hd]
  · rcases Nat.lt_or_ge i ops.size with h | h <;> simp [h] at hi
  · rcases Nat.lt_or_ge i ops.size with h | h <;> simp [h] at hi
end
end Mile
