/- The same rule for regions of many operations: what an operation waits for is reckoned once, as bits of a number. -/
import Derived.Test.YtbjdjafkpldbnaaRegion
namespace Mile
open Go Go.RowKit

section
variable {P : Program} {ops : Array Oper} {Q : Exit → Act → World → Prop} {md : Region.Mode}
/-- What one operation waits for, from what those ahead of it wait for. -/
def maskStep (md : Region.Mode) (acc : List Nat) (o : Oper) : Nat := o.after.toList.foldl (fun m e => if Region.binds md e then m ||| ((1 <<< e.on) ||| acc.getD e.on 0) else m) 0
def masksGo (md : Region.Mode) : List Oper → List Nat → List Nat
  | [], acc => acc
  | o :: r, acc => masksGo md r (acc ++ [maskStep md acc o])
def masks (md : Region.Mode) (ops : Array Oper) : List Nat := masksGo md ops.toList []

theorem maskStep_bit {acc : List Nat} {j : Nat} : ∀ (l : List Edge) (m : Nat), (l.foldl (fun m e => if Region.binds md e then m ||| ((1 <<< e.on) ||| acc.getD e.on 0) else m) m).testBit j = true →
    m.testBit j = true ∨ ∃ e ∈ l, Region.binds md e = true ∧ (e.on = j ∨ (acc.getD e.on 0).testBit j = true)
  | [], m, h => .inl h
  | e :: l, m, h => by
    rw [List.foldl_cons] at h
    rcases maskStep_bit l _ h with h1 | ⟨e', he, hb, h1⟩
    · by_cases hb : Region.binds md e = true
      · rw [if_pos hb, Nat.testBit_or, Nat.testBit_or] at h1
        simp only [Bool.or_eq_true] at h1
        rcases h1 with h1 | h1 | h1
        · exact .inl h1
        · refine .inr ⟨e, by simp, hb, .inl ?_⟩
          rw [Nat.one_shiftLeft, Nat.testBit_two_pow] at h1
          simpa using h1
        · exact .inr ⟨e, by simp, hb, .inr h1⟩
      · rw [if_neg hb] at h1
        exact .inl h1
    · exact .inr ⟨e', by simp [he], hb, h1⟩

theorem masksGo_pre : ∀ (l : List Oper) (acc : List Nat), acc <+: masksGo md l acc
  | [], _ => List.prefix_rfl
  | _ :: r, acc => (List.prefix_append acc _).trans (masksGo_pre r _)
theorem masksGo_at : ∀ (l : List Oper) (acc : List Nat) (i : Nat) (o : Oper), l[i]? = some o →
    ∃ pre, pre.length = acc.length + i ∧ pre <+: masksGo md l acc ∧ (masksGo md l acc)[acc.length + i]? = some (maskStep md pre o)
  | [], _, i, o, h => by simp at h
  | p :: r, acc, 0, o, h => by
    simp at h; subst h
    refine ⟨acc, by simp, ?_, ?_⟩
    · exact (List.prefix_append acc _).trans (masksGo_pre r (acc ++ [maskStep md acc p]))
    · have h1 := masksGo_pre (md := md) r (acc ++ [maskStep md acc p])
      obtain ⟨t, ht⟩ := h1
      unfold masksGo
      rw [← ht]
      simp
  | p :: r, acc, i + 1, o, h => by
    obtain ⟨pre, h1, h2, h3⟩ := masksGo_at r (acc ++ [maskStep md acc p]) i o (by simpa using h)
    have e : (acc ++ [maskStep md acc p]).length + i = acc.length + (i + 1) := by simp; omega
    exact ⟨pre, by omega, h2, by rw [← e]; exact h3⟩
theorem mask_listed {listed : Array Bool} (hback : backB md ops = true) (hcl : ∀ i o, ops[i]? = some o → listed.getD i false = true → ∀ e ∈ o.after, Region.binds md e = true → listed.getD e.on false = true) :
    ∀ (i : Nat), (∀ o, ops[i]? = some o → ∀ e ∈ o.after, Region.binds md e = true → listed.getD e.on false = true) → ∀ j, ((masks md ops).getD i 0).testBit j = true → listed.getD j false = true := by
  intro i
  induction i using Nat.strongRecOn with
  | _ i ih =>
    intro hi j h
    rcases Nat.lt_or_ge i ops.size with hlt | hge
    · have ho : ops.toList[i]? = some ops[i] := by simp [hlt]
      obtain ⟨pre, h1, h2, h3⟩ := masksGo_at (md := md) ops.toList [] i ops[i] ho
      simp only [List.length_nil, Nat.zero_add] at h1 h3
      unfold masks at h
      rw [List.getD, h3, Option.getD_some] at h
      rcases maskStep_bit _ _ h with h4 | ⟨e, he, hb, h4⟩
      · simp at h4
      · have hl := hi ops[i] (Array.getElem?_eq_getElem hlt) e (by simpa using he) hb
        rcases h4 with h4 | h4
        · rw [← h4]; exact hl
        · have hb' := List.all_eq_true.1 hback i (List.mem_range.2 hlt)
          rw [Array.getElem?_eq_getElem hlt] at hb'
          have h5 := Array.all_eq_true'.1 hb' e (by simpa using he)
          simp only [hb, Bool.not_true, Bool.false_or, decide_eq_true_eq] at h5
          refine ih e.on h5 (fun o' ho' => hcl e.on o' ho' hl) j ?_
          unfold masks
          obtain ⟨t, ht⟩ := h2
          rw [← ht, List.getD, List.getElem?_append_left (by omega)]
          exact h4
    · unfold masks at h
      have : (masksGo md ops.toList [])[i]? = none := by
        have hlen : ∀ (l : List Oper) (acc : List Nat), (masksGo md l acc).length = acc.length + l.length := by
          intro l
          induction l with
          | nil => intro acc; simp [masksGo]
          | cons o r ih' => intro acc; rw [masksGo, ih']; simp; omega
        rw [List.getElem?_eq_none_iff, hlen]
        simpa using hge
      rw [List.getD, this] at h
      simp at h

theorem wp_region_inv2 {id : Nat} {a0 : Act} {w0 : World} (R : World → World → Prop) (F : Nat → Value → World → Prop) (D : Nat → List Nat)
    (hm : P.follows .mixedOrders = true) (hdst : dstsApart ops.toList = true) (hback : backB .any ops = true)
    (hD : ((List.range ops.size).all fun i => (D i).all fun j => ((masks .any ops).getD i 0).testBit j) = true)
    (hrefl : ∀ w, R w w) (htrans : ∀ w w' w'', R w w' → R w' w'' → R w w'') (hF : ∀ i v w w', F i v w → R w w' → F i v w')
    (hops : OpsOk P ops Q a0 R w0.drew F D 0 ops.toList)
    (hend : ∀ vs w, R w0.drew w → (∀ i, i < ops.size → F i (vs i) w) → Q .normal (putAll a0 ops.toList 0 vs) w) :
    (Code.region id ops true).wp P Q a0 w0 := by
  refine wp_region_any hm ?_
  have key := wpAny_inv (P := P) (ops := ops) (Q := Q) (md := .any) (I := fun listed a w => ∃ vs, Known a0 ops .any R w0.drew F listed a w vs)
    (fun listed a w i hs hi ⟨vs, hk⟩ => by
      obtain ⟨hun, o, ho, hdeps⟩ := mem_ready.1 hi
      have hok := hops.at_ ops.toList 0 i o (by simpa using ho)
      rw [Nat.zero_add] at hok
      have hlt : i < ops.size := (Array.getElem?_eq_some_iff.1 ho).1
      have hDi : ∀ j ∈ D i, F j (vs j) w := fun j hj => by
        have h1 := List.all_eq_true.1 (List.all_eq_true.1 hD i (List.mem_range.2 hlt)) j hj
        exact hk.known j (mask_listed hback hk.closed i (fun o' ho' => by rw [ho] at ho'; cases ho'; exact hdeps) j h1)
      have hw := hok (fun a' w' => ∃ vs, Known a0 ops .any R w0.drew F (listed.setIfInBounds i true) a' w' vs) vs w hk.rel hDi (fun v w' hv hR => by
        refine ⟨upd vs i v, ?_, htrans _ _ _ hk.rel hR, fun j hj => ?_, fun j oj hoj hj e he hb => ?_⟩
        · have := putAll_upd (a := a0) (v := v) ops.toList 0 i o vs hdst (by simpa using ho)
          rw [this, Nat.zero_add]
        · by_cases hji : j = i
          · subst hji; simp only [upd, if_true]; exact hv
          · rw [getD_set_ne false (Ne.symm hji)] at hj
            simp only [upd, if_neg hji]
            exact hF _ _ _ _ (hk.known j hj) hR
        · by_cases hji : j = i
          · subst hji
            rw [ho] at hoj; cases hoj
            exact getD_set_true (hdeps e he hb)
          · rw [getD_set_ne false (Ne.symm hji)] at hj
            exact getD_set_true (hk.closed j oj hoj hj e he hb))
      rw [hk.act]
      unfold wpOp
      simp only [ho]
      unfold wpList at hw
      split
      · rename_i hwant
        rw [if_pos hwant] at hw
        rcases hw with hw | ⟨h1, h2⟩
        · left
          unfold Oper.wp at hw ⊢
          generalize (execOp (putAll a0 ops.toList 0 vs).eval o).run P w = r at hw
          cases r with
          | ok n w' =>
            cases n <;> simp only [Oper.upon] at hw ⊢ <;> first
              | exact hw
              | exact Calls.mono hw (fun e w'' he => by cases e <;> first | exact he | (obtain ⟨x, y, hxy⟩ := he; exact ⟨x, y, hxy⟩))
              | exact Rows.mono hw (fun _ _ he => he)
          | halt x w' => cases x <;> simp only [Oper.upon] at hw ⊢ <;> exact hw
        · exact .inr ⟨h1, by obtain ⟨x, y, hxy⟩ := h2; exact ⟨x, y, hxy⟩⟩
      · rename_i hwant
        rw [if_neg hwant] at hw
        exact hw)
    (fun listed a w hs hr ⟨vs, hk⟩ => by
      rw [hk.act]
      refine hend vs w hk.rel (fun i hi => hk.known i ?_)
      have := listed_all hback hs hr i hi
      have hlt : i < listed.size := by omega
      simp [hlt] at this ⊢; exact this)
  refine key ops.size _ a0 _ (by simp) ?_ ⟨vs0 a0 ops.toList, ?_, hrefl _, fun i hi => ?_, fun i o _ hi => ?_⟩
  · simp [unlisted]
  · refine (putAll_start a0 ops.toList 0 _ (fun i o ho d hd => ?_)).symm
    rw [Nat.zero_add]; unfold vs0; rw [ho]; simp [hd]
  · rcases Nat.lt_or_ge i ops.size with h | h <;> simp [h] at hi
  · rcases Nat.lt_or_ge i ops.size with h | h <;> simp [h] at hi

/-- The same, the frame's form laid once. -/
def OpOkA (P : Program) (ops : Array Oper) (Q : Exit → Act → World → Prop) (act : (Nat → Value) → Act) (R : World → World → Prop) (w0 : World) (F : Nat → Value → World → Prop) (D : List Nat) (i : Nat) (o : Oper) : Prop :=
  ∀ (K : Act → World → Prop) (vs : Nat → Value) (w : World), R w0 w → (∀ j ∈ D, F j (vs j) w) → (∀ v w', F i v w' → R w w' → K ((act vs).put o.dst v) w') →
    wpList P ops (Exit.then K Q) [o] (act vs) w
def OpsOkA (P : Program) (ops : Array Oper) (Q : Exit → Act → World → Prop) (act : (Nat → Value) → Act) (R : World → World → Prop) (w0 : World) (F : Nat → Value → World → Prop) (D : Nat → List Nat) : Nat → List Oper → Prop
  | _, [] => True
  | k, o :: r => OpOkA P ops Q act R w0 F (D k) k o ∧ OpsOkA P ops Q act R w0 F D (k + 1) r
theorem opsOkA_cons {act : (Nat → Value) → Act} {R : World → World → Prop} {w0 : World} {F : Nat → Value → World → Prop} {D : Nat → List Nat} {k : Nat} {o : Oper} {r : List Oper} (h : OpOkA P ops Q act R w0 F (D k) k o) (t : OpsOkA P ops Q act R w0 F D (k + 1) r) : OpsOkA P ops Q act R w0 F D k (o :: r) := ⟨h, t⟩
theorem opsOkA_nil {act : (Nat → Value) → Act} {R : World → World → Prop} {w0 : World} {F : Nat → Value → World → Prop} {D : Nat → List Nat} {k : Nat} : OpsOkA P ops Q act R w0 F D k [] := trivial
theorem OpsOkA.of {a0 : Act} {act : (Nat → Value) → Act} (hact : ∀ vs, putAll a0 ops.toList 0 vs = act vs) {R : World → World → Prop} {w0 : World} {F : Nat → Value → World → Prop} {D : Nat → List Nat} : ∀ (l : List Oper) (k : Nat), OpsOkA P ops Q act R w0 F D k l → OpsOk P ops Q a0 R w0 F D k l
  | [], _, _ => trivial
  | o :: r, k, h => ⟨fun K vs w h1 h2 h3 => by rw [hact] at h3 ⊢; exact h.1 K vs w h1 h2 h3, OpsOkA.of hact r (k + 1) h.2⟩
theorem wp_region_inv3 {id : Nat} {a0 : Act} {w0 : World} {act : (Nat → Value) → Act} (R : World → World → Prop) (F : Nat → Value → World → Prop) (D : Nat → List Nat)
    (hm : P.follows .mixedOrders = true) (hdst : dstsApart ops.toList = true) (hback : backB .any ops = true)
    (hD : ((List.range ops.size).all fun i => (D i).all fun j => ((masks .any ops).getD i 0).testBit j) = true)
    (hrefl : ∀ w, R w w) (htrans : ∀ w w' w'', R w w' → R w' w'' → R w w'')
    (hact : ∀ vs, putAll a0 ops.toList 0 vs = act vs) (hF : ∀ i v w w', F i v w → R w w' → F i v w')
    (hops : OpsOkA P ops Q act R w0.drew F D 0 ops.toList)
    (hend : ∀ vs w, R w0.drew w → (∀ i, i < ops.size → F i (vs i) w) → Q .normal (act vs) w) :
    (Code.region id ops true).wp P Q a0 w0 :=
  wp_region_inv2 R F D hm hdst hback hD hrefl htrans hF (OpsOkA.of hact _ _ hops) (fun vs w h1 h2 => by rw [hact]; exact hend vs w h1 h2)
theorem stable_cons {R : World → World → Prop} {f : Value → World → Prop} {L : List (Value → World → Prop)} (h : Stable R f) (t : ∀ g ∈ L, Stable R g) : ∀ g ∈ f :: L, Stable R g := fun g hg => by
  rcases List.mem_cons.1 hg with rfl | hg
  · exact h
  · exact t g hg
theorem stable_nil {R : World → World → Prop} : ∀ g ∈ ([] : List (Value → World → Prop)), Stable R g := fun g hg => by cases hg
end
end Mile
