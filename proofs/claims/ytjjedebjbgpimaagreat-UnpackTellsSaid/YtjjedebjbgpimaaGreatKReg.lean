/- The same rule for regions of many operations: what an operation waits for is reckoned once, as bits of a number. -/
import Derived.Test.YtjjedebjbgpimaaGreatKBase
import Derived.OrdersIn
import Derived.ControlIn
import Derived.TacticsIn
namespace Mile
open Go Go.RowKit

section
variable {P : Program} {ops : Array Oper} {Q : Exit → Act → World → Prop} {md : Region.Mode}
def maskStep (md : Region.Mode) (acc : List Nat) (o : Oper) : Nat := o.after.toList.foldl (fun m e => if Region.binds md e then m ||| ((1 <<< e.on) ||| acc.getD e.on 0) else m) 0
def masksGo (md : Region.Mode) : List Oper → List Nat → List Nat
  | [], acc => acc
  | o :: r, acc => masksGo md r (acc ++ [maskStep md acc o])
def masks (md : Region.Mode) (ops : Array Oper) : List Nat := masksGo md ops.toList []

theorem maskStep_bit {acc : List Nat} {j : Nat} : ∀ (l : List Edge) (m : Nat), (l.foldl (fun m e => if Region.binds md e then m ||| ((1 <<< e.on) ||| acc.getD e.on 0) else m) m).testBit j = true →
    m.testBit j = true ∨ ∃ e ∈ l, Region.binds md e = true ∧ (e.on = j ∨ (acc.getD e.on 0).testBit j = true)
  | [], m, h => .inl h
  | e :: l, m, h => by
    rw [List.foldl_cons] at h
    rcases maskStep_bit l _ h with h1 | ⟨e', he, hb, h1⟩
    · by_cases hb : Region.binds md e = true
      · rw [if_pos hb, Nat.testBit_or, Nat.testBit_or] at h1
        simp only [Bool.or_eq_true] at h1
        rcases h1 with h1 | h1 | h1
        · exact .inl h1
        · refine .inr ⟨e, by simp, hb, .inl ?_⟩
          rw [Nat.one_shiftLeft, Nat.testBit_two_pow] at h1
          simpa using h1
        · exact .inr ⟨e, by simp, hb, .inr h1⟩
      · rw [if_neg hb] at h1
        exact .inl h1
    · exact .inr ⟨e', by simp [he], hb, h1⟩

theorem masksGo_pre : ∀ (l : List Oper) (acc : List Nat), acc <+: masksGo md l acc
  | [], _ => List.prefix_rfl
  | _ :: r, acc => (List.prefix_append acc _).trans (masksGo_pre r _)
theorem masksGo_at : ∀ (l : List Oper) (acc : List Nat) (i : Nat) (o : Oper), l[i]? = some o →
    ∃ pre, pre.length = acc.length + i ∧ pre <+: masksGo md l acc ∧ (masksGo md l acc)[acc.length + i]? = some (maskStep md pre o)
  | [], _, i, o, h => by simp at h
  | p :: r, acc, 0, o, h => by
    simp at h; subst h
    refine ⟨acc, by simp, ?_, ?_⟩
    · exact (List.prefix_append acc _).trans (masksGo_pre r (acc ++ [maskStep md acc p]))
    · have h1 := masksGo_pre (md := md) r (acc ++ [maskStep md acc p])
      obtain ⟨t, ht⟩ := h1
      unfold masksGo
      rw [← ht]
      simp
  | p :: r, acc, i + 1, o, h => by
    obtain ⟨pre, h1, h2, h3⟩ := masksGo_at r (acc ++ [maskStep md acc p]) i o (by simpa using h)
    have e : (acc ++ [maskStep md acc p]).length + i = acc.length + (i + 1) := by simp; omega
    exact ⟨pre, by omega, h2, by rw [← e]; exact h3⟩
theorem mask_listed {listed : Array Bool} (hback : backB md ops = true) (hcl : ∀ i o, ops[i]? = some o → listed.getD i false = true → ∀ e ∈ o.after, Region.binds md e = true → listed.getD e.on false = true) :
    ∀ (i : Nat), (∀ o, ops[i]? = some o → ∀ e ∈ o.after, Region.binds md e = true → listed.getD e.on false = true) → ∀ j, ((masks md ops).getD i 0).testBit j = true → listed.getD j false = true := by
  intro i
  induction i using Nat.strongRecOn with
  | _ i ih =>
    intro hi j h
    rcases Nat.lt_or_ge i ops.size with hlt | hge
    · have ho : ops.toList[i]? = some ops[i] := by simp [hlt]
      obtain ⟨pre, h1, h2, h3⟩ := masksGo_at (md := md) ops.toList [] i ops[i] ho
      simp only [List.length_nil, Nat.zero_add] at h1 h3
      unfold masks at h
      rw [List.getD, h3, Option.getD_some] at h
      rcases maskStep_bit _ _ h with h4 | ⟨e, he, hb, h4⟩
      · simp at h4
      · have hl := hi ops[i] (Array.getElem?_eq_getElem hlt) e (by simpa using he) hb
        rcases h4 with h4 | h4
        · rw [← h4]; exact hl
        · have hb' := List.all_eq_true.1 hback i (List.mem_range.2 hlt)
          rw [Array.getElem?_eq_getElem hlt] at hb'
          have h5 := Array.all_eq_true'.1 hb' e (by simpa using he)
          simp only [hb, Bool.not_true, Bool.false_or, decide_eq_true_eq] at h5
          refine ih e.on h5 (fun o' ho' => hcl e.on o' ho' hl) j ?_
          unfold masks
          obtain ⟨t, ht⟩ := h2
          rw [← ht, List.getD, List.getElem?_append_left (by omega)]
          exact h4
    · unfold masks at h
      have : (masksGo md ops.toList [])[i]? = none := by
        have hlen : ∀ (l : List Oper) (acc : List Nat), (masksGo md l acc).length = acc.length + l.length := by
          intro l
          induction l with
          | nil => intro acc; simp [masksGo]
          | cons o r ih' => intro acc; rw [masksGo, ih']; simp; omega
        rw [List.getElem?_eq_none_iff, hlen]
        simpa using hge
      rw [List.getD, this] at h
      simp at h

theorem wp_region_inv2 {id : Nat} {a0 : Act} {w0 : World} (R : World → World → Prop) (F : Nat → Value → World → Prop) (D : Nat → List Nat)
    (hm : P.follows .mixedOrders = true) (hdst : dstsApart ops.toList = true) (hback : backB .any ops = true)
    (hD : ((List.range ops.size).all fun i => (D i).all fun j => ((masks .any ops).getD i 0).testBit j) = true)
    (hrefl : ∀ w, R w w) (htrans : ∀ w w' w'', R w w' → R w' w'' → R w w'') (hF : ∀ i v w w', F i v w → R w w' → F i v w')
    (hops : OpsOk P ops Q a0 R w0.drew F D 0 ops.toList)
    (hend : ∀ vs w, R w0.drew w → (∀ i, i < ops.size → F i (vs i) w) → Q .normal (putAll a0 ops.toList 0 vs) w) :
    (Code.region id ops true).wp P Q a0 w0 := by
  refine wp_region_any hm ?_
  have key := wpAny_inv (P := P) (ops := ops) (Q := Q) (md := .any) (I := fun listed a w => ∃ vs, Known a0 ops .any R w0.drew F listed a w vs)
    (fun listed a w i hs hi ⟨vs, hk⟩ => by
      obtain ⟨hun, o, ho, hdeps⟩ := mem_ready.1 hi
      have hok := hops.at_ ops.toList 0 i o (by simpa using ho)
      rw [Nat.zero_add] at hok
      have hlt : i < ops.size := (Array.getElem?_eq_some_iff.1 ho).1
      have hDi : ∀ j ∈ D i, F j (vs j) w := fun j hj => by
        have h1 := List.all_eq_true.1 (List.all_eq_true.1 hD i (List.mem_range.2 hlt)) j hj
        exact hk.known j (mask_listed hback hk.closed i (fun o' ho' => by rw [ho] at ho'; cases ho'; exact hdeps) j h1)
      have hw := hok (fun a' w' => ∃ vs, Known a0 ops .any R w0.drew F (listed.setIfInBounds i true) a' w' vs) vs w hk.rel hDi (fun v w' hv hR => by
        refine ⟨upd vs i v, ?_, htrans _ _ _ hk.rel hR, fun j hj => ?_, fun j oj hoj hj e he hb => ?_⟩
        · have := putAll_upd (a := a0) (v := v) ops.toList 0 i o vs hdst (by simpa using ho)
          rw [this, Nat.zero_add]
        · by_cases hji : j = i
          · subst hji; simp only [upd, if_true]; exact hv
          · rw [getD_set_ne false (Ne.symm hji)] at hj
            simp only [upd, if_neg hji]
            exact hF _ _ _ _ (hk.known j hj) hR
        · by_cases hji : j = i
          · subst hji
            rw [ho] at hoj; cases hoj
            exact getD_set_true (hdeps e he hb)
          · rw [getD_set_ne false (Ne.symm hji)] at hj
            exact getD_set_true (hk.closed j oj hoj hj e he hb))
      rw [hk.act]
      unfold wpOp
      simp only [ho]
      unfold wpList at hw
      split
      · rename_i hwant
        rw [if_pos hwant] at hw
        rcases hw with hw | ⟨h1, h2⟩
        · left
          unfold Oper.wp at hw ⊢
          generalize (execOp (putAll a0 ops.toList 0 vs).eval o).run P w = r at hw
          cases r with
          | ok n w' =>
            cases n <;> simp only [Oper.upon] at hw ⊢ <;> first
              | exact hw
              | exact Calls.mono hw (fun e w'' he => by cases e <;> first | exact he | (obtain ⟨x, y, hxy⟩ := he; exact ⟨x, y, hxy⟩))
              | exact Rows.mono hw (fun _ _ he => he)
          | halt x w' => cases x <;> simp only [Oper.upon] at hw ⊢ <;> exact hw
        · exact .inr ⟨h1, by obtain ⟨x, y, hxy⟩ := h2; exact ⟨x, y, hxy⟩⟩
      · rename_i hwant
        rw [if_neg hwant] at hw
        exact hw)
    (fun listed a w hs hr ⟨vs, hk⟩ => by
      rw [hk.act]
      refine hend vs w hk.rel (fun i hi => hk.known i ?_)
      have := listed_all hback hs hr i hi
      have hlt : i < listed.size := by omega
      simp [hlt] at this ⊢; exact this)
  refine key ops.size _ a0 _ (by simp) ?_ ⟨vs0 a0 ops.toList, ?_, hrefl _, fun i hi => ?_, fun i o _ hi => ?_⟩
  · simp [unlisted]
  · refine (putAll_start a0 ops.toList 0 _ (fun i o ho d hd => ?_)).symm
    rw [Nat.zero_add]; unfold vs0; rw [ho]; simp [hd]
  · rcases Nat.lt_or_ge i ops.size with h | h <;> simp [h] at hi
  · rcases Nat.lt_or_ge i ops.size with h | h <;> simp [h] at hi

def OpOkA (P : Program) (ops : Array Oper) (Q : Exit → Act → World → Prop) (act : (Nat → Value) → Act) (R : World → World → Prop) (w0 : World) (F : Nat → Value → World → Prop) (D : List Nat) (i : Nat) (o : Oper) : Prop :=
  ∀ (K : Act → World → Prop) (vs : Nat → Value) (w : World), R w0 w → (∀ j ∈ D, F j (vs j) w) → (∀ v w', F i v w' → R w w' → K ((act vs).put o.dst v) w') →
    wpList P ops (Exit.then K Q) [o] (act vs) w
def OpsOkA (P : Program) (ops : Array Oper) (Q : Exit → Act → World → Prop) (act : (Nat → Value) → Act) (R : World → World → Prop) (w0 : World) (F : Nat → Value → World → Prop) (D : Nat → List Nat) : Nat → List Oper → Prop
  | _, [] => True
  | k, o :: r => OpOkA P ops Q act R w0 F (D k) k o ∧ OpsOkA P ops Q act R w0 F D (k + 1) r
theorem opsOkA_cons {act : (Nat → Value) → Act} {R : World → World → Prop} {w0 : World} {F : Nat → Value → World → Prop} {D : Nat → List Nat} {k : Nat} {o : Oper} {r : List Oper} (h : OpOkA P ops Q act R w0 F (D k) k o) (t : OpsOkA P ops Q act R w0 F D (k + 1) r) : OpsOkA P ops Q act R w0 F D k (o :: r) := ⟨h, t⟩
theorem opsOkA_nil {act : (Nat → Value) → Act} {R : World → World → Prop} {w0 : World} {F : Nat → Value → World → Prop} {D : Nat → List Nat} {k : Nat} : OpsOkA P ops Q act R w0 F D k [] := trivial
theorem OpsOkA.of {a0 : Act} {act : (Nat → Value) → Act} (hact : ∀ vs, putAll a0 ops.toList 0 vs = act vs) {R : World → World → Prop} {w0 : World} {F : Nat → Value → World → Prop} {D : Nat → List Nat} : ∀ (l : List Oper) (k : Nat), OpsOkA P ops Q act R w0 F D k l → OpsOk P ops Q a0 R w0 F D k l
  | [], _, _ => trivial
  | o :: r, k, h => ⟨fun K vs w h1 h2 h3 => by rw [hact] at h3 ⊢; exact h.1 K vs w h1 h2 h3, OpsOkA.of hact r (k + 1) h.2⟩
theorem wp_region_inv3 {id : Nat} {a0 : Act} {w0 : World} {act : (Nat → Value) → Act} (R : World → World → Prop) (F : Nat → Value → World → Prop) (D : Nat → List Nat)
    (hm : P.follows .mixedOrders = true) (hdst : dstsApart ops.toList = true) (hback : backB .any ops = true)
    (hD : ((List.range ops.size).all fun i => (D i).all fun j => ((masks .any ops).getD i 0).testBit j) = true)
    (hrefl : ∀ w, R w w) (htrans : ∀ w w' w'', R w w' → R w' w'' → R w w'')
    (hact : ∀ vs, putAll a0 ops.toList 0 vs = act vs) (hF : ∀ i v w w', F i v w → R w w' → F i v w')
    (hops : OpsOkA P ops Q act R w0.drew F D 0 ops.toList)
    (hend : ∀ vs w, R w0.drew w → (∀ i, i < ops.size → F i (vs i) w) → Q .normal (act vs) w) :
    (Code.region id ops true).wp P Q a0 w0 :=
  wp_region_inv2 R F D hm hdst hback hD hrefl htrans hF (OpsOkA.of hact _ _ hops) (fun vs w h1 h2 => by rw [hact]; exact hend vs w h1 h2)
theorem stable_cons {R : World → World → Prop} {f : Value → World → Prop} {L : List (Value → World → Prop)} (h : Stable R f) (t : ∀ g ∈ L, Stable R g) : ∀ g ∈ f :: L, Stable R g := fun g hg => by
  rcases List.mem_cons.1 hg with rfl | hg
  · exact h
  · exact t g hg
theorem stable_nil {R : World → World → Prop} : ∀ g ∈ ([] : List (Value → World → Prop)), Stable R g := fun g hg => by cases hg
end
end Mile
namespace Mile
open Go Go.RowKit
section
variable {P : Program} {ops : Array Oper} {Q : Exit → Act → World → Prop} {md : Region.Mode}
def OpOkM (P : Program) (ops : Array Oper) (Q : Exit → Act → World → Prop) (a0 : Act) (R : World → World → Prop) (w0 : World) (F : Nat → Value → World → Prop) (C : Nat → Nat) (I0 : World → Prop) (ci last : Nat) (D : List Nat) (i : Nat) (o : Oper) : Prop :=
  ∀ (K : Act → World → Prop) (vs : Nat → Value) (w : World), R w0 w → (∀ j ∈ D, F j (vs j) w) → (i = ci ∨ waits .any ops ops.size ci i = true → I0 w) → vs last = vs0 a0 ops.toList last →
    (∀ v w', F i v w' → (∀ j u, stayB .any ops C i j = true → F j u w → F j u w') → (i ≠ ci → waits .any ops ops.size i ci = false → I0 w → I0 w') → R w w' → K ((putAll a0 ops.toList 0 vs).put o.dst v) w') →
    wpList P ops (Exit.then K Q) [o] (putAll a0 ops.toList 0 vs) w
def OpsOkM (P : Program) (ops : Array Oper) (Q : Exit → Act → World → Prop) (a0 : Act) (R : World → World → Prop) (w0 : World) (F : Nat → Value → World → Prop) (C : Nat → Nat) (I0 : World → Prop) (ci last : Nat) (D : Nat → List Nat) : Nat → List Oper → Prop
  | _, [] => True
  | k, o :: r => OpOkM P ops Q a0 R w0 F C I0 ci last (D k) k o ∧ OpsOkM P ops Q a0 R w0 F C I0 ci last D (k + 1) r
theorem opsOkM_cons {a0 : Act} {R : World → World → Prop} {w0 : World} {F : Nat → Value → World → Prop} {C : Nat → Nat} {I0 : World → Prop} {ci last : Nat} {D : Nat → List Nat} {k : Nat} {o : Oper} {r : List Oper} (h : OpOkM P ops Q a0 R w0 F C I0 ci last (D k) k o) (t : OpsOkM P ops Q a0 R w0 F C I0 ci last D (k + 1) r) : OpsOkM P ops Q a0 R w0 F C I0 ci last D k (o :: r) := ⟨h, t⟩
theorem opsOkM_nil {a0 : Act} {R : World → World → Prop} {w0 : World} {F : Nat → Value → World → Prop} {C : Nat → Nat} {I0 : World → Prop} {ci last : Nat} {D : Nat → List Nat} {k : Nat} : OpsOkM P ops Q a0 R w0 F C I0 ci last D k [] := trivial
theorem OpsOkM.at_ {a0 : Act} {R : World → World → Prop} {w0 : World} {F : Nat → Value → World → Prop} {C : Nat → Nat} {I0 : World → Prop} {ci last : Nat} {D : Nat → List Nat} : ∀ (l : List Oper) (k : Nat), OpsOkM P ops Q a0 R w0 F C I0 ci last D k l → ∀ i o, l[i]? = some o → OpOkM P ops Q a0 R w0 F C I0 ci last (D (k + i)) (k + i) o := by
  intro l
  induction l with
  | nil => intro k _ i o h; simp at h
  | cons p r ih =>
    intro k h i o hi
    cases i with
    | zero => simp at hi; subst hi; exact h.1
    | succ i =>
      have := ih (k + 1) h.2 i o (by simpa using hi)
      rwa [show k + 1 + i = k + (i + 1) by omega] at this
theorem wp_region_mut {id : Nat} {a0 : Act} {w0 : World} (R : World → World → Prop) (F : Nat → Value → World → Prop) (C : Nat → Nat) (I0 : World → Prop) (ci : Nat) (D : Nat → List Nat) (last : Nat) (ol : Oper) (hol : ops[last]? = some ol) (hsz : ops.size = last + 1)
    (hm : P.follows .mixedOrders = true) (hdst : dstsApart ops.toList = true) (hback : backB .any ops = true)
    (hD : ((List.range last).all fun i => (D i).all fun j => waits .any ops ops.size i j && (C j == i || decide (last ≤ C j) || waits .any ops ops.size (C j) i)) = true)
    (hL : ((List.range last).all fun j => waits .any ops ops.size last j) = true)
    (hrefl : ∀ w, R w w) (htrans : ∀ w w' w'', R w w' → R w' w'' → R w w'')
    (hI0 : I0 w0.drew) (hops : OpsOkM P ops Q a0 R w0.drew F C I0 ci last D 0 (ops.toList.take last))
    (hend : ∀ vs w, R w0.drew w → (∀ i, i < last → last ≤ C i → F i (vs i) w) → wpList P ops Q [ol] (putAll a0 ops.toList 0 vs) w) :
    (Code.region id ops true).wp P Q a0 w0 := by
  refine wp_region_any hm ?_
  have hsound : ∀ (listed : Array Bool) (i : Nat) (o : Oper), ops[i]? = some o → (∀ e ∈ o.after, Region.binds .any e = true → listed.getD e.on false = true) → (∀ i o, ops[i]? = some o → listed.getD i false = true → ∀ e ∈ o.after, Region.binds .any e = true → listed.getD e.on false = true) →
      ∀ j, waits .any ops ops.size i j = true → listed.getD j false = true := fun listed i o ho hdeps hcl j hj =>
    waits_listed hcl _ i j (fun o' ho' => by rw [ho] at ho'; cases ho'; exact hdeps) hj
  have key := wpAny_inv (P := P) (ops := ops) (Q := Q) (md := .any) (I := fun listed a w => (listed.getD last true = false ∧ ∃ vs, KnownO a0 ops .any R w0.drew F C I0 ci listed a w vs ∧ vs last = vs0 a0 ops.toList last) ∨ ((∀ i, i < ops.size → listed.getD i true = true) ∧ Q .normal a w))
    (fun listed a w i hs hi hI => by
      obtain ⟨hun, o, ho, hdeps⟩ := mem_ready.1 hi
      have hlt : i < ops.size := (Array.getElem?_eq_some_iff.1 ho).1
      have hunf : listed.getD i false = false := by
        have hil : i < listed.size := by omega
        simp [hil] at hun ⊢; exact hun
      rcases hI with ⟨hln, vs, hk, hvl⟩ | ⟨hall, _⟩
      · by_cases hil : i = last
        · subst hil
          rw [hol] at ho; cases ho
          have hothers : ∀ j, j < i → listed.getD j false = true := fun j hj => hsound listed i ol hol hdeps hk.closed j (List.all_eq_true.1 hL j (List.mem_range.2 hj))
          have hbig : ∀ j, i ≤ j → listed.getD j false = false := fun j hj => by
            rcases Nat.lt_or_ge j listed.size with h | h
            · have : j = i := by omega
              subst this; exact hunf
            · simp [Array.getElem?_eq_none h]
          have hw := hend vs w hk.rel (fun j hj hC => hk.known j (hothers j hj) (hbig _ hC))
          rw [hk.act]
          refine wpOp_of_list hol ?_
          have hfin : ∀ a' w', Q .normal a' w' → (((listed.setIfInBounds i true).getD i true = false ∧ ∃ vs, KnownO a0 ops .any R w0.drew F C I0 ci (listed.setIfInBounds i true) a' w' vs ∧ vs i = vs0 a0 ops.toList i) ∨ ((∀ j, j < ops.size → (listed.setIfInBounds i true).getD j true = true) ∧ Q .normal a' w')) := fun a' w' hq => by
            refine .inr ⟨fun j hj => ?_, hq⟩
            have hjs : j < listed.size := by omega
            by_cases hji : j = i
            · subst hji; simp [hjs]
            · rw [getD_set_ne true (Ne.symm hji)]
              have := hothers j (by omega)
              simp [hjs] at this ⊢; exact this
          unfold wpList at hw ⊢
          split
          · rename_i hwant
            rw [if_pos hwant] at hw
            rcases hw with hw | ⟨h1, h2⟩
            · left
              unfold Oper.wp at hw ⊢
              generalize (execOp (putAll a0 ops.toList 0 vs).eval ol).run P w = r at hw
              cases r with
              | ok n w' =>
                cases n <;> simp only [Oper.upon] at hw ⊢ <;> first
                  | exact hfin _ _ hw
                  | exact Calls.mono hw (fun e w'' he => by cases e <;> first | exact hfin _ _ he | exact he | (obtain ⟨x, y, hxy⟩ := he; exact ⟨x, y, hxy⟩))
                  | exact Rows.mono hw (fun _ _ he => hfin _ _ he)
              | halt x w' => cases x <;> simp only [Oper.upon] at hw ⊢ <;> exact hw
            · exact .inr ⟨h1, by obtain ⟨x, y, hxy⟩ := h2; exact ⟨x, y, hxy⟩⟩
          · rename_i hwant
            rw [if_neg hwant] at hw
            exact hfin _ _ hw
        · have hil' : i < last := by omega
          have htl : (ops.toList.take last)[i]? = some o := by rw [List.getElem?_take, if_pos hil']; simpa using ho
          have hok := hops.at_ (ops.toList.take last) 0 i o htl
          rw [Nat.zero_add] at hok
          have hDi : ∀ j ∈ D i, F j (vs j) w := fun j hj => by
            have h1 := List.all_eq_true.1 (List.all_eq_true.1 hD i (List.mem_range.2 hil')) j hj
            simp only [Bool.and_eq_true, Bool.or_eq_true, beq_iff_eq, decide_eq_true_eq] at h1
            refine hk.known j (hsound listed i o ho hdeps hk.closed j h1.1) ?_
            rcases h1.2 with (h2 | h2) | h2
            · rw [h2]; exact hunf
            · rcases Nat.lt_or_ge (C j) listed.size with h | h
              · have : C j = last := by omega
                rw [this]
                have hll : last < listed.size := by omega
                simp [hll] at hln ⊢; exact hln
              · simp [Array.getElem?_eq_none h]
            · cases hc : listed.getD (C j) false with
              | false => rfl
              | true =>
                have hcl : C j < ops.size := by
                  rcases Nat.lt_or_ge (C j) ops.size with h | h
                  · exact h
                  · rw [← hs] at h; simp [Array.getElem?_eq_none h] at hc
                have := hsound listed (C j) ops[C j] (Array.getElem?_eq_getElem hcl) (hk.closed _ _ (Array.getElem?_eq_getElem hcl) hc) hk.closed i h2
                rw [hunf] at this; cases this
          rw [hk.act]
          refine wpOp_of_list ho (hok _ vs w hk.rel hDi (fun e => hk.init (by
            rcases e with e | e
            · rw [← e]; exact hunf
            · cases hc : listed.getD ci false with
              | false => rfl
              | true =>
                have hcl : ci < ops.size := by
                  rcases Nat.lt_or_ge ci ops.size with h | h
                  · exact h
                  · rw [← hs] at h; simp [Array.getElem?_eq_none h] at hc
                have := hsound listed ci ops[ci] (Array.getElem?_eq_getElem hcl) (hk.closed _ _ (Array.getElem?_eq_getElem hcl) hc) hk.closed i e
                rw [hunf] at this; cases this)) hvl (fun v w' hv hst hkeep hR => .inl ⟨by rw [getD_set_ne true hil]; exact hln, upd vs i v, ⟨?_, htrans _ _ _ hk.rel hR, fun j hj hC => ?_, fun j oj hoj hj e he hb => ?_, fun hci => ?_⟩, by simp only [upd, if_neg (Ne.symm hil)]; exact hvl⟩))
          · have := putAll_upd (a := a0) (v := v) ops.toList 0 i o vs hdst (by simpa using ho)
            rw [this, Nat.zero_add]
          · by_cases hji : j = i
            · subst hji; simp only [upd, if_true]; exact hv
            · rw [getD_set_ne false (Ne.symm hji)] at hj
              simp only [upd, if_neg hji]
              have hCi : C j ≠ i := fun e => by
                rw [e] at hC
                have hil : i < listed.size := by omega
                simp [hil] at hC
              rw [getD_set_ne false (Ne.symm hCi)] at hC
              refine hst j _ ?_ (hk.known j hj hC)
              unfold stayB
              simp only [Bool.and_eq_true, bne_iff_ne, ne_eq, Bool.not_eq_true']
              refine ⟨⟨⟨hji, hCi⟩, ?_⟩, ?_⟩
              · cases hw : waits .any ops ops.size i (C j) with
                | false => rfl
                | true => rw [hsound listed i o ho hdeps hk.closed (C j) hw] at hC; cases hC
              · cases hw : waits .any ops ops.size j i with
                | false => rfl
                | true =>
                  have hjl : j < ops.size := by
                    rcases Nat.lt_or_ge j ops.size with h | h
                    · exact h
                    · rw [← hs] at h; simp [Array.getElem?_eq_none h] at hj
                  have := hsound listed j ops[j] (Array.getElem?_eq_getElem hjl) (hk.closed _ _ (Array.getElem?_eq_getElem hjl) hj) hk.closed i hw
                  rw [hunf] at this; cases this
          · by_cases hji : j = i
            · subst hji
              rw [ho] at hoj; cases hoj
              exact getD_set_true (hdeps e he hb)
            · rw [getD_set_ne false (Ne.symm hji)] at hj
              exact getD_set_true (hk.closed j oj hoj hj e he hb)
          · have hic : i ≠ ci := fun e => by
              rw [← e] at hci
              have hil : i < listed.size := by omega
              simp [hil] at hci
            rw [getD_set_ne false hic] at hci
            refine hkeep hic ?_ (hk.init hci)
            cases hw : waits .any ops ops.size i ci with
            | false => rfl
            | true => rw [hsound listed i o ho hdeps hk.closed ci hw] at hci; cases hci
      · rw [hall i hlt] at hun; cases hun)
    (fun listed a w hs hr hI => by
      rcases hI with ⟨hln, _⟩ | ⟨_, hq⟩
      · have := listed_all hback hs hr last (by omega)
        rw [this] at hln; cases hln
      · exact hq)
  refine key ops.size _ a0 _ (by simp) (by simp [unlisted]) (.inl ⟨by simp [hsz], vs0 a0 ops.toList, ⟨?_, hrefl _, fun i hi => ?_, fun i o _ hi => ?_, fun _ => hI0⟩, rfl⟩)
  · refine (putAll_start a0 ops.toList 0 _ (fun i o ho d hd => ?_)).symm
    rw [Nat.zero_add]; unfold vs0; rw [ho]; simp [hd]
  · rcases Nat.lt_or_ge i ops.size with h | h <;> simp [h] at hi
  · rcases Nat.lt_or_ge i ops.size with h | h <;> simp [h] at hi

end
end Mile
namespace Mile
open Go Go.RowKit
section
variable {P : Program} {ops : Array Oper} {Q : Exit → Act → World → Prop} {md : Region.Mode}
structure KnownV (a0 : Act) (ops : Array Oper) (md : Region.Mode) (R : World → World → Prop) (w0 : World) (F : Nat → (Nat → Value) → World → Prop) (listed : Array Bool) (a : Act) (w : World) (vs : Nat → Value) : Prop where
  act : a = putAll a0 ops.toList 0 vs
  rel : R w0 w
  known : ∀ j, listed.getD j false = true → F j vs w
  closed : ∀ i o, ops[i]? = some o → listed.getD i false = true → ∀ e ∈ o.after, Region.binds md e = true → listed.getD e.on false = true
def OpOkV (P : Program) (ops : Array Oper) (Q : Exit → Act → World → Prop) (act : (Nat → Value) → Act) (R : World → World → Prop) (w0 : World) (F : Nat → (Nat → Value) → World → Prop) (D : List Nat) (i : Nat) (o : Oper) : Prop :=
  ∀ (K : Act → World → Prop) (vs : Nat → Value) (w : World), R w0 w → (∀ j ∈ D, F j vs w) → (∀ v w', F i (upd vs i v) w' → R w w' → K ((act vs).put o.dst v) w') →
    wpList P ops (Exit.then K Q) [o] (act vs) w
def OpsOkV (P : Program) (ops : Array Oper) (Q : Exit → Act → World → Prop) (act : (Nat → Value) → Act) (R : World → World → Prop) (w0 : World) (F : Nat → (Nat → Value) → World → Prop) (D : Nat → List Nat) : Nat → List Oper → Prop
  | _, [] => True
  | k, o :: r => OpOkV P ops Q act R w0 F (D k) k o ∧ OpsOkV P ops Q act R w0 F D (k + 1) r
theorem opsOkV_cons {act : (Nat → Value) → Act} {R : World → World → Prop} {w0 : World} {F : Nat → (Nat → Value) → World → Prop} {D : Nat → List Nat} {k : Nat} {o : Oper} {r : List Oper} (h : OpOkV P ops Q act R w0 F (D k) k o) (t : OpsOkV P ops Q act R w0 F D (k + 1) r) : OpsOkV P ops Q act R w0 F D k (o :: r) := ⟨h, t⟩
theorem opsOkV_nil {act : (Nat → Value) → Act} {R : World → World → Prop} {w0 : World} {F : Nat → (Nat → Value) → World → Prop} {D : Nat → List Nat} {k : Nat} : OpsOkV P ops Q act R w0 F D k [] := trivial
theorem OpsOkV.at_ {act : (Nat → Value) → Act} {R : World → World → Prop} {w0 : World} {F : Nat → (Nat → Value) → World → Prop} {D : Nat → List Nat} : ∀ (l : List Oper) (k : Nat), OpsOkV P ops Q act R w0 F D k l → ∀ i o, l[i]? = some o → OpOkV P ops Q act R w0 F (D (k + i)) (k + i) o := by
  intro l
  induction l with
  | nil => intro k _ i o h; simp at h
  | cons p r ih =>
    intro k h i o hi
    cases i with
    | zero => simp at hi; subst hi; exact h.1
    | succ i =>
      have := ih (k + 1) h.2 i o (by simpa using hi)
      rwa [show k + 1 + i = k + (i + 1) by omega] at this
theorem wp_region_rel {id : Nat} {a0 : Act} {w0 : World} {act : (Nat → Value) → Act} (R : World → World → Prop) (F : Nat → (Nat → Value) → World → Prop) (D : Nat → List Nat)
    (hm : P.follows .mixedOrders = true) (hdst : dstsApart ops.toList = true) (hback : backB .any ops = true)
    (hD : ((List.range ops.size).all fun i => (D i).all fun j => ((masks .any ops).getD i 0).testBit j) = true)
    (hrefl : ∀ w, R w w) (htrans : ∀ w w' w'', R w w' → R w' w'' → R w w'')
    (hact : ∀ vs, putAll a0 ops.toList 0 vs = act vs) (hF : ∀ i vs w w', F i vs w → R w w' → F i vs w')
    (hloc : ∀ i (vs vs' : Nat → Value) w, (∀ k, (k = i ∨ k ∈ D i) → vs k = vs' k) → F i vs w → F i vs' w)
    (hops : OpsOkV P ops Q act R w0.drew F D 0 ops.toList)
    (hend : ∀ vs w, R w0.drew w → (∀ i, i < ops.size → F i vs w) → Q .normal (act vs) w) :
    (Code.region id ops true).wp P Q a0 w0 := by
  refine wp_region_any hm ?_
  have key := wpAny_inv (P := P) (ops := ops) (Q := Q) (md := .any) (I := fun listed a w => ∃ vs, KnownV a0 ops .any R w0.drew F listed a w vs)
    (fun listed a w i hs hi ⟨vs, hk⟩ => by
      obtain ⟨hun, o, ho, hdeps⟩ := mem_ready.1 hi
      have hok := hops.at_ ops.toList 0 i o (by simpa using ho)
      rw [Nat.zero_add] at hok
      have hlt : i < ops.size := (Array.getElem?_eq_some_iff.1 ho).1
      have hunf : listed.getD i false = false := by
        have hil : i < listed.size := by omega
        simp [hil] at hun ⊢; exact hun
      have hbit : ∀ x, x < ops.size → ∀ j ∈ D x, ((masks .any ops).getD x 0).testBit j = true := fun x hx j hj =>
        List.all_eq_true.1 (List.all_eq_true.1 hD x (List.mem_range.2 hx)) j hj
      have hDi : ∀ j ∈ D i, F j vs w := fun j hj =>
        hk.known j (mask_listed hback hk.closed i (fun o' ho' => by rw [ho] at ho'; cases ho'; exact hdeps) j (hbit i hlt j hj))
      have hw := hok (fun a' w' => ∃ vs, KnownV a0 ops .any R w0.drew F (listed.setIfInBounds i true) a' w' vs) vs w hk.rel hDi (fun v w' hv hR => by
        refine ⟨upd vs i v, ?_, htrans _ _ _ hk.rel hR, fun j hj => ?_, fun j oj hoj hj e he hb => ?_⟩
        · have := putAll_upd (a := a0) (v := v) ops.toList 0 i o vs hdst (by simpa using ho)
          rw [← hact, this, Nat.zero_add]
        · by_cases hji : j = i
          · subst hji; exact hv
          · rw [getD_set_ne false (Ne.symm hji)] at hj
            have hjl : j < ops.size := by
              rcases Nat.lt_or_ge j ops.size with h | h
              · exact h
              · rw [← hs] at h; simp [Array.getElem?_eq_none h] at hj
            refine hloc j vs (upd vs i v) w' (fun k hkj => ?_) (hF _ _ _ _ (hk.known j hj) hR)
            have hki : k ≠ i := by
              rintro rfl
              rcases hkj with h | h
              · exact hji h.symm
              · have := mask_listed hback hk.closed j (fun o' ho' => hk.closed j o' ho' hj) k (hbit j hjl k h)
                rw [hunf] at this; cases this
            simp only [upd, if_neg hki]
        · by_cases hji : j = i
          · subst hji
            rw [ho] at hoj; cases hoj
            exact getD_set_true (hdeps e he hb)
          · rw [getD_set_ne false (Ne.symm hji)] at hj
            exact getD_set_true (hk.closed j oj hoj hj e he hb))
      rw [hk.act, hact]
      exact wpOp_of_list ho hw)
    (fun listed a w hs hr ⟨vs, hk⟩ => by
      rw [hk.act, hact]
      refine hend vs w hk.rel (fun i hi => hk.known i ?_)
      have := listed_all hback hs hr i hi
      have hlt : i < listed.size := by omega
      simp [hlt] at this ⊢; exact this)
  refine key ops.size _ a0 _ (by simp) ?_ ⟨vs0 a0 ops.toList, ?_, hrefl _, fun i hi => ?_, fun i o _ hi => ?_⟩
  · simp [unlisted]
  · refine (putAll_start a0 ops.toList 0 _ (fun i o ho d hd => ?_)).symm
    rw [Nat.zero_add]; unfold vs0; rw [ho]; simp [hd]
  · rcases Nat.lt_or_ge i ops.size with h | h <;> simp [h] at hi
  · rcases Nat.lt_or_ge i ops.size with h | h <;> simp [h] at hi
end
end Mile
namespace Mile
open Go Go.RowKit
structure BoxR (B0 : Nat) (T : TypeId) (Z X : List Value) (w w' : World) : Prop where
  mod : Mod (fun k => B0 ≤ k) w w'
  z : ∀ b, Blk w b T Z → Blk w' b T Z ∨ Blk w' b T X
  x : ∀ b, Blk w b T X → Blk w' b T X
theorem BoxR.refl (B0 : Nat) (T : TypeId) (Z X : List Value) (w : World) : BoxR B0 T Z X w w := ⟨Mod.refl _ _, fun _ h => .inl h, fun _ h => h⟩
theorem BoxR.trans {B0 : Nat} {T : TypeId} {Z X : List Value} {a b c : World} (h : BoxR B0 T Z X a b) (k : BoxR B0 T Z X b c) : BoxR B0 T Z X a c :=
  ⟨h.mod.trans k.mod (fun _ _ e => e) (fun _ _ e => e), fun q hq => (h.z q hq).elim (k.z q) (fun e => .inr (k.x q e)), fun q hq => k.x q (h.x q hq)⟩
theorem BoxR.of {B0 : Nat} {T : TypeId} {Z X : List Value} {a b : World} (h : Mod (fun _ => False) a b) : BoxR B0 T Z X a b :=
  ⟨h.mono (fun _ _ e => e.elim), fun _ hq => .inl (hq.keep h (fun e => e)), fun _ hq => hq.keep h (fun e => e)⟩
theorem BoxR.fill {B0 : Nat} {T : TypeId} {Z X : List Value} {a b : World} {q : Nat} (hq : B0 ≤ q) (h : Mod (fun k => k = q) a b) (hb : Blk b q T X) : BoxR B0 T Z X a b :=
  ⟨h.mono (fun k _ e => by rw [e]; exact hq), fun i hi => by
    by_cases e : i = q
    · subst e; exact .inr hb
    · exact .inl (hi.keep h e), fun i hi => by
    by_cases e : i = q
    · subst e; exact hb
    · exact hi.keep h e⟩
def boxF (B0 : Nat) (T : TypeId) (Z X : List Value) (m s : Nat) (VL : List Value) (i : Nat) (vs : Nat → Value) (W : World) : Prop :=
  if i = m then ∃ b, vs m = .pointer (some ⟨b, 0, none⟩) ∧ B0 ≤ b ∧ (Blk W b T Z ∨ Blk W b T X)
  else if i = s then ∃ b, vs m = .pointer (some ⟨b, 0, none⟩) ∧ B0 ≤ b ∧ Blk W b T X
  else vs i = VL.getD i undef
section
variable {P : Program} {ops : Array Oper} {Q : Exit → Act → World → Prop}
theorem wp_region_box {id : Nat} {a0 : Act} {w0 : World} {act : (Nat → Value) → Act} (B0 : Nat) (T : TypeId) (Z X : List Value) (m s : Nat) (VL : List Value) (D : Nat → List Nat) (hms : m ∈ D s)
    (hm : P.follows .mixedOrders = true) (hdst : dstsApart ops.toList = true) (hback : backB .any ops = true)
    (hD : ((List.range ops.size).all fun i => (D i).all fun j => ((masks .any ops).getD i 0).testBit j) = true)
    (hact : ∀ vs, putAll a0 ops.toList 0 vs = act vs)
    (hops : OpsOkV P ops Q act (BoxR B0 T Z X) w0.drew (boxF B0 T Z X m s VL) D 0 ops.toList)
    (hend : ∀ vs w, BoxR B0 T Z X w0.drew w → (∀ i, i < ops.size → boxF B0 T Z X m s VL i vs w) → Q .normal (act vs) w) :
    (Code.region id ops true).wp P Q a0 w0 := by
  refine wp_region_rel (BoxR B0 T Z X) (boxF B0 T Z X m s VL) D hm hdst hback hD (BoxR.refl _ _ _ _) (fun _ _ _ h k => h.trans k) hact ?_ ?_ hops hend
  · intro i vs w w' h hr
    unfold boxF at h ⊢
    split
    · rename_i e
      rw [if_pos e] at h
      obtain ⟨b, h1, h2, h3⟩ := h
      exact ⟨b, h1, h2, h3.elim (hr.z b) (fun e => .inr (hr.x b e))⟩
    · rename_i e
      rw [if_neg e] at h
      split
      · rename_i e2
        rw [if_pos e2] at h
        obtain ⟨b, h1, h2, h3⟩ := h
        exact ⟨b, h1, h2, hr.x b h3⟩
      · rename_i e2
        rw [if_neg e2] at h
        exact h
  · intro i vs vs' w hv h
    unfold boxF at h ⊢
    split
    · rename_i e
      rw [if_pos e] at h
      rw [← hv m (.inl e.symm)]; exact h
    · rename_i e
      rw [if_neg e] at h
      split
      · rename_i e2
        rw [if_pos e2] at h
        subst e2
        rw [← hv m (.inr hms)]; exact h
      · rename_i e2
        rw [if_neg e2] at h
        rw [← hv i (.inl rfl)]; exact h
end
theorem boxF_val {B0 : Nat} {T : TypeId} {Z X : List Value} {m s : Nat} {VL : List Value} {i : Nat} {vs : Nat → Value} {W : World} (h1 : i ≠ m) (h2 : i ≠ s) (h : boxF B0 T Z X m s VL i vs W) : vs i = VL.getD i undef := by
  unfold boxF at h; rw [if_neg h1, if_neg h2] at h; exact h
theorem boxF_var {B0 : Nat} {T : TypeId} {Z X : List Value} {m s : Nat} {VL : List Value} {vs : Nat → Value} {W : World} (h : boxF B0 T Z X m s VL m vs W) : ∃ b, vs m = .pointer (some ⟨b, 0, none⟩) ∧ B0 ≤ b ∧ (Blk W b T Z ∨ Blk W b T X) := by
  unfold boxF at h; rw [if_pos rfl] at h; exact h
theorem boxF_fill {B0 : Nat} {T : TypeId} {Z X : List Value} {m s : Nat} {VL : List Value} {vs : Nat → Value} {W : World} (h1 : s ≠ m) (h : boxF B0 T Z X m s VL s vs W) : ∃ b, vs m = .pointer (some ⟨b, 0, none⟩) ∧ B0 ≤ b ∧ Blk W b T X := by
  unfold boxF at h; rw [if_neg h1, if_pos rfl] at h; exact h
theorem boxF_of {B0 : Nat} {T : TypeId} {Z X : List Value} {m s : Nat} {VL : List Value} {i : Nat} {vs : Nat → Value} {v : Value} {W : World} (h1 : i ≠ m) (h2 : i ≠ s) (h : v = VL.getD i undef) : boxF B0 T Z X m s VL i (upd vs i v) W := by
  unfold boxF; rw [if_neg h1, if_neg h2]; simpa [upd] using h
theorem boxF_of_var {B0 : Nat} {T : TypeId} {Z X : List Value} {m s : Nat} {VL : List Value} {vs : Nat → Value} {b : Nat} {W : World} (h : B0 ≤ b) (hb : Blk W b T Z) : boxF B0 T Z X m s VL m (upd vs m (.pointer (some ⟨b, 0, none⟩))) W := by
  unfold boxF; rw [if_pos rfl]; exact ⟨b, by simp [upd], h, .inl hb⟩
theorem boxF_of_fill {B0 : Nat} {T : TypeId} {Z X : List Value} {m s : Nat} {VL : List Value} {vs : Nat → Value} {v : Value} {b : Nat} {W : World} (h1 : s ≠ m) (hv : vs m = .pointer (some ⟨b, 0, none⟩)) (h : B0 ≤ b) (hb : Blk W b T X) : boxF B0 T Z X m s VL s (upd vs s v) W := by
  unfold boxF; rw [if_neg h1, if_pos rfl]; exact ⟨b, by simp only [upd, if_neg (Ne.symm h1)]; exact hv, h, hb⟩
end Mile
namespace Mile
open Go Go.RowKit
section
variable {P : Program} {ops : Array Oper} {Q : Exit → Act → World → Prop} {md : Region.Mode}
structure KnownP (a0 : Act) (ops : Array Oper) (md : Region.Mode) (R : World → World → Prop) (w0 : World) (G : Nat → (Nat → Value) → Value → World → Prop) (C : Nat → Nat) (listed : Array Bool) (a : Act) (w : World) (vs : Nat → Value) : Prop where
  act : a = putAll a0 ops.toList 0 vs
  rel : R w0 w
  known : ∀ i, listed.getD i false = true → listed.getD (C i) false = false → G i vs (vs i) w
  closed : ∀ i o, ops[i]? = some o → listed.getD i false = true → ∀ e ∈ o.after, Region.binds md e = true → listed.getD e.on false = true
  fresh : ∀ i, listed.getD i false = false → vs i = vs0 a0 ops.toList i
def stayM (M : List Nat) (C : Nat → Nat) (i j : Nat) : Bool := j != i && C j != i && !(M.getD i 0).testBit (C j) && !(M.getD j 0).testBit i
def OpOkP (P : Program) (ops : Array Oper) (Q : Exit → Act → World → Prop) (a0 : Act) (act : (Nat → Value) → Act) (R : World → World → Prop) (w0 : World) (G : Nat → (Nat → Value) → Value → World → Prop) (C : Nat → Nat) (D : List Nat) (i : Nat) (o : Oper) : Prop :=
  ∀ (K : Act → World → Prop) (vs : Nat → Value) (w : World), R w0 w → (∀ j ∈ D, G j vs (vs j) w) → (∀ j, ((masks .any ops).getD j 0).testBit i = true → vs j = vs0 a0 ops.toList j) →
    (∀ v w', G i vs v w' → (∀ j, stayM (masks .any ops) C i j = true → G j vs (vs j) w → G j vs (vs j) w') → R w w' → K ((act vs).put o.dst v) w') →
    wpList P ops (Exit.then K Q) [o] (act vs) w
def OpsOkP (P : Program) (ops : Array Oper) (Q : Exit → Act → World → Prop) (a0 : Act) (act : (Nat → Value) → Act) (R : World → World → Prop) (w0 : World) (G : Nat → (Nat → Value) → Value → World → Prop) (C : Nat → Nat) (D : Nat → List Nat) : Nat → List Oper → Prop
  | _, [] => True
  | k, o :: r => OpOkP P ops Q a0 act R w0 G C (D k) k o ∧ OpsOkP P ops Q a0 act R w0 G C D (k + 1) r
theorem opsOkP_cons {a0 : Act} {act : (Nat → Value) → Act} {R : World → World → Prop} {w0 : World} {G : Nat → (Nat → Value) → Value → World → Prop} {C : Nat → Nat} {D : Nat → List Nat} {k : Nat} {o : Oper} {r : List Oper} (h : OpOkP P ops Q a0 act R w0 G C (D k) k o) (t : OpsOkP P ops Q a0 act R w0 G C D (k + 1) r) : OpsOkP P ops Q a0 act R w0 G C D k (o :: r) := ⟨h, t⟩
theorem opsOkP_nil {a0 : Act} {act : (Nat → Value) → Act} {R : World → World → Prop} {w0 : World} {G : Nat → (Nat → Value) → Value → World → Prop} {C : Nat → Nat} {D : Nat → List Nat} {k : Nat} : OpsOkP P ops Q a0 act R w0 G C D k [] := trivial
theorem OpsOkP.at_ {a0 : Act} {act : (Nat → Value) → Act} {R : World → World → Prop} {w0 : World} {G : Nat → (Nat → Value) → Value → World → Prop} {C : Nat → Nat} {D : Nat → List Nat} : ∀ (l : List Oper) (k : Nat), OpsOkP P ops Q a0 act R w0 G C D k l → ∀ i o, l[i]? = some o → OpOkP P ops Q a0 act R w0 G C (D (k + i)) (k + i) o := by
  intro l
  induction l with
  | nil => intro k _ i o h; simp at h
  | cons p r ih =>
    intro k h i o hi
    cases i with
    | zero => simp at hi; subst hi; exact h.1
    | succ i =>
      have := ih (k + 1) h.2 i o (by simpa using hi)
      rwa [show k + 1 + i = k + (i + 1) by omega] at this

theorem wp_region_pair {id : Nat} {a0 : Act} {w0 : World} {act : (Nat → Value) → Act} (R : World → World → Prop) (G : Nat → (Nat → Value) → Value → World → Prop) (C : Nat → Nat) (D : Nat → List Nat) (last : Nat) (ol : Oper) (hol : ops[last]? = some ol) (hsz : ops.size = last + 1)
    (hm : P.follows .mixedOrders = true) (hdst : dstsApart ops.toList = true) (hback : backB .any ops = true)
    (hD : ((List.range last).all fun i => (D i).all fun j => ((masks .any ops).getD i 0).testBit j && (C j == i || decide (last ≤ C j) || ((masks .any ops).getD (C j) 0).testBit i)) = true)
    (hL : ((List.range last).all fun j => ((masks .any ops).getD last 0).testBit j) = true)
    (hrefl : ∀ w, R w w) (htrans : ∀ w w' w'', R w w' → R w' w'' → R w w'')
    (hact : ∀ vs, putAll a0 ops.toList 0 vs = act vs)
    (hloc : ∀ i (vs vs' : Nat → Value) v w, (∀ k, k ∈ D i → vs k = vs' k) → G i vs v w → G i vs' v w)
    (hops : OpsOkP P ops Q a0 act R w0.drew G C D 0 (ops.toList.take last))
    (hend : ∀ vs w, R w0.drew w → (∀ i, i < last → last ≤ C i → G i vs (vs i) w) → wpList P ops Q [ol] (act vs) w) :
    (Code.region id ops true).wp P Q a0 w0 := by
  refine wp_region_any hm ?_
  have hsound : ∀ (listed : Array Bool) (i : Nat) (o : Oper), ops[i]? = some o → (∀ e ∈ o.after, Region.binds .any e = true → listed.getD e.on false = true) → (∀ i o, ops[i]? = some o → listed.getD i false = true → ∀ e ∈ o.after, Region.binds .any e = true → listed.getD e.on false = true) →
      ∀ j, ((masks .any ops).getD i 0).testBit j = true → listed.getD j false = true := fun listed i o ho hdeps hcl j hj =>
    mask_listed hback hcl i (fun o' ho' => by rw [ho] at ho'; cases ho'; exact hdeps) j hj
  have key := wpAny_inv (P := P) (ops := ops) (Q := Q) (md := .any) (I := fun listed a w => (listed.getD last true = false ∧ ∃ vs, KnownP a0 ops .any R w0.drew G C listed a w vs) ∨ ((∀ i, i < ops.size → listed.getD i true = true) ∧ Q .normal a w))
    (fun listed a w i hs hi hI => by
      obtain ⟨hun, o, ho, hdeps⟩ := mem_ready.1 hi
      have hlt : i < ops.size := (Array.getElem?_eq_some_iff.1 ho).1
      have hunf : listed.getD i false = false := by
        have hil : i < listed.size := by omega
        simp [hil] at hun ⊢; exact hun
      rcases hI with ⟨hln, vs, hk⟩ | ⟨hall, _⟩
      · by_cases hil : i = last
        · subst hil
          rw [hol] at ho; cases ho
          have hothers : ∀ j, j < i → listed.getD j false = true := fun j hj => hsound listed i ol hol hdeps hk.closed j (List.all_eq_true.1 hL j (List.mem_range.2 hj))
          have hbig : ∀ j, i ≤ j → listed.getD j false = false := fun j hj => by
            rcases Nat.lt_or_ge j listed.size with h | h
            · have : j = i := by omega
              subst this; exact hunf
            · simp [Array.getElem?_eq_none h]
          have hw := hend vs w hk.rel (fun j hj hC => hk.known j (hothers j hj) (hbig _ hC))
          rw [hk.act, hact]
          refine wpOp_of_list hol ?_
          have hfin : ∀ a' w', Q .normal a' w' → (((listed.setIfInBounds i true).getD i true = false ∧ ∃ vs, KnownP a0 ops .any R w0.drew G C (listed.setIfInBounds i true) a' w' vs) ∨ ((∀ j, j < ops.size → (listed.setIfInBounds i true).getD j true = true) ∧ Q .normal a' w')) := fun a' w' hq => by
            refine .inr ⟨fun j hj => ?_, hq⟩
            have hjs : j < listed.size := by omega
            by_cases hji : j = i
            · subst hji; simp [hjs]
            · rw [getD_set_ne true (Ne.symm hji)]
              have := hothers j (by omega)
              simp [hjs] at this ⊢; exact this
          unfold wpList at hw ⊢
          split
          · rename_i hwant
            rw [if_pos hwant] at hw
            rcases hw with hw | ⟨h1, h2⟩
            · left
              unfold Oper.wp at hw ⊢
              generalize (execOp (act vs).eval ol).run P w = r at hw
              cases r with
              | ok n w' =>
                cases n <;> simp only [Oper.upon] at hw ⊢ <;> first
                  | exact hfin _ _ hw
                  | exact Calls.mono hw (fun e w'' he => by cases e <;> first | exact hfin _ _ he | exact he | (obtain ⟨x, y, hxy⟩ := he; exact ⟨x, y, hxy⟩))
                  | exact Rows.mono hw (fun _ _ he => hfin _ _ he)
              | halt x w' => cases x <;> simp only [Oper.upon] at hw ⊢ <;> exact hw
            · exact .inr ⟨h1, by obtain ⟨x, y, hxy⟩ := h2; exact ⟨x, y, hxy⟩⟩
          · rename_i hwant
            rw [if_neg hwant] at hw
            exact hfin _ _ hw
        · have hil' : i < last := by omega
          have htl : (ops.toList.take last)[i]? = some o := by rw [List.getElem?_take, if_pos hil']; simpa using ho
          have hok := hops.at_ (ops.toList.take last) 0 i o htl
          rw [Nat.zero_add] at hok
          have hbit : ∀ x, x < last → ∀ j ∈ D x, ((masks .any ops).getD x 0).testBit j = true := fun x hx j hj => by
            have h1 := List.all_eq_true.1 (List.all_eq_true.1 hD x (List.mem_range.2 hx)) j hj
            simp only [Bool.and_eq_true] at h1
            exact h1.1
          have hDi : ∀ j ∈ D i, G j vs (vs j) w := fun j hj => by
            have h1 := List.all_eq_true.1 (List.all_eq_true.1 hD i (List.mem_range.2 hil')) j hj
            simp only [Bool.and_eq_true, Bool.or_eq_true, beq_iff_eq, decide_eq_true_eq] at h1
            refine hk.known j (hsound listed i o ho hdeps hk.closed j h1.1) ?_
            rcases h1.2 with (h2 | h2) | h2
            · rw [h2]; exact hunf
            · rcases Nat.lt_or_ge (C j) listed.size with h | h
              · have : C j = last := by omega
                rw [this]
                have hll : last < listed.size := by omega
                simp [hll] at hln ⊢; exact hln
              · simp [Array.getElem?_eq_none h]
            · cases hc : listed.getD (C j) false with
              | false => rfl
              | true =>
                have hcl : C j < ops.size := by
                  rcases Nat.lt_or_ge (C j) ops.size with h | h
                  · exact h
                  · rw [← hs] at h; simp [Array.getElem?_eq_none h] at hc
                have := hsound listed (C j) ops[C j] (Array.getElem?_eq_getElem hcl) (hk.closed _ _ (Array.getElem?_eq_getElem hcl) hc) hk.closed i h2
                rw [hunf] at this; cases this
          rw [hk.act, hact]
          refine wpOp_of_list ho (hok _ vs w hk.rel hDi (fun j hj => hk.fresh j ?_) (fun v w' hv hst hR => .inl ⟨by rw [getD_set_ne true hil]; exact hln, upd vs i v, ?_, htrans _ _ _ hk.rel hR, fun j hj hC => ?_, fun j oj hoj hj e he hb => ?_, fun j hj => ?_⟩))
          · cases hw : listed.getD j false with
            | false => rfl
            | true =>
              have hjl : j < ops.size := by
                rcases Nat.lt_or_ge j ops.size with h | h
                · exact h
                · rw [← hs] at h; simp [Array.getElem?_eq_none h] at hw
              have := hsound listed j ops[j] (Array.getElem?_eq_getElem hjl) (hk.closed _ _ (Array.getElem?_eq_getElem hjl) hw) hk.closed i hj
              rw [hunf] at this; cases this
          · have := putAll_upd (a := a0) (v := v) ops.toList 0 i o vs hdst (by simpa using ho)
            rw [← hact, this, Nat.zero_add]
          · by_cases hji : j = i
            · subst hji
              refine hloc j vs (upd vs j v) _ _ (fun k hk' => ?_) (by simp only [upd, if_true]; exact hv)
              have hkj : k ≠ j := by
                rintro rfl
                have := hsound listed k o ho hdeps hk.closed k (hbit k hil' k hk')
                rw [hunf] at this; cases this
              simp only [upd, if_neg hkj]
            · rw [getD_set_ne false (Ne.symm hji)] at hj
              have hCi : C j ≠ i := fun e => by
                rw [e] at hC
                have hil : i < listed.size := by omega
                simp [hil] at hC
              rw [getD_set_ne false (Ne.symm hCi)] at hC
              have hjl : j < ops.size := by
                rcases Nat.lt_or_ge j ops.size with h | h
                · exact h
                · rw [← hs] at h; simp [Array.getElem?_eq_none h] at hj
              have hjlast : j < last := by
                rcases Nat.lt_or_ge j last with h | h
                · exact h
                · have e : j = last := by omega
                  subst e
                  have hll : j < listed.size := by omega
                  simp [hll] at hln hj; rw [hj] at hln; cases hln
              refine hloc j vs (upd vs i v) _ _ (fun k hk' => ?_) ?_
              · have hki : k ≠ i := by
                  rintro rfl
                  have := hsound listed j ops[j] (Array.getElem?_eq_getElem hjl) (hk.closed _ _ (Array.getElem?_eq_getElem hjl) hj) hk.closed k (hbit j hjlast k hk')
                  rw [hunf] at this; cases this
                simp only [upd, if_neg hki]
              · simp only [upd, if_neg hji]
                refine hst j ?_ (hk.known j hj hC)
                unfold stayM
                simp only [Bool.and_eq_true, bne_iff_ne, ne_eq, Bool.not_eq_true']
                refine ⟨⟨⟨hji, hCi⟩, ?_⟩, ?_⟩
                · cases hw : ((masks .any ops).getD i 0).testBit (C j) with
                  | false => rfl
                  | true => rw [hsound listed i o ho hdeps hk.closed (C j) hw] at hC; cases hC
                · cases hw : ((masks .any ops).getD j 0).testBit i with
                  | false => rfl
                  | true =>
                    have := hsound listed j ops[j] (Array.getElem?_eq_getElem hjl) (hk.closed _ _ (Array.getElem?_eq_getElem hjl) hj) hk.closed i hw
                    rw [hunf] at this; cases this
          · by_cases hji : j = i
            · subst hji
              rw [ho] at hoj; cases hoj
              exact getD_set_true (hdeps e he hb)
            · rw [getD_set_ne false (Ne.symm hji)] at hj
              exact getD_set_true (hk.closed j oj hoj hj e he hb)
          · have hji : j ≠ i := by
              rintro rfl
              have hjs : j < listed.size := by omega
              simp [hjs] at hj
            rw [getD_set_ne false (Ne.symm hji)] at hj
            simp only [upd, if_neg hji]
            exact hk.fresh j hj
      · rw [hall i hlt] at hun; cases hun)
    (fun listed a w hs hr hI => by
      rcases hI with ⟨hln, _⟩ | ⟨_, hq⟩
      · have := listed_all hback hs hr last (by omega)
        rw [this] at hln; cases hln
      · exact hq)
  refine key ops.size _ a0 _ (by simp) (by simp [unlisted]) (.inl ⟨by simp [hsz], vs0 a0 ops.toList, ?_, hrefl _, fun i hi => ?_, fun i o _ hi => ?_, fun _ _ => rfl⟩)
  · refine (putAll_start a0 ops.toList 0 _ (fun i o ho d hd => ?_)).symm
    rw [Nat.zero_add]; unfold vs0; rw [ho]; simp [hd]
  · rcases Nat.lt_or_ge i ops.size with h | h <;> simp [h] at hi
  · rcases Nat.lt_or_ge i ops.size with h | h <;> simp [h] at hi
end

abbrev FactP := Bool × ((Nat → Value) → Value → World → Prop)
def factP (L : List FactP) (i : Nat) : (Nat → Value) → Value → World → Prop := (L.getD i (true, fun _ _ _ => True)).2
theorem factP_stays {L : List FactP} {R : World → World → Prop} (h : ∀ p ∈ L, ∀ vs v w w', p.2 vs v w → R w w' → p.2 vs v w') : ∀ i vs v w w', factP L i vs v w → R w w' → factP L i vs v w' := by
  intro i vs v w w' hv hR
  unfold factP at *
  rcases Nat.lt_or_ge i L.length with hi | hi
  · have e : L.getD i (true, fun _ _ _ => True) = L[i] := by simp [List.getD, hi]
    rw [e] at hv ⊢
    exact h _ (List.getElem_mem hi) _ _ _ _ hv hR
  · have e : L.getD i (true, fun _ _ _ => True) = (true, fun _ _ _ => True) := by simp [List.getD, hi]
    rw [e]; trivial
theorem factP_solid {P : Array Oper} {C : Nat → Nat} {L : List FactP} (h : ∀ p ∈ L, p.1 = true → ∀ vs v w w', p.2 vs v w → p.2 vs v w') (E : List Nat) (i : Nat) (hb : ((List.range L.length).all fun j => !stayM (masks .any P) C i j || (L.getD j (true, fun _ _ _ => True)).1 || E.contains j) = true) {vs : Nat → Value} {w w' : World}
    (hE : ∀ j ∈ E, factP L j vs (vs j) w → factP L j vs (vs j) w') :
    ∀ j, stayM (masks .any P) C i j = true → factP L j vs (vs j) w → factP L j vs (vs j) w' := by
  intro j hs hv
  rcases Nat.lt_or_ge j L.length with hj | hj
  · have e : L.getD j (true, fun _ _ _ => True) = L[j] := by simp [List.getD, hj]
    have h1 := List.all_eq_true.1 hb j (List.mem_range.2 hj)
    rw [hs, e] at h1
    simp only [Bool.not_true, Bool.false_or, Bool.or_eq_true] at h1
    rcases h1 with h1 | h1
    · unfold factP at *
      rw [e] at hv ⊢
      exact h _ (List.getElem_mem hj) h1 _ _ _ _ hv
    · exact hE j (by simpa using h1) hv
  · unfold factP at *
    have e : L.getD j (true, fun _ _ _ => True) = (true, fun _ _ _ => True) := by simp [List.getD, hj]
    rw [e]; trivial
theorem factP_loc {L : List FactP} {D : Nat → List Nat} (h : ∀ i, i < L.length → ∀ (vs vs' : Nat → Value) v w, (∀ k, k ∈ D i → vs k = vs' k) → factP L i vs v w → factP L i vs' v w) : ∀ i (vs vs' : Nat → Value) v w, (∀ k, k ∈ D i → vs k = vs' k) → factP L i vs v w → factP L i vs' v w := by
  intro i vs vs' v w hk hv
  rcases Nat.lt_or_ge i L.length with hi | hi
  · exact h i hi vs vs' v w hk hv
  · unfold factP
    have e : L.getD i (true, fun _ _ _ => True) = (true, fun _ _ _ => True) := by simp [List.getD, hi]
    rw [e]; trivial
def LocL (D : Nat → List Nat) : Nat → List FactP → Prop
  | _, [] => True
  | k, p :: r => (∀ (vs vs' : Nat → Value) v w, (∀ j, j ∈ D k → vs j = vs' j) → p.2 vs v w → p.2 vs' v w) ∧ LocL D (k + 1) r
theorem LocL.at_ {D : Nat → List Nat} : ∀ (L : List FactP) (k : Nat), LocL D k L → ∀ i, i < L.length → ∀ (vs vs' : Nat → Value) v w, (∀ j, j ∈ D (k + i) → vs j = vs' j) → factP L i vs v w → factP L i vs' v w
  | [], _, _, i, hi => absurd hi (by simp)
  | p :: r, k, h, 0, _ => fun vs vs' v w hk hv => h.1 vs vs' v w hk hv
  | p :: r, k, h, i + 1, hi => fun vs vs' v w hk hv => by
    have := LocL.at_ r (k + 1) h.2 i (by simpa using hi) vs vs' v w (fun j hj => hk j (by rw [show k + (i + 1) = k + 1 + i by omega]; exact hj))
    exact this hv
theorem loc_of {D : Nat → List Nat} {L : List FactP} (h : LocL D 0 L) : ∀ i (vs vs' : Nat → Value) v w, (∀ k, k ∈ D i → vs k = vs' k) → factP L i vs v w → factP L i vs' v w :=
  factP_loc fun i hi vs vs' v w hk hv => LocL.at_ L 0 h i hi vs vs' v w (by rw [Nat.zero_add]; exact hk) hv
theorem loc_cons {D : Nat → List Nat} {k : Nat} {p : FactP} {r : List FactP} (h : ∀ (vs vs' : Nat → Value) v w, (∀ j, j ∈ D k → vs j = vs' j) → p.2 vs v w → p.2 vs' v w) (t : LocL D (k + 1) r) : LocL D k (p :: r) := ⟨h, t⟩
theorem loc_nil {D : Nat → List Nat} {k : Nat} : LocL D k [] := trivial
theorem loc_own {D : List Nat} (f : Value → World → Prop) : ∀ (vs vs' : Nat → Value) v w, (∀ j, j ∈ D → vs j = vs' j) → (fun (_ : Nat → Value) => f) vs v w → (fun (_ : Nat → Value) => f) vs' v w := fun _ _ _ _ _ h => h
def StableP (R : World → World → Prop) (f : (Nat → Value) → Value → World → Prop) : Prop := ∀ vs v w w', f vs v w → R w w' → f vs v w'
theorem StableP.of {R : World → World → Prop} {f : Value → World → Prop} (h : Stable R f) : StableP R (fun _ => f) := fun _ _ _ _ hv hR => h _ _ _ hv hR
theorem stableP_cons {R : World → World → Prop} {b : Bool} {f : (Nat → Value) → Value → World → Prop} {L : List FactP} (h : StableP R f) (t : ∀ p ∈ L, ∀ vs v w w', p.2 vs v w → R w w' → p.2 vs v w') : ∀ p ∈ (b, f) :: L, ∀ vs v w w', p.2 vs v w → R w w' → p.2 vs v w' := fun p hp => by
  rcases List.mem_cons.1 hp with rfl | hp
  · exact h
  · exact t p hp
theorem stableP_nil {R : World → World → Prop} : ∀ p ∈ ([] : List FactP), ∀ vs v w w', p.2 vs v w → R w w' → p.2 vs v w' := fun p hp => by cases hp
theorem solidP_cons {f : (Nat → Value) → Value → World → Prop} {b : Bool} {L : List FactP} (h : b = true → ∀ vs v w w', f vs v w → f vs v w') (t : ∀ p ∈ L, p.1 = true → ∀ vs v (w w' : World), p.2 vs v w → p.2 vs v w') : ∀ p ∈ (b, f) :: L, p.1 = true → ∀ vs v (w w' : World), p.2 vs v w → p.2 vs v w' := fun p hp => by
  rcases List.mem_cons.1 hp with rfl | hp
  · exact h
  · exact t p hp
theorem solidP_nil : ∀ p ∈ ([] : List FactP), p.1 = true → ∀ vs v (w w' : World), p.2 vs v w → p.2 vs v w' := fun p hp => by cases hp
theorem solid_val (x : Value) : true = true → ∀ (vs : Nat → Value) v (w w' : World), (fun (_ : Nat → Value) => IsV x) vs v w → (fun (_ : Nat → Value) => IsV x) vs v w' := fun _ _ _ _ _ h => h
end Mile
namespace Mile
open Go Go.RowKit
abbrev NoExit : Exit → Act → World → Prop := fun _ _ _ => False
section
variable {P : Program} {ops : Array Oper} {Q : Exit → Act → World → Prop}
theorem noExit_out {K : Act → World → Prop} : ¬ LetsOut (Exit.then K NoExit) := fun ⟨_, _, h⟩ => h
theorem wpOpIn_of_list {n : Nat} {K : Act → World → Prop} {i : Nat} {o : Oper} {a : Act} {w : World} (ho : ops[i]? = some o) (hw : wpList P ops (Exit.then K NoExit) [o] a w) : wpOpIn Fence.wide n P ops Q i K a w := by
  unfold wpOpIn
  simp only [ho]
  unfold wpList at hw
  split
  · rename_i hwant
    rw [if_pos hwant] at hw
    rcases hw with hw | ⟨_, h2⟩
    · unfold Oper.wp at hw
      unfold Oper.wpIn
      refine ⟨fun _ _ => trivial, ?_⟩
      rw [show Fence.wide.round = none from rfl, Oper.semAt_none]
      generalize (execOp a.eval o).run P w = r at hw
      cases r with
      | ok x w' =>
        cases x <;> simp only [Oper.upon, Oper.uponIn] at hw ⊢ <;> first
          | exact hw
          | exact ⟨fun h => by simp [Fence.wide] at h, callsIn_wide.2 (Calls.mono hw (fun e w'' he => by
              cases e with
              | returned v => exact he
              | panicked c => exact False.elim he
              | outgrown => exact absurd he noExit_out))⟩
          | exact ⟨fun h => by simp [Fence.wide] at h, fun c cs _ => by
              obtain ⟨v, w2, h1, h2⟩ := hw c cs
              exact ⟨v, w2, h1, stepsIn_wide.2 h2⟩⟩
          | exact False.elim hw
      | halt x w' => cases x <;> simp only [Oper.upon, Oper.uponIn] at hw ⊢ <;> exact False.elim hw
    · exact absurd h2 noExit_out
  · rename_i hwant
    rw [if_neg hwant] at hw
    exact ⟨fun _ _ => trivial, hw⟩
theorem wpOpIn_of_listIn {n : Nat} {K : Act → World → Prop} {i : Nat} {o : Oper} {a : Act} {w : World} (ho : ops[i]? = some o) (hw : wpListIn Fence.wide n P ops (Exit.then K NoExit) [o] a w) : wpOpIn Fence.wide n P ops Q i K a w := by
  unfold wpOpIn
  simp only [ho]
  unfold wpListIn at hw
  split
  · rename_i hwant
    rw [if_pos hwant] at hw
    unfold Oper.wpIn at hw ⊢
    refine ⟨hw.1, ?_⟩
    have hw := hw.2
    generalize (o.semAt Fence.wide.round a.eval).run P w = r at hw
    cases r with
    | ok x w' =>
      cases x <;> simp only [Oper.uponIn] at hw ⊢ <;> first
        | exact hw
        | exact ⟨hw.1, CallsIn.mono hw.2 (fun e w'' he => by
            cases e with
            | returned v => exact he
            | panicked c => exact False.elim he
            | outgrown => exact absurd he noExit_out)⟩
        | exact ⟨hw.1, RoundIn.mono hw.2 (fun e w'' he => by
            cases e with
            | returned v => exact he
            | panicked c => exact False.elim he
            | outgrown => exact absurd he noExit_out)⟩
        | exact ⟨hw.1, RowsIn.mono hw.2 (fun _ _ he => he)⟩
    | halt x w' => cases x <;> simp only [Oper.uponIn] at hw ⊢ <;> exact False.elim hw
  · rename_i hwant
    rw [if_neg hwant] at hw
    exact hw
theorem wpAnyIn_inv {F : Fence} {n : Nat} {md : Region.Mode} {I : Array Bool → Act → World → Prop}
    (hstep : ∀ listed a w i, listed.size = ops.size → i ∈ Region.ready md ops listed → I listed a w → wpOpIn F n P ops Q i (fun a' w' => I (listed.setIfInBounds i true) a' w') a w)
    (hend : ∀ listed a w, listed.size = ops.size → Region.ready md ops listed = [] → I listed a w → Q .normal a w) :
    ∀ fuel listed a w, listed.size = ops.size → unlisted listed = fuel → I listed a w → wpAnyIn F n P md ops Q fuel listed a w
  | 0, listed, a, w, hs, hu, h => by
    have hr : Region.ready md ops listed = [] := by
      cases hr : Region.ready md ops listed with
      | nil => rfl
      | cons x xs =>
        have := (mem_ready.1 (show x ∈ Region.ready md ops listed by rw [hr]; simp)).1
        have := unlisted_set this
        omega
    exact ⟨hr, hend _ _ _ hs hr h⟩
  | fuel + 1, listed, a, w, hs, hu, h =>
    ⟨fun hr => hend _ _ _ hs hr h, fun i hi =>
      wpOpIn_mono (fun a' w' h' => wpAnyIn_inv hstep hend fuel _ a' w' (by simp [hs]) (by have := unlisted_set (mem_ready.1 hi).1; omega) h') (hstep _ _ _ _ hs hi h)⟩
structure KnownY (a0 : Act) (ops : Array Oper) (V : Nat → Value) (y : Nat) (R N : World → Prop) (listed : Array Bool) (a : Act) (w : World) (vs : Nat → Value) : Prop where
  act : a = putAll a0 ops.toList 0 vs
  known : ∀ i, listed.getD i false = true → vs i = V i
  closed : ∀ i o, ops[i]? = some o → listed.getD i false = true → ∀ e ∈ o.after, Region.binds .any e = true → listed.getD e.on false = true
  pre : listed.getD y false = false → R w
  post : listed.getD y false = true → N w
def OpOkY (P : Program) (ops : Array Oper) (act : (Nat → Value) → Act) (V : Nat → Value) (y : Nat) (R : World → Prop) (D : List Nat) (i : Nat) (o : Oper) : Prop :=
  i ≠ y → ∀ (K : Act → World → Prop) (vs : Nat → Value) (w : World), (((masks .any ops).getD i 0).testBit y = false → R w) → (∀ j ∈ D, vs j = V j) → K ((act vs).put o.dst (V i)) w → wpList P ops (Exit.then K NoExit) [o] (act vs) w
def OpsOkY (P : Program) (ops : Array Oper) (act : (Nat → Value) → Act) (V : Nat → Value) (y : Nat) (R : World → Prop) (D : Nat → List Nat) : Nat → List Oper → Prop
  | _, [] => True
  | k, o :: r => OpOkY P ops act V y R (D k) k o ∧ OpsOkY P ops act V y R D (k + 1) r
theorem OpsOkY.at_ {act : (Nat → Value) → Act} {V : Nat → Value} {y : Nat} {R : World → Prop} {D : Nat → List Nat} : ∀ (l : List Oper) (k : Nat), OpsOkY P ops act V y R D k l → ∀ i o, l[i]? = some o → OpOkY P ops act V y R (D (k + i)) (k + i) o := by
  intro l
  induction l with
  | nil => intro k _ i o h; simp at h
  | cons p r ih =>
    intro k h i o hi
    cases i with
    | zero => simp at hi; subst hi; exact h.1
    | succ i =>
      have := ih (k + 1) h.2 i o (by simpa using hi)
      rwa [show k + 1 + i = k + (i + 1) by omega] at this
theorem wp_region_mid {id : Nat} {a0 : Act} {w0 : World} {act : (Nat → Value) → Act} (y : Nat) (oy : Oper) (hoy : ops[y]? = some oy) (V : Nat → Value) (D : Nat → List Nat) (R N : World → Prop)
    (hm : P.follows .mixedOrders = true) (hdst : dstsApart ops.toList = true) (hback : backB .any ops = true)
    (hD : ((List.range ops.size).all fun i => (D i).all fun j => ((masks .any ops).getD i 0).testBit j) = true)
    (hord : ((List.range ops.size).all fun i => i == y || ((masks .any ops).getD y 0).testBit i || ((masks .any ops).getD i 0).testBit y) = true)
    (hact : ∀ vs, putAll a0 ops.toList 0 vs = act vs) (h0 : R w0.drew)
    (hops : OpsOkY P ops act V y R D 0 ops.toList)
    (hy : ∀ (K : Act → World → Prop) (vs : Nat → Value) (w : World), R w → (∀ j ∈ D y, vs j = V j) → (∀ w', N w' → K ((act vs).put oy.dst (V y)) w') → wpListIn Fence.wide 0 P ops (Exit.then K NoExit) [oy] (act vs) w)
    (hend : ∀ vs w, N w → (∀ i, i < ops.size → vs i = V i) → Q .normal (act vs) w) :
    (Code.region id ops true).wp P Q a0 w0 := by
  refine (wpIn_wide (n := 0)).1 (wpIn_region_any hm ?_)
  have hylt : y < ops.size := (Array.getElem?_eq_some_iff.1 hoy).1
  have key := wpAnyIn_inv (P := P) (ops := ops) (Q := Q) (F := Fence.wide) (n := 0) (md := .any) (I := fun listed a w => ∃ vs, KnownY a0 ops V y R N listed a w vs)
    (fun listed a w i hs hi ⟨vs, hk⟩ => by
      obtain ⟨hun, o, ho, hdeps⟩ := mem_ready.1 hi
      have hunf : listed.getD i false = false := by
        have hlt : i < listed.size := by rw [hs]; exact (Array.getElem?_eq_some_iff.1 ho).1
        simp [hlt] at hun ⊢; exact hun
      have hlt : i < ops.size := (Array.getElem?_eq_some_iff.1 ho).1
      have hmask : ∀ j, ((masks .any ops).getD i 0).testBit j = true → listed.getD j false = true := fun j h1 =>
        mask_listed hback hk.closed i (fun o' ho' => by rw [ho] at ho'; cases ho'; exact hdeps) j h1
      have hDi : ∀ j ∈ D i, vs j = V j := fun j hj => hk.known j (hmask j (List.all_eq_true.1 (List.all_eq_true.1 hD i (List.mem_range.2 hlt)) j hj))
      have hnext : ∀ w', (listed.getD y false = false → i ≠ y → R w') → (listed.getD y false = true → N w') → (i = y → N w') → ∃ vs', KnownY a0 ops V y R N (listed.setIfInBounds i true) ((putAll a0 ops.toList 0 vs).put o.dst (V i)) w' vs' := fun w' g1 g2 g3 => by
        refine ⟨upd vs i (V i), ?_, fun j hj => ?_, fun j oj hoj hj e he hb => ?_, fun h => ?_, fun h => ?_⟩
        · have := putAll_upd (a := a0) (v := V i) ops.toList 0 i o vs hdst (by simpa using ho)
          rw [this, Nat.zero_add]
        · by_cases hji : j = i
          · subst hji; simp only [upd, if_true]
          · rw [getD_set_ne false (Ne.symm hji)] at hj
            simp only [upd, if_neg hji]
            exact hk.known j hj
        · by_cases hji : j = i
          · subst hji
            rw [ho] at hoj; cases hoj
            exact getD_set_true (hdeps e he hb)
          · rw [getD_set_ne false (Ne.symm hji)] at hj
            exact getD_set_true (hk.closed j oj hoj hj e he hb)
        · by_cases hiy : i = y
          · subst hiy
            have : (listed.setIfInBounds i true).getD i false = true := by have : i < listed.size := by omega
                                                                           simp [this]
            rw [this] at h; cases h
          · rw [getD_set_ne false hiy] at h
            exact g1 h hiy
        · by_cases hiy : i = y
          · exact g3 hiy
          · rw [getD_set_ne false hiy] at h
            exact g2 h
      rw [hk.act]
      by_cases hiy : i = y
      · subst hiy
        rw [hoy] at ho; cases ho
        refine wpOpIn_of_listIn hoy ?_
        rw [hact]
        refine hy _ vs w (hk.pre hunf) hDi (fun w' hN => ?_)
        rw [← hact]
        exact hnext w' (fun _ h => absurd rfl h) (fun h => by rw [hunf] at h; cases h) (fun _ => hN)
      · refine wpOpIn_of_list ho ?_
        have hok := hops.at_ ops.toList 0 i o (by simpa using ho)
        rw [Nat.zero_add] at hok
        rw [hact]
        refine hok hiy _ vs w (fun hb => hk.pre ?_) hDi ?_
        · have h1 := List.all_eq_true.1 hord i (List.mem_range.2 hlt)
          rw [hb] at h1
          have h2 : ((masks .any ops).getD y 0).testBit i = true := by
            rcases hq : ((masks .any ops).getD y 0).testBit i with _ | _
            · rw [hq] at h1; simp at h1; exact absurd h1 hiy
            · rfl
          cases hyl : listed.getD y false with
          | false => rfl
          | true =>
            have h3 : listed.getD i false = true := mask_listed hback hk.closed y (fun o' ho' => hk.closed y o' ho' hyl) i h2
            rw [hunf] at h3; cases h3
        · rw [← hact]
          exact hnext w (fun h _ => hk.pre h) hk.post (fun h => absurd h hiy))
    (fun listed a w hs hr ⟨vs, hk⟩ => by
      have hall : ∀ i, i < ops.size → listed.getD i false = true := fun i hi => by
        have := listed_all hback hs hr i hi
        have hlt : i < listed.size := by omega
        simp [hlt] at this ⊢; exact this
      rw [hk.act, hact]
      exact hend vs w (hk.post (hall y hylt)) (fun i hi => hk.known i (hall i hi)))
  refine key ops.size _ a0 _ (by simp) ?_ ⟨vs0 a0 ops.toList, ?_, fun i hi => ?_, fun i o _ hi => ?_, fun _ => h0, fun h => ?_⟩
  · simp [unlisted]
  · refine (putAll_start a0 ops.toList 0 _ (fun i o ho d hd => ?_)).symm
    rw [Nat.zero_add]; unfold vs0; rw [ho]; simp [hd]
  · rcases Nat.lt_or_ge i ops.size with h | h <;> simp [h] at hi
  · rcases Nat.lt_or_ge i ops.size with h | h <;> simp [h] at hi
  · simp [hylt] at h
theorem opsOkY_cons {act : (Nat → Value) → Act} {V : Nat → Value} {y : Nat} {R : World → Prop} {D : Nat → List Nat} {k : Nat} {o : Oper} {r : List Oper} (h : OpOkY P ops act V y R (D k) k o) (t : OpsOkY P ops act V y R D (k + 1) r) : OpsOkY P ops act V y R D k (o :: r) := ⟨h, t⟩
theorem opsOkY_nil {act : (Nat → Value) → Act} {V : Nat → Value} {y : Nat} {R : World → Prop} {D : Nat → List Nat} {k : Nat} : OpsOkY P ops act V y R D k [] := trivial
end
end Mile
