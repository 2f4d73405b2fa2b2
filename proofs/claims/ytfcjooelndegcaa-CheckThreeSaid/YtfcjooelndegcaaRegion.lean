/- A region that draws its order, whatever it does: one look at each operation serves every order, if what each leaves (F) stays so while the others come up (R). -/
import Derived.Orders
import Derived.WalkKit
import Derived.Test.YtfcjooelndegcaaBase2
namespace Mile
open Go Go.RowKit

section
variable {P : Program} {ops : Array Oper} {Q : Exit → Act → World → Prop} {md : Region.Mode}

/-- How many have not come up. -/
def unlisted (listed : Array Bool) : Nat := listed.toList.count false

theorem unlisted_set {listed : Array Bool} {i : Nat} (h : listed.getD i true = false) : unlisted listed = unlisted (listed.setIfInBounds i true) + 1 := by
  have hlt : i < listed.size := by
    rcases Nat.lt_or_ge i listed.size with h' | h'
    · exact h'
    · simp [Array.getElem?_eq_none h'] at h
  have hv : listed.toList[i]'(by simpa using hlt) = false := by simpa [hlt] using h
  unfold unlisted
  rw [Array.toList_setIfInBounds]
  have hc := List.count_set (l := listed.toList) (a := true) (b := false) (i := i) (by simpa using hlt)
  rw [hv, show ((false : Bool) == false) = true from rfl, show ((true : Bool) == false) = false from rfl] at hc
  have hp : 0 < listed.toList.count false := List.count_pos_iff.2 (by rw [← hv]; exact List.getElem_mem _)
  simp only [if_true, Bool.false_eq_true, if_false, Nat.add_zero] at hc
  omega

theorem wpAny_inv {I : Array Bool → Act → World → Prop}
    (hstep : ∀ listed a w i, listed.size = ops.size → i ∈ Region.ready md ops listed → I listed a w → wpOp P ops Q i (fun a' w' => I (listed.setIfInBounds i true) a' w') a w)
    (hend : ∀ listed a w, listed.size = ops.size → Region.ready md ops listed = [] → I listed a w → Q .normal a w) :
    ∀ fuel listed a w, listed.size = ops.size → unlisted listed = fuel → I listed a w → wpAny P md ops Q fuel listed a w
  | 0, listed, a, w, hs, hu, h => by
    have hr : Region.ready md ops listed = [] := by
      cases hr : Region.ready md ops listed with
      | nil => rfl
      | cons x xs =>
        have := (mem_ready.1 (show x ∈ Region.ready md ops listed by rw [hr]; simp)).1
        have := unlisted_set this
        omega
    exact ⟨hr, hend _ _ _ hs hr h⟩
  | fuel + 1, listed, a, w, hs, hu, h =>
    ⟨fun hr => hend _ _ _ hs hr h, fun i hi =>
      wpOp_mono (fun a' w' h' => wpAny_inv hstep hend fuel _ a' w' (by simp [hs]) (by have := unlisted_set (mem_ready.1 hi).1; omega) h') (hstep _ _ _ _ hs hi h)⟩

/-- The frame, each operation's slot holding what vs says. -/
def putAll (a : Act) : List Oper → Nat → (Nat → Value) → Act
  | [], _, _ => a
  | o :: r, k, vs => putAll (a.put o.dst (vs k)) r (k + 1) vs

def upd (vs : Nat → Value) (i : Nat) (v : Value) : Nat → Value := fun j => if j = i then v else vs j

/-- No two operations write one slot. -/
def dstsApart : List Oper → Bool
  | [] => true
  | o :: r => (match o.dst with | none => true | some d => r.all fun p => p.dst != some d) && dstsApart r

theorem put_comm' {a : Act} {d e : Option Tmp} {u v : Value} (h : ∀ x, d = some x → e ≠ some x) : (a.put d u).put e v = (a.put e v).put d u := by
  cases d with
  | none => rfl
  | some x =>
    cases e with
    | none => rfl
    | some y =>
      have : x ≠ y := fun e => h x rfl (by rw [e])
      simp only [Act.put]
      rw [Array.setIfInBounds_comm _ _ this]

theorem putAll_put {a : Act} {e : Option Tmp} {v : Value} : ∀ (l : List Oper) (k : Nat) (vs : Nat → Value), (∀ x, e = some x → ∀ p ∈ l, p.dst ≠ some x) → (putAll a l k vs).put e v = putAll (a.put e v) l k vs := by
  intro l
  induction l generalizing a with
  | nil => intro k vs _; rfl
  | cons o r ih =>
    intro k vs h
    simp only [putAll]
    rw [ih _ _ (fun x hx p hp => h x hx p (by simp [hp])), put_comm' (fun x hx he => h x he o (by simp) hx)]

theorem putAll_congr {a : Act} : ∀ (l : List Oper) (k : Nat) (vs vs' : Nat → Value), (∀ j, k ≤ j → vs j = vs' j) → putAll a l k vs = putAll a l k vs' := by
  intro l
  induction l generalizing a with
  | nil => intro k vs vs' _; rfl
  | cons o r ih =>
    intro k vs vs' h
    simp only [putAll]
    rw [h k (Nat.le_refl _), ih _ _ _ (fun j hj => h j (by omega))]

theorem put_put {a : Act} {d : Option Tmp} {u v : Value} : (a.put d u).put d v = a.put d v := by
  cases d with
  | none => rfl
  | some x => simp [Act.put, Array.setIfInBounds_setIfInBounds]

theorem putAll_upd {a : Act} {v : Value} : ∀ (l : List Oper) (k i : Nat) (o : Oper) (vs : Nat → Value), dstsApart l = true → l[i]? = some o → (putAll a l k vs).put o.dst v = putAll a l k (upd vs (k + i) v) := by
  intro l
  induction l generalizing a with
  | nil => intro k i o vs _ h; simp at h
  | cons p r ih =>
    intro k i o vs hd h
    simp only [dstsApart, Bool.and_eq_true] at hd
    cases i with
    | zero =>
      simp at h; subst h
      simp only [putAll, Nat.add_zero]
      have e : upd vs k v k = v := by simp [upd]
      rw [e, putAll_congr r (k + 1) (upd vs k v) vs (fun j hj => by simp [upd]; omega), putAll_put]
      · rw [put_put]
      · intro x hx q hq
        have := hd.1
        rw [hx] at this
        have := List.all_eq_true.1 this q hq
        simpa using this
    | succ i =>
      simp at h
      simp only [putAll]
      rw [ih _ i o vs hd.2 h, show k + 1 + i = k + (i + 1) by omega]
      have e : upd vs (k + (i + 1)) v k = vs k := by simp [upd]
      rw [e]

/-- To begin with each slot holds what it held. -/
def vs0 (a : Act) (l : List Oper) : Nat → Value := fun k => match (l[k]?).bind (·.dst) with | some d => a.tmps.getD d undef | none => undef

theorem put_same (a : Act) (d : Tmp) : a.put (some d) (a.tmps.getD d undef) = a := by
  cases a with
  | mk t f =>
    simp only [Act.put, Act.mk.injEq, and_true]
    apply Array.ext
    · simp
    · intro i h1 h2
      rw [Array.getElem_setIfInBounds]
      split
      · rename_i h; subst h; simp [h2]
      · rfl

theorem putAll_start (a : Act) : ∀ (l : List Oper) (k : Nat) (vs : Nat → Value), (∀ i o, l[i]? = some o → ∀ d, o.dst = some d → vs (k + i) = a.tmps.getD d undef) → putAll a l k vs = a := by
  intro l
  induction l with
  | nil => intro k vs _; rfl
  | cons o r ih =>
    intro k vs h
    have e : a.put o.dst (vs k) = a := by
      cases hd : o.dst with
      | none => rfl
      | some d => have := h 0 o rfl d hd; rw [Nat.add_zero] at this; rw [this]; exact put_same a d
    simp only [putAll, e]
    exact ih (k + 1) vs (fun i p hp d hd => by have := h (i + 1) p (by simpa using hp) d hd; rw [← this]; congr 1; omega)

/-- Each looks back alone. -/
def backB (md : Region.Mode) (ops : Array Oper) : Bool := (List.range ops.size).all fun i => match ops[i]? with | some o => o.after.all fun e => !Region.binds md e || decide (e.on < i) | none => true

/-- What operation i waits for, by way of others too (so many steps). -/
def waits (md : Region.Mode) (ops : Array Oper) : Nat → Nat → Nat → Bool
  | 0, _, _ => false
  | f + 1, i, j => match ops[i]? with | some o => o.after.any fun e => Region.binds md e && (e.on == j || waits md ops f e.on j) | none => false

theorem listed_all {listed : Array Bool} (hb : backB md ops = true) (hs : listed.size = ops.size) (hr : Region.ready md ops listed = []) : ∀ i, i < ops.size → listed.getD i true = true := by
  intro i
  induction i using Nat.strongRecOn with
  | _ i ih =>
    intro hi
    cases h : listed.getD i true with
    | true => rfl
    | false =>
      have hb' := List.all_eq_true.1 hb i (List.mem_range.2 hi)
      rw [Array.getElem?_eq_getElem hi] at hb'
      have : i ∈ Region.ready md ops listed := by
        refine mem_ready.2 ⟨h, ops[i], Array.getElem?_eq_getElem hi, fun e he hbd => ?_⟩
        have h1 := Array.all_eq_true'.1 hb' e he
        simp only [hbd, Bool.not_true, Bool.false_or, decide_eq_true_eq] at h1
        have h2 := ih e.on h1 (by omega)
        have hlt : e.on < listed.size := by omega
        simp [hlt] at h2 ⊢; exact h2
      rw [hr] at this; cases this

/-- What is known while some have come up. -/
structure Known (a0 : Act) (ops : Array Oper) (md : Region.Mode) (R : World → World → Prop) (w0 : World) (F : Nat → Value → World → Prop) (listed : Array Bool) (a : Act) (w : World) (vs : Nat → Value) : Prop where
  act : a = putAll a0 ops.toList 0 vs
  rel : R w0 w
  known : ∀ i, listed.getD i false = true → F i (vs i) w
  closed : ∀ i o, ops[i]? = some o → listed.getD i false = true → ∀ e ∈ o.after, Region.binds md e = true → listed.getD e.on false = true

theorem waits_listed {listed : Array Bool} (hcl : ∀ i o, ops[i]? = some o → listed.getD i false = true → ∀ e ∈ o.after, Region.binds md e = true → listed.getD e.on false = true) :
    ∀ (f i j : Nat), (∀ o, ops[i]? = some o → ∀ e ∈ o.after, Region.binds md e = true → listed.getD e.on false = true) → waits md ops f i j = true → listed.getD j false = true
  | 0, _, _, _, h => by cases h
  | f + 1, i, j, hi, h => by
    unfold waits at h
    split at h
    · rename_i o ho
      obtain ⟨e, he, hb⟩ := Array.any_eq_true'.1 h
      simp only [Bool.and_eq_true, Bool.or_eq_true, beq_iff_eq] at hb
      have h1 := hi o ho e he hb.1
      rcases hb.2 with h2 | h2
      · rw [← h2]; exact h1
      · exact waits_listed hcl f e.on j (fun o' ho' e' he' hb' => hcl _ _ ho' h1 e' he' hb') h2
    · cases h

/-- What is to be shown of operation i. -/
def OpOk (P : Program) (ops : Array Oper) (Q : Exit → Act → World → Prop) (a0 : Act) (R : World → World → Prop) (w0 : World) (F : Nat → Value → World → Prop) (D : List Nat) (i : Nat) (o : Oper) : Prop :=
  ∀ (K : Act → World → Prop) (vs : Nat → Value) (w : World), R w0 w → (∀ j ∈ D, F j (vs j) w) → (∀ v w', F i v w' → R w w' → K ((putAll a0 ops.toList 0 vs).put o.dst v) w') →
    wpList P ops (Exit.then K Q) [o] (putAll a0 ops.toList 0 vs) w

/-- Of all of them. -/
def OpsOk (P : Program) (ops : Array Oper) (Q : Exit → Act → World → Prop) (a0 : Act) (R : World → World → Prop) (w0 : World) (F : Nat → Value → World → Prop) (D : Nat → List Nat) : Nat → List Oper → Prop
  | _, [] => True
  | k, o :: r => OpOk P ops Q a0 R w0 F (D k) k o ∧ OpsOk P ops Q a0 R w0 F D (k + 1) r

theorem OpsOk.at_ {a0 : Act} {R : World → World → Prop} {w0 : World} {F : Nat → Value → World → Prop} {D : Nat → List Nat} : ∀ (l : List Oper) (k : Nat), OpsOk P ops Q a0 R w0 F D k l → ∀ i o, l[i]? = some o → OpOk P ops Q a0 R w0 F (D (k + i)) (k + i) o := by
  intro l
  induction l with
  | nil => intro k _ i o h; simp at h
  | cons p r ih =>
    intro k h i o hi
    cases i with
    | zero => simp at hi; subst hi; exact h.1
    | succ i =>
      have := ih (k + 1) h.2 i o (by simpa using hi)
      rwa [show k + 1 + i = k + (i + 1) by omega] at this

/-- Whatever order is drawn. -/
theorem wp_region_inv {id : Nat} {a0 : Act} {w0 : World} (R : World → World → Prop) (F : Nat → Value → World → Prop) (D : Nat → List Nat)
    (hm : P.follows .mixedOrders = true) (hdst : dstsApart ops.toList = true) (hback : backB .any ops = true)
    (hD : ((List.range ops.size).all fun i => (D i).all fun j => waits .any ops ops.size i j) = true)
    (hrefl : ∀ w, R w w) (htrans : ∀ w w' w'', R w w' → R w' w'' → R w w'') (hF : ∀ i v w w', F i v w → R w w' → F i v w')
    (hops : OpsOk P ops Q a0 R w0.drew F D 0 ops.toList)
    (hend : ∀ vs w, R w0.drew w → (∀ i, i < ops.size → F i (vs i) w) → Q .normal (putAll a0 ops.toList 0 vs) w) :
    (Code.region id ops true).wp P Q a0 w0 := by
  refine wp_region_any hm ?_
  have key := wpAny_inv (P := P) (ops := ops) (Q := Q) (md := .any) (I := fun listed a w => ∃ vs, Known a0 ops .any R w0.drew F listed a w vs)
    (fun listed a w i hs hi ⟨vs, hk⟩ => by
      obtain ⟨hun, o, ho, hdeps⟩ := mem_ready.1 hi
      have hok := hops.at_ ops.toList 0 i o (by simpa using ho)
      rw [Nat.zero_add] at hok
      have hlt : i < ops.size := (Array.getElem?_eq_some_iff.1 ho).1
      have hDi : ∀ j ∈ D i, F j (vs j) w := fun j hj => by
        have h1 := List.all_eq_true.1 (List.all_eq_true.1 hD i (List.mem_range.2 hlt)) j hj
        exact hk.known j (waits_listed hk.closed _ i j (fun o' ho' => by rw [ho] at ho'; cases ho'; exact hdeps) h1)
      have hw := hok (fun a' w' => ∃ vs, Known a0 ops .any R w0.drew F (listed.setIfInBounds i true) a' w' vs) vs w hk.rel hDi (fun v w' hv hR => by
        refine ⟨upd vs i v, ?_, htrans _ _ _ hk.rel hR, fun j hj => ?_, fun j oj hoj hj e he hb => ?_⟩
        · have := putAll_upd (a := a0) (v := v) ops.toList 0 i o vs hdst (by simpa using ho)
          rw [this, Nat.zero_add]
        · by_cases hji : j = i
          · subst hji; simp only [upd, if_true]; exact hv
          · rw [getD_set_ne false (Ne.symm hji)] at hj
            simp only [upd, if_neg hji]
            exact hF _ _ _ _ (hk.known j hj) hR
        · by_cases hji : j = i
          · subst hji
            rw [ho] at hoj; cases hoj
            exact getD_set_true (hdeps e he hb)
          · rw [getD_set_ne false (Ne.symm hji)] at hj
            exact getD_set_true (hk.closed j oj hoj hj e he hb))
      rw [hk.act]
      unfold wpOp
      simp only [ho]
      unfold wpList at hw
      split
      · rename_i hwant
        rw [if_pos hwant] at hw
        rcases hw with hw | ⟨h1, h2⟩
        · left
          unfold Oper.wp at hw ⊢
          generalize (execOp (putAll a0 ops.toList 0 vs).eval o).run P w = r at hw
          cases r with
          | ok n w' =>
            cases n <;> simp only [Oper.upon] at hw ⊢ <;> first
              | exact hw
              | exact Calls.mono hw (fun e w'' he => by cases e <;> first | exact he | (obtain ⟨x, y, hxy⟩ := he; exact ⟨x, y, hxy⟩))
              | exact Rows.mono hw (fun _ _ he => he)
          | halt x w' => cases x <;> simp only [Oper.upon] at hw ⊢ <;> exact hw
        · exact .inr ⟨h1, by obtain ⟨x, y, hxy⟩ := h2; exact ⟨x, y, hxy⟩⟩
      · rename_i hwant
        rw [if_neg hwant] at hw
        exact hw)
    (fun listed a w hs hr ⟨vs, hk⟩ => by
      rw [hk.act]
      refine hend vs w hk.rel (fun i hi => hk.known i ?_)
      have := listed_all hback hs hr i hi
      have hlt : i < listed.size := by omega
      simp [hlt] at this ⊢; exact this)
  refine key ops.size _ a0 _ (by simp) ?_ ⟨vs0 a0 ops.toList, ?_, hrefl _, fun i hi => ?_, fun i o _ hi => ?_⟩
  · simp [unlisted]
  · refine (putAll_start a0 ops.toList 0 _ (fun i o ho d hd => ?_)).symm
    rw [Nat.zero_add]; unfold vs0; rw [ho]; simp [hd]
  · rcases Nat.lt_or_ge i ops.size with h | h <;> simp [h] at hi
  · rcases Nat.lt_or_ge i ops.size with h | h <;> simp [h] at hi
end

theorem opsOk_cons {P : Program} {ops : Array Oper} {Q : Exit → Act → World → Prop} {a0 : Act} {R : World → World → Prop} {w0 : World} {F : Nat → Value → World → Prop} {D : Nat → List Nat} {k : Nat} {o : Oper} {r : List Oper}
    (h : OpOk P ops Q a0 R w0 F (D k) k o) (h' : OpsOk P ops Q a0 R w0 F D (k + 1) r) : OpsOk P ops Q a0 R w0 F D k (o :: r) := ⟨h, h'⟩
theorem opsOk_nil {P : Program} {ops : Array Oper} {Q : Exit → Act → World → Prop} {a0 : Act} {R : World → World → Prop} {w0 : World} {F : Nat → Value → World → Prop} {D : Nat → List Nat} {k : Nat} : OpsOk P ops Q a0 R w0 F D k [] := trivial

/-- It stays so. -/
def Stable (R : World → World → Prop) (f : Value → World → Prop) : Prop := ∀ v w w', f v w → R w w' → f v w'
/-- It is this value. -/
def IsV (x : Value) : Value → World → Prop := fun v _ => v = x
/-- It is a new row of these cells. -/
def NewRow (n : Nat) (xs : List Value) : Value → World → Prop := fun v W => ∃ p, v = .slice (some ⟨p, 0, none⟩) n n ∧ Rd W 1 v n xs

theorem stable_val {R : World → World → Prop} (x : Value) : Stable R (IsV x) := fun _ _ _ h _ => h
theorem stable_new {n : Nat} {xs : List Value} : Stable (Mod (fun _ => False)) (NewRow n xs) := fun _ _ _ ⟨p, h, hr⟩ hm => ⟨p, h, hr.keepA hm (fun _ _ e => e.elim)⟩
theorem stable_list {R : World → World → Prop} {L : List (Value → World → Prop)} (h : ∀ f ∈ L, Stable R f) : ∀ i v w w', (L.getD i (fun _ _ => True)) v w → R w w' → (L.getD i (fun _ _ => True)) v w' := by
  intro i v w w' hv hR
  rcases Nat.lt_or_ge i L.length with hi | hi
  · have e : L.getD i (fun _ _ => True) = L[i] := by simp [List.getD, hi]
    rw [e] at hv ⊢
    exact h _ (List.getElem_mem hi) _ _ _ hv hR
  · have e : L.getD i (fun _ _ => True) = fun _ _ => True := by simp [List.getD, hi]
    rw [e]; trivial
end Mile
