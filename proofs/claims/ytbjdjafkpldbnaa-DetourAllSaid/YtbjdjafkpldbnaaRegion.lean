/- A region that draws its order, whatever it does: one look at each operation serves every order, if what each leaves (F) stays so while the others come up (R). -/
import Derived.Orders
import Derived.WalkKit
import Derived.Test.YtbjdjafkpldbnaaBase2
namespace Mile
open Go Go.RowKit

section
variable {P : Program} {ops : Array Oper} {Q : Exit → Act → World → Prop} {md : Region.Mode}

/-- How many have not come up. -/
def unlisted (listed : Array Bool) : Nat := listed.toList.count false

theorem unlisted_set {listed : Array Bool} {i : Nat} (h : listed.getD i true = false) : unlisted listed = unlisted (listed.setIfInBounds i true) + 1 := by
  have hlt : i < listed.size := by
    rcases Nat.lt_or_ge i listed.size with h' | h'
    · exact h'
    · simp [Array.getElem?_eq_none h'] at h
  have hv : listed.toList[i]'(by simpa using hlt) = false := by simpa [hlt] using h
  unfold unlisted
  rw [Array.toList_setIfInBounds]
  have hc := List.count_set (l := listed.toList) (a := true) (b := false) (i := i) (by simpa using hlt)
  rw [hv, show ((false : Bool) == false) = true from rfl, show ((true : Bool) == false) = false from rfl] at hc
  have hp : 0 < listed.toList.count false := List.count_pos_iff.2 (by rw [← hv]; exact List.getElem_mem _)
  simp only [if_true, Bool.false_eq_true, if_false, Nat.add_zero] at hc
  omega

theorem wpAny_inv {I : Array Bool → Act → World → Prop}
    (hstep : ∀ listed a w i, listed.size = ops.size → i ∈ Region.ready md ops listed → I listed a w → wpOp P ops Q i (fun a' w' => I (listed.setIfInBounds i true) a' w') a w)
    (hend : ∀ listed a w, listed.size = ops.size → Region.ready md ops listed = [] → I listed a w → Q .normal a w) :
    ∀ fuel listed a w, listed.size = ops.size → unlisted listed = fuel → I listed a w → wpAny P md ops Q fuel listed a w
  | 0, listed, a, w, hs, hu, h => by
    have hr : Region.ready md ops listed = [] := by
      cases hr : Region.ready md ops listed with
      | nil => rfl
      | cons x xs =>
        have := (mem_ready.1 (show x ∈ Region.ready md ops listed by rw [hr]; simp)).1
        have := unlisted_set this
        omega
    exact ⟨hr, hend _ _ _ hs hr h⟩
  | fuel + 1, listed, a, w, hs, hu, h =>
    ⟨fun hr => hend _ _ _ hs hr h, fun i hi =>
      wpOp_mono (fun a' w' h' => wpAny_inv hstep hend fuel _ a' w' (by simp [hs]) (by have := unlisted_set (mem_ready.1 hi).1; omega) h') (hstep _ _ _ _ hs hi h)⟩

/-- The frame, each operation's slot holding what vs says. -/
def putAll (a : Act) : List Oper → Nat → (Nat → Value) → Act
  | [], _, _ => a
  | o :: r, k, vs => putAll (a.put o.dst (vs k)) r (k + 1) vs

def upd (vs : Nat → Value) (i : Nat) (v : Value) : Nat → Value := fun j => if j = i then v else vs j

/-- No two operations write one slot. -/
def dstsApart : List Oper → Bool
  | [] => true
  | o :: r => (match o.dst with | none => true | some d => r.all fun p => p.dst != some d) && dstsApart r

theorem put_comm' {a : Act} {d e : Option Tmp} {u v : Value} (h : ∀ x, d = some x → e ≠ some x) : (a.put d u).put e v = (a.put e v).put d u := by
  cases d with
  | none => rfl
  | some x =>
    cases e with
    | none => rfl
    | some y =>
      have : x ≠ y := fun e => h x rfl (by rw [e])
      simp only [Act.put]
      rw [Array.setIfInBounds_comm _ _ this]

theorem putAll_put {a : Act} {e : Option Tmp} {v : Value} : ∀ (l : List Oper) (k : Nat) (vs : Nat → Value), (∀ x, e = some x → ∀ p ∈ l, p.dst ≠ some x) → (putAll a l k vs).put e v = putAll (a.put e v) l k vs := by
  intro l
  induction l generalizing a with
  | nil => intro k vs _; rfl
  | cons o r ih =>
    intro k vs h
    simp only [putAll]
    rw [ih _ _ (fun x hx p hp => h x hx p (by simp [hp])), put_comm' (fun x hx he => h x he o (by simp) hx)]

theorem putAll_congr {a : Act} : ∀ (l : List Oper) (k : Nat) (vs vs' : Nat → Value), (∀ j, k ≤ j → vs j = vs' j) → putAll a l k vs = putAll a l k vs' := by
  intro l
  induction l generalizing a with
  | nil => intro k vs vs' _; rfl
  | cons o r ih =>
    intro k vs vs' h
    simp only [putAll]
    rw [h k (Nat.le_refl _), ih _ _ _ (fun j hj => h j (by omega))]

theorem put_put {a : Act} {d : Option Tmp} {u v : Value} : (a.put d u).put d v = a.put d v := by
  cases d with
  | none => rfl
  | some x => simp [Act.put, Array.setIfInBounds_setIfInBounds]

theorem putAll_upd {a : Act} {v : Value} : ∀ (l : List Oper) (k i : Nat) (o : Oper) (vs : Nat → Value), dstsApart l = true → l[i]? = some o → (putAll a l k vs).put o.dst v = putAll a l k (upd vs (k + i) v) := by
  intro l
  induction l generalizing a with
  | nil => intro k i o vs _ h; simp at h
  | cons p r ih =>
    intro k i o vs hd h
    simp only [dstsApart, Bool.and_eq_true] at hd
    cases i with
    | zero =>
      simp at h; subst h
      simp only [putAll, Nat.add_zero]
      have e : upd vs k v k = v := by simp [upd]
      rw [e, putAll_congr r (k + 1) (upd vs k v) vs (fun j hj => by simp [upd]; omega), putAll_put]
      · rw [put_put]
      · intro x hx q hq
        have := hd.1
        rw [hx] at this
        have := List.all_eq_true.1 this q hq
        simpa using this
    | succ i =>
      simp at h
      simp only [putAll]
      rw [ih _ i o vs hd.2 h, show k + 1 + i = k + (i + 1) by omega]
      have e : upd vs (k + (i + 1)) v k = vs k := by simp [upd]
      rw [e]

/-- To begin with each slot holds what it held. -/
def vs0 (a : Act) (l : List Oper) : Nat → Value := fun k => match (l[k]?).bind (·.dst) with | some d => a.tmps.getD d undef | none => undef

theorem put_same (a : Act) (d : Tmp) : a.put (some d) (a.tmps.getD d undef) = a := by
  cases a with
  | mk t f =>
    simp only [Act.put, Act.mk.injEq, and_true]
    apply Array.ext
    · simp
    · intro i h1 h2
      rw [Array.getElem_setIfInBounds]
      split
      · rename_i h; subst h; simp [h2]
      · rfl

theorem putAll_start (a : Act) : ∀ (l : List Oper) (k : Nat) (vs : Nat → Value), (∀ i o, l[i]? = some o → ∀ d, o.dst = some d → vs (k + i) = a.tmps.getD d undef) → putAll a l k vs = a := by
  intro l
  induction l with
  | nil => intro k vs _; rfl
  | cons o r ih =>
    intro k vs h
    have e : a.put o.dst (vs k) = a := by
      cases hd : o.dst with
      | none => rfl
      | some d => have := h 0 o rfl d hd; rw [Nat.add_zero] at this; rw [this]; exact put_same a d
    simp only [putAll, e]
    exact ih (k + 1) vs (fun i p hp d hd => by have := h (i + 1) p (by simpa using hp) d hd; rw [← this]; congr 1; omega)

/-- Each looks back alone. -/
def backB (md : Region.Mode) (ops : Array Oper) : Bool := (List.range ops.size).all fun i => match ops[i]? with | some o => o.after.all fun e => !Region.binds md e || decide (e.on < i) | none => true

/-- What operation i waits for, by way of others too (so many steps). -/
def waits (md : Region.Mode) (ops : Array Oper) : Nat → Nat → Nat → Bool
  | 0, _, _ => false
  | f + 1, i, j => match ops[i]? with | some o => o.after.any fun e => Region.binds md e && (e.on == j || waits md ops f e.on j) | none => false

theorem listed_all {listed : Array Bool} (hb : backB md ops = true) (hs : listed.size = ops.size) (hr : Region.ready md ops listed = []) : ∀ i, i < ops.size → listed.getD i true = true := by
  intro i
  induction i using Nat.strongRecOn with
  | _ i ih =>
    intro hi
    cases h : listed.getD i true with
    | true => rfl
    | false =>
      have hb' := List.all_eq_true.1 hb i (List.mem_range.2 hi)
      rw [Array.getElem?_eq_getElem hi] at hb'
      have : i ∈ Region.ready md ops listed := by
        refine mem_ready.2 ⟨h, ops[i], Array.getElem?_eq_getElem hi, fun e he hbd => ?_⟩
        have h1 := Array.all_eq_true'.1 hb' e he
        simp only [hbd, Bool.not_true, Bool.false_or, decide_eq_true_eq] at h1
        have h2 := ih e.on h1 (by omega)
        have hlt : e.on < listed.size := by omega
        simp [hlt] at h2 ⊢; exact h2
      rw [hr] at this; cases this

/-- What is known while some have come up. -/
structure Known (a0 : Act) (ops : Array Oper) (md : Region.Mode) (R : World → World → Prop) (w0 : World) (F : Nat → Value → World → Prop) (listed : Array Bool) (a : Act) (w : World) (vs : Nat → Value) : Prop where
  act : a = putAll a0 ops.toList 0 vs
  rel : R w0 w
  known : ∀ i, listed.getD i false = true → F i (vs i) w
  closed : ∀ i o, ops[i]? = some o → listed.getD i false = true → ∀ e ∈ o.after, Region.binds md e = true → listed.getD e.on false = true

theorem waits_listed {listed : Array Bool} (hcl : ∀ i o, ops[i]? = some o → listed.getD i false = true → ∀ e ∈ o.after, Region.binds md e = true → listed.getD e.on false = true) :
    ∀ (f i j : Nat), (∀ o, ops[i]? = some o → ∀ e ∈ o.after, Region.binds md e = true → listed.getD e.on false = true) → waits md ops f i j = true → listed.getD j false = true
  | 0, _, _, _, h => by cases h
  | f + 1, i, j, hi, h => by
    unfold waits at h
    split at h
    · rename_i o ho
      obtain ⟨e, he, hb⟩ := Array.any_eq_true'.1 h
      simp only [Bool.and_eq_true, Bool.or_eq_true, beq_iff_eq] at hb
      have h1 := hi o ho e he hb.1
      rcases hb.2 with h2 | h2
      · rw [← h2]; exact h1
      · exact waits_listed hcl f e.on j (fun o' ho' e' he' hb' => hcl _ _ ho' h1 e' he' hb') h2
    · cases h

/-- What is to be shown of operation i. -/
def OpOk (P : Program) (ops : Array Oper) (Q : Exit → Act → World → Prop) (a0 : Act) (R : World → World → Prop) (w0 : World) (F : Nat → Value → World → Prop) (D : List Nat) (i : Nat) (o : Oper) : Prop :=
  ∀ (K : Act → World → Prop) (vs : Nat → Value) (w : World), R w0 w → (∀ j ∈ D, F j (vs j) w) → (∀ v w', F i v w' → R w w' → K ((putAll a0 ops.toList 0 vs).put o.dst v) w') →
    wpList P ops (Exit.then K Q) [o] (putAll a0 ops.toList 0 vs) w

/-- Of all of them. -/
def OpsOk (P : Program) (ops : Array Oper) (Q : Exit → Act → World → Prop) (a0 : Act) (R : World → World → Prop) (w0 : World) (F : Nat → Value → World → Prop) (D : Nat → List Nat) : Nat → List Oper → Prop
  | _, [] => True
  | k, o :: r => OpOk P ops Q a0 R w0 F (D k) k o ∧ OpsOk P ops Q a0 R w0 F D (k + 1) r

theorem OpsOk.at_ {a0 : Act} {R : World → World → Prop} {w0 : World} {F : Nat → Value → World → Prop} {D : Nat → List Nat} : ∀ (l : List Oper) (k : Nat), OpsOk P ops Q a0 R w0 F D k l → ∀ i o, l[i]? = some o → OpOk P ops Q a0 R w0 F (D (k + i)) (k + i) o := by
  intro l
  induction l with
  | nil => intro k _ i o h; simp at h
  | cons p r ih =>
    intro k h i o hi
    cases i with
    | zero => simp at hi; subst hi; exact h.1
    | succ i =>
      have := ih (k + 1) h.2 i o (by simpa using hi)
      rwa [show k + 1 + i = k + (i + 1) by omega] at this

/-- What one operation leaves is known behind it. -/
theorem known_step {a0 : Act} {w0 : World} {R : World → World → Prop} {F : Nat → Value → World → Prop} (hdst : dstsApart ops.toList = true) (htrans : ∀ w w' w'', R w w' → R w' w'' → R w w'') (hF : ∀ i v w w', F i v w → R w w' → F i v w')
    {listed : Array Bool} {a : Act} {w : World} {vs : Nat → Value} (hk : Known a0 ops md R w0 F listed a w vs) {i : Nat} {o : Oper} (ho : ops[i]? = some o) (hdeps : ∀ e ∈ o.after, Region.binds md e = true → listed.getD e.on false = true)
    {v : Value} {w' : World} (hv : F i v w') (hR : R w w') : Known a0 ops md R w0 F (listed.setIfInBounds i true) ((putAll a0 ops.toList 0 vs).put o.dst v) w' (upd vs i v) := by
  refine ⟨?_, htrans _ _ _ hk.rel hR, fun j hj => ?_, fun j oj hoj hj e he hb => ?_⟩
  · have := putAll_upd (a := a0) (v := v) ops.toList 0 i o vs hdst (by simpa using ho)
    rw [this, Nat.zero_add]
  · by_cases hji : j = i
    · subst hji; simp only [upd, if_true]; exact hv
    · rw [getD_set_ne false (Ne.symm hji)] at hj
      simp only [upd, if_neg hji]
      exact hF _ _ _ _ (hk.known j hj) hR
  · by_cases hji : j = i
    · subst hji
      rw [ho] at hoj; cases hoj
      exact getD_set_true (hdeps e he hb)
    · rw [getD_set_ne false (Ne.symm hji)] at hj
      exact getD_set_true (hk.closed j oj hoj hj e he hb)

theorem wpOp_of_list {K : Act → World → Prop} {i : Nat} {o : Oper} {a : Act} {w : World} (ho : ops[i]? = some o) (hw : wpList P ops (Exit.then K Q) [o] a w) : wpOp P ops Q i K a w := by
  unfold wpOp
  simp only [ho]
  unfold wpList at hw
  split
  · rename_i hwant
    rw [if_pos hwant] at hw
    rcases hw with hw | ⟨h1, h2⟩
    · left
      unfold Oper.wp at hw ⊢
      generalize (execOp a.eval o).run P w = r at hw
      cases r with
      | ok n w' =>
        cases n <;> simp only [Oper.upon] at hw ⊢ <;> first
          | exact hw
          | exact Calls.mono hw (fun e w'' he => by cases e <;> first | exact he | (obtain ⟨x, y, hxy⟩ := he; exact ⟨x, y, hxy⟩))
          | exact Rows.mono hw (fun _ _ he => he)
      | halt x w' => cases x <;> simp only [Oper.upon] at hw ⊢ <;> exact hw
    · exact .inr ⟨h1, by obtain ⟨x, y, hxy⟩ := h2; exact ⟨x, y, hxy⟩⟩
  · rename_i hwant
    rw [if_neg hwant] at hw
    exact hw

/-- Whatever order is drawn, the last operation waiting for all the others: it may do what it likes. -/
theorem wp_region_last {id : Nat} {a0 : Act} {w0 : World} (R : World → World → Prop) (F : Nat → Value → World → Prop) (D : Nat → List Nat) (last : Nat) (ol : Oper) (hol : ops[last]? = some ol) (hsz : ops.size = last + 1)
    (hm : P.follows .mixedOrders = true) (hdst : dstsApart ops.toList = true) (hback : backB .any ops = true)
    (hD : ((List.range last).all fun i => (D i).all fun j => waits .any ops ops.size i j) = true)
    (hL : ((List.range last).all fun j => waits .any ops ops.size last j) = true)
    (hrefl : ∀ w, R w w) (htrans : ∀ w w' w'', R w w' → R w' w'' → R w w'') (hF : ∀ i v w w', F i v w → R w w' → F i v w')
    (hops : OpsOk P ops Q a0 R w0.drew F D 0 (ops.toList.take last))
    (hend : ∀ vs w, R w0.drew w → (∀ i, i < last → F i (vs i) w) → wpList P ops Q [ol] (putAll a0 ops.toList 0 vs) w) :
    (Code.region id ops true).wp P Q a0 w0 := by
  refine wp_region_any hm ?_
  have key := wpAny_inv (P := P) (ops := ops) (Q := Q) (md := .any) (I := fun listed a w => (listed.getD last true = false ∧ ∃ vs, Known a0 ops .any R w0.drew F listed a w vs) ∨ ((∀ i, i < ops.size → listed.getD i true = true) ∧ Q .normal a w))
    (fun listed a w i hs hi hI => by
      obtain ⟨hun, o, ho, hdeps⟩ := mem_ready.1 hi
      have hlt : i < ops.size := (Array.getElem?_eq_some_iff.1 ho).1
      rcases hI with ⟨hln, vs, hk⟩ | ⟨hall, _⟩
      · by_cases hil : i = last
        · subst hil
          rw [hol] at ho; cases ho
          have hothers : ∀ j, j < i → listed.getD j false = true := fun j hj =>
            waits_listed hk.closed _ i j (fun o' ho' => by rw [hol] at ho'; cases ho'; exact hdeps) (List.all_eq_true.1 hL j (List.mem_range.2 hj))
          have hw := hend vs w hk.rel (fun j hj => hk.known j (hothers j hj))
          rw [hk.act]
          refine wpOp_of_list hol ?_
          have e : wpList P ops (Exit.then (fun a' w' => (((listed.setIfInBounds i true).getD i true = false ∧ ∃ vs, Known a0 ops .any R w0.drew F (listed.setIfInBounds i true) a' w' vs) ∨ ((∀ j, j < ops.size → (listed.setIfInBounds i true).getD j true = true) ∧ Q .normal a' w'))) Q) [ol] (putAll a0 ops.toList 0 vs) w := by
            unfold wpList at hw ⊢
            have hfin : ∀ a' w', Q .normal a' w' → (((listed.setIfInBounds i true).getD i true = false ∧ ∃ vs, Known a0 ops .any R w0.drew F (listed.setIfInBounds i true) a' w' vs) ∨ ((∀ j, j < ops.size → (listed.setIfInBounds i true).getD j true = true) ∧ Q .normal a' w')) := fun a' w' hq => by
              refine .inr ⟨fun j hj => ?_, hq⟩
              have hjs : j < listed.size := by omega
              by_cases hji : j = i
              · subst hji; simp [hjs]
              · rw [getD_set_ne true (Ne.symm hji)]
                have := hothers j (by omega)
                simp [hjs] at this ⊢; exact this
            split
            · rename_i hwant
              rw [if_pos hwant] at hw
              rcases hw with hw | ⟨h1, h2⟩
              · left
                unfold Oper.wp at hw ⊢
                generalize (execOp (putAll a0 ops.toList 0 vs).eval ol).run P w = r at hw
                cases r with
                | ok n w' =>
                  cases n <;> simp only [Oper.upon] at hw ⊢ <;> first
                    | exact hfin _ _ hw
                    | exact Calls.mono hw (fun e w'' he => by cases e <;> first | exact hfin _ _ he | exact he | (obtain ⟨x, y, hxy⟩ := he; exact ⟨x, y, hxy⟩))
                    | exact Rows.mono hw (fun _ _ he => hfin _ _ he)
                | halt x w' => cases x <;> simp only [Oper.upon] at hw ⊢ <;> exact hw
              · exact .inr ⟨h1, by obtain ⟨x, y, hxy⟩ := h2; exact ⟨x, y, hxy⟩⟩
            · rename_i hwant
              rw [if_neg hwant] at hw
              exact hfin _ _ hw
          exact e
        · have hil' : i < last := by omega
          have htl : (ops.toList.take last)[i]? = some o := by rw [List.getElem?_take, if_pos hil']; simpa using ho
          have hok := hops.at_ (ops.toList.take last) 0 i o htl
          rw [Nat.zero_add] at hok
          have hDi : ∀ j ∈ D i, F j (vs j) w := fun j hj => by
            have h1 := List.all_eq_true.1 (List.all_eq_true.1 hD i (List.mem_range.2 hil')) j hj
            exact hk.known j (waits_listed hk.closed _ i j (fun o' ho' => by rw [ho] at ho'; cases ho'; exact hdeps) h1)
          rw [hk.act]
          refine wpOp_of_list ho (hok _ vs w hk.rel hDi (fun v w' hv hR => .inl ⟨by rw [getD_set_ne true hil]; exact hln, upd vs i v, known_step hdst htrans hF hk ho hdeps hv hR⟩))
      · rw [hall i hlt] at hun; cases hun)
    (fun listed a w hs hr hI => by
      rcases hI with ⟨hln, _⟩ | ⟨_, hq⟩
      · have := listed_all hback hs hr last (by omega)
        rw [this] at hln; cases hln
      · exact hq)
  refine key ops.size _ a0 _ (by simp) (by simp [unlisted]) (.inl ⟨by simp [hsz], vs0 a0 ops.toList, ?_, hrefl _, fun i hi => ?_, fun i o _ hi => ?_⟩)
  · refine (putAll_start a0 ops.toList 0 _ (fun i o ho d hd => ?_)).symm
    rw [Nat.zero_add]; unfold vs0; rw [ho]; simp [hd]
  · rcases Nat.lt_or_ge i ops.size with h | h <;> simp [h] at hi
  · rcases Nat.lt_or_ge i ops.size with h | h <;> simp [h] at hi

/-- What is known while some have come up, of what nobody has used up. -/
structure KnownU (a0 : Act) (ops : Array Oper) (md : Region.Mode) (R : World → World → Prop) (w0 : World) (F : Nat → Value → World → Prop) (C : Nat → Nat) (listed : Array Bool) (a : Act) (w : World) (vs : Nat → Value) : Prop where
  act : a = putAll a0 ops.toList 0 vs
  rel : R w0 w
  known : ∀ i, listed.getD i false = true → listed.getD (C i) false = false → F i (vs i) w
  closed : ∀ i o, ops[i]? = some o → listed.getD i false = true → ∀ e ∈ o.after, Region.binds md e = true → listed.getD e.on false = true

/-- Of those that are known while i comes up, the ones that must be known behind it. -/
def stayB (md : Region.Mode) (ops : Array Oper) (C : Nat → Nat) (i j : Nat) : Bool := j != i && C j != i && !waits md ops ops.size i (C j) && !waits md ops ops.size j i

/-- What is to be shown of operation i. -/
def OpOkU (P : Program) (ops : Array Oper) (Q : Exit → Act → World → Prop) (a0 : Act) (R : World → World → Prop) (w0 : World) (F : Nat → Value → World → Prop) (C : Nat → Nat) (D : List Nat) (i : Nat) (o : Oper) : Prop :=
  ∀ (K : Act → World → Prop) (vs : Nat → Value) (w : World), R w0 w → (∀ j ∈ D, F j (vs j) w) →
    (∀ v w', F i v w' → (∀ j u, stayB .any ops C i j = true → F j u w → F j u w') → R w w' → K ((putAll a0 ops.toList 0 vs).put o.dst v) w') →
    wpList P ops (Exit.then K Q) [o] (putAll a0 ops.toList 0 vs) w
def OpsOkU (P : Program) (ops : Array Oper) (Q : Exit → Act → World → Prop) (a0 : Act) (R : World → World → Prop) (w0 : World) (F : Nat → Value → World → Prop) (C : Nat → Nat) (D : Nat → List Nat) : Nat → List Oper → Prop
  | _, [] => True
  | k, o :: r => OpOkU P ops Q a0 R w0 F C (D k) k o ∧ OpsOkU P ops Q a0 R w0 F C D (k + 1) r

theorem OpsOkU.at_ {a0 : Act} {R : World → World → Prop} {w0 : World} {F : Nat → Value → World → Prop} {C : Nat → Nat} {D : Nat → List Nat} : ∀ (l : List Oper) (k : Nat), OpsOkU P ops Q a0 R w0 F C D k l → ∀ i o, l[i]? = some o → OpOkU P ops Q a0 R w0 F C (D (k + i)) (k + i) o := by
  intro l
  induction l with
  | nil => intro k _ i o h; simp at h
  | cons p r ih =>
    intro k h i o hi
    cases i with
    | zero => simp at hi; subst hi; exact h.1
    | succ i =>
      have := ih (k + 1) h.2 i o (by simpa using hi)
      rwa [show k + 1 + i = k + (i + 1) by omega] at this

/-- Whatever order is drawn, where what an operation leaves may be used up by another one (C), and the last operation waits for all the others. -/
theorem wp_region_use {id : Nat} {a0 : Act} {w0 : World} (R : World → World → Prop) (F : Nat → Value → World → Prop) (C : Nat → Nat) (D : Nat → List Nat) (last : Nat) (ol : Oper) (hol : ops[last]? = some ol) (hsz : ops.size = last + 1)
    (hm : P.follows .mixedOrders = true) (hdst : dstsApart ops.toList = true) (hback : backB .any ops = true)
    (hD : ((List.range last).all fun i => (D i).all fun j => waits .any ops ops.size i j && (C j == i || decide (last ≤ C j) || waits .any ops ops.size (C j) i)) = true)
    (hL : ((List.range last).all fun j => waits .any ops ops.size last j) = true)
    (hrefl : ∀ w, R w w) (htrans : ∀ w w' w'', R w w' → R w' w'' → R w w'')
    (hops : OpsOkU P ops Q a0 R w0.drew F C D 0 (ops.toList.take last))
    (hend : ∀ vs w, R w0.drew w → (∀ i, i < last → last ≤ C i → F i (vs i) w) → wpList P ops Q [ol] (putAll a0 ops.toList 0 vs) w) :
    (Code.region id ops true).wp P Q a0 w0 := by
  refine wp_region_any hm ?_
  have hsound : ∀ (listed : Array Bool) (i : Nat) (o : Oper), ops[i]? = some o → (∀ e ∈ o.after, Region.binds .any e = true → listed.getD e.on false = true) → (∀ i o, ops[i]? = some o → listed.getD i false = true → ∀ e ∈ o.after, Region.binds .any e = true → listed.getD e.on false = true) →
      ∀ j, waits .any ops ops.size i j = true → listed.getD j false = true := fun listed i o ho hdeps hcl j hj =>
    waits_listed hcl _ i j (fun o' ho' => by rw [ho] at ho'; cases ho'; exact hdeps) hj
  have key := wpAny_inv (P := P) (ops := ops) (Q := Q) (md := .any) (I := fun listed a w => (listed.getD last true = false ∧ ∃ vs, KnownU a0 ops .any R w0.drew F C listed a w vs) ∨ ((∀ i, i < ops.size → listed.getD i true = true) ∧ Q .normal a w))
    (fun listed a w i hs hi hI => by
      obtain ⟨hun, o, ho, hdeps⟩ := mem_ready.1 hi
      have hlt : i < ops.size := (Array.getElem?_eq_some_iff.1 ho).1
      have hunf : listed.getD i false = false := by
        have hil : i < listed.size := by omega
        simp [hil] at hun ⊢; exact hun
      rcases hI with ⟨hln, vs, hk⟩ | ⟨hall, _⟩
      · by_cases hil : i = last
        · subst hil
          rw [hol] at ho; cases ho
          have hothers : ∀ j, j < i → listed.getD j false = true := fun j hj => hsound listed i ol hol hdeps hk.closed j (List.all_eq_true.1 hL j (List.mem_range.2 hj))
          have hbig : ∀ j, i ≤ j → listed.getD j false = false := fun j hj => by
            rcases Nat.lt_or_ge j listed.size with h | h
            · have : j = i := by omega
              subst this; exact hunf
            · simp [Array.getElem?_eq_none h]
          have hw := hend vs w hk.rel (fun j hj hC => hk.known j (hothers j hj) (hbig _ hC))
          rw [hk.act]
          refine wpOp_of_list hol ?_
          have hfin : ∀ a' w', Q .normal a' w' → (((listed.setIfInBounds i true).getD i true = false ∧ ∃ vs, KnownU a0 ops .any R w0.drew F C (listed.setIfInBounds i true) a' w' vs) ∨ ((∀ j, j < ops.size → (listed.setIfInBounds i true).getD j true = true) ∧ Q .normal a' w')) := fun a' w' hq => by
            refine .inr ⟨fun j hj => ?_, hq⟩
            have hjs : j < listed.size := by omega
            by_cases hji : j = i
            · subst hji; simp [hjs]
            · rw [getD_set_ne true (Ne.symm hji)]
              have := hothers j (by omega)
              simp [hjs] at this ⊢; exact this
          unfold wpList at hw ⊢
          split
          · rename_i hwant
            rw [if_pos hwant] at hw
            rcases hw with hw | ⟨h1, h2⟩
            · left
              unfold Oper.wp at hw ⊢
              generalize (execOp (putAll a0 ops.toList 0 vs).eval ol).run P w = r at hw
              cases r with
              | ok n w' =>
                cases n <;> simp only [Oper.upon] at hw ⊢ <;> first
                  | exact hfin _ _ hw
                  | exact Calls.mono hw (fun e w'' he => by cases e <;> first | exact hfin _ _ he | exact he | (obtain ⟨x, y, hxy⟩ := he; exact ⟨x, y, hxy⟩))
                  | exact Rows.mono hw (fun _ _ he => hfin _ _ he)
              | halt x w' => cases x <;> simp only [Oper.upon] at hw ⊢ <;> exact hw
            · exact .inr ⟨h1, by obtain ⟨x, y, hxy⟩ := h2; exact ⟨x, y, hxy⟩⟩
          · rename_i hwant
            rw [if_neg hwant] at hw
            exact hfin _ _ hw
        · have hil' : i < last := by omega
          have htl : (ops.toList.take last)[i]? = some o := by rw [List.getElem?_take, if_pos hil']; simpa using ho
          have hok := hops.at_ (ops.toList.take last) 0 i o htl
          rw [Nat.zero_add] at hok
          have hDi : ∀ j ∈ D i, F j (vs j) w := fun j hj => by
            have h1 := List.all_eq_true.1 (List.all_eq_true.1 hD i (List.mem_range.2 hil')) j hj
            simp only [Bool.and_eq_true, Bool.or_eq_true, beq_iff_eq, decide_eq_true_eq] at h1
            refine hk.known j (hsound listed i o ho hdeps hk.closed j h1.1) ?_
            rcases h1.2 with (h2 | h2) | h2
            · rw [h2]; exact hunf
            · rcases Nat.lt_or_ge (C j) listed.size with h | h
              · have : C j = last := by omega
                rw [this]
                have hll : last < listed.size := by omega
                simp [hll] at hln ⊢; exact hln
              · simp [Array.getElem?_eq_none h]
            · cases hc : listed.getD (C j) false with
              | false => rfl
              | true =>
                have hcl : C j < ops.size := by
                  rcases Nat.lt_or_ge (C j) ops.size with h | h
                  · exact h
                  · rw [← hs] at h; simp [Array.getElem?_eq_none h] at hc
                have := hsound listed (C j) ops[C j] (Array.getElem?_eq_getElem hcl) (hk.closed _ _ (Array.getElem?_eq_getElem hcl) hc) hk.closed i h2
                rw [hunf] at this; cases this
          rw [hk.act]
          refine wpOp_of_list ho (hok _ vs w hk.rel hDi (fun v w' hv hst hR => .inl ⟨by rw [getD_set_ne true hil]; exact hln, upd vs i v, ?_, htrans _ _ _ hk.rel hR, fun j hj hC => ?_, fun j oj hoj hj e he hb => ?_⟩))
          · have := putAll_upd (a := a0) (v := v) ops.toList 0 i o vs hdst (by simpa using ho)
            rw [this, Nat.zero_add]
          · by_cases hji : j = i
            · subst hji; simp only [upd, if_true]; exact hv
            · rw [getD_set_ne false (Ne.symm hji)] at hj
              simp only [upd, if_neg hji]
              have hCi : C j ≠ i := fun e => by
                rw [e] at hC
                have hil : i < listed.size := by omega
                simp [hil] at hC
              rw [getD_set_ne false (Ne.symm hCi)] at hC
              refine hst j _ ?_ (hk.known j hj hC)
              unfold stayB
              simp only [Bool.and_eq_true, bne_iff_ne, ne_eq, Bool.not_eq_true']
              refine ⟨⟨⟨hji, hCi⟩, ?_⟩, ?_⟩
              · cases hw : waits .any ops ops.size i (C j) with
                | false => rfl
                | true => rw [hsound listed i o ho hdeps hk.closed (C j) hw] at hC; cases hC
              · cases hw : waits .any ops ops.size j i with
                | false => rfl
                | true =>
                  have hjl : j < ops.size := by
                    rcases Nat.lt_or_ge j ops.size with h | h
                    · exact h
                    · rw [← hs] at h; simp [Array.getElem?_eq_none h] at hj
                  have := hsound listed j ops[j] (Array.getElem?_eq_getElem hjl) (hk.closed _ _ (Array.getElem?_eq_getElem hjl) hj) hk.closed i hw
                  rw [hunf] at this; cases this
          · by_cases hji : j = i
            · subst hji
              rw [ho] at hoj; cases hoj
              exact getD_set_true (hdeps e he hb)
            · rw [getD_set_ne false (Ne.symm hji)] at hj
              exact getD_set_true (hk.closed j oj hoj hj e he hb)
      · rw [hall i hlt] at hun; cases hun)
    (fun listed a w hs hr hI => by
      rcases hI with ⟨hln, _⟩ | ⟨_, hq⟩
      · have := listed_all hback hs hr last (by omega)
        rw [this] at hln; cases hln
      · exact hq)
  refine key ops.size _ a0 _ (by simp) (by simp [unlisted]) (.inl ⟨by simp [hsz], vs0 a0 ops.toList, ?_, hrefl _, fun i hi => ?_, fun i o _ hi => ?_⟩)
  · refine (putAll_start a0 ops.toList 0 _ (fun i o ho d hd => ?_)).symm
    rw [Nat.zero_add]; unfold vs0; rw [ho]; simp [hd]
  · rcases Nat.lt_or_ge i ops.size with h | h <;> simp [h] at hi
  · rcases Nat.lt_or_ge i ops.size with h | h <;> simp [h] at hi

/-- What is known while some have come up, of what nobody has used up; I0: what held to begin with, till operation ci. -/
structure KnownO (a0 : Act) (ops : Array Oper) (md : Region.Mode) (R : World → World → Prop) (w0 : World) (F : Nat → Value → World → Prop) (C : Nat → Nat) (I0 : World → Prop) (ci : Nat) (listed : Array Bool) (a : Act) (w : World) (vs : Nat → Value) : Prop where
  act : a = putAll a0 ops.toList 0 vs
  rel : R w0 w
  known : ∀ i, listed.getD i false = true → listed.getD (C i) false = false → F i (vs i) w
  closed : ∀ i o, ops[i]? = some o → listed.getD i false = true → ∀ e ∈ o.after, Region.binds md e = true → listed.getD e.on false = true
  init : listed.getD ci false = false → I0 w

/-- What is to be shown of operation i. -/
def OpOkO (P : Program) (ops : Array Oper) (Q : Exit → Act → World → Prop) (a0 : Act) (R : World → World → Prop) (w0 : World) (F : Nat → Value → World → Prop) (C : Nat → Nat) (I0 : World → Prop) (ci : Nat) (D : List Nat) (i : Nat) (o : Oper) : Prop :=
  ∀ (K : Act → World → Prop) (vs : Nat → Value) (w : World), R w0 w → (∀ j ∈ D, F j (vs j) w) → (i = ci → I0 w) →
    (∀ v w', F i v w' → (∀ j u, stayB .any ops C i j = true → F j u w → F j u w') → (i ≠ ci → waits .any ops ops.size i ci = false → I0 w → I0 w') → R w w' → K ((putAll a0 ops.toList 0 vs).put o.dst v) w') →
    wpList P ops (Exit.then K Q) [o] (putAll a0 ops.toList 0 vs) w
def OpsOkO (P : Program) (ops : Array Oper) (Q : Exit → Act → World → Prop) (a0 : Act) (R : World → World → Prop) (w0 : World) (F : Nat → Value → World → Prop) (C : Nat → Nat) (I0 : World → Prop) (ci : Nat) (D : Nat → List Nat) : Nat → List Oper → Prop
  | _, [] => True
  | k, o :: r => OpOkO P ops Q a0 R w0 F C I0 ci (D k) k o ∧ OpsOkO P ops Q a0 R w0 F C I0 ci D (k + 1) r

theorem OpsOkO.at_ {a0 : Act} {R : World → World → Prop} {w0 : World} {F : Nat → Value → World → Prop} {C : Nat → Nat} {I0 : World → Prop} {ci : Nat} {D : Nat → List Nat} : ∀ (l : List Oper) (k : Nat), OpsOkO P ops Q a0 R w0 F C I0 ci D k l → ∀ i o, l[i]? = some o → OpOkO P ops Q a0 R w0 F C I0 ci (D (k + i)) (k + i) o := by
  intro l
  induction l with
  | nil => intro k _ i o h; simp at h
  | cons p r ih =>
    intro k h i o hi
    cases i with
    | zero => simp at hi; subst hi; exact h.1
    | succ i =>
      have := ih (k + 1) h.2 i o (by simpa using hi)
      rwa [show k + 1 + i = k + (i + 1) by omega] at this

/-- Whatever order is drawn, where what an operation leaves may be used up by another one (C), the last operation waits for all the others, and what held to begin with (I0) is used up by operation ci. -/
theorem wp_region_obj {id : Nat} {a0 : Act} {w0 : World} (R : World → World → Prop) (F : Nat → Value → World → Prop) (C : Nat → Nat) (I0 : World → Prop) (ci : Nat) (D : Nat → List Nat) (last : Nat) (ol : Oper) (hol : ops[last]? = some ol) (hsz : ops.size = last + 1)
    (hm : P.follows .mixedOrders = true) (hdst : dstsApart ops.toList = true) (hback : backB .any ops = true)
    (hD : ((List.range last).all fun i => (D i).all fun j => waits .any ops ops.size i j && (C j == i || decide (last ≤ C j) || waits .any ops ops.size (C j) i)) = true)
    (hL : ((List.range last).all fun j => waits .any ops ops.size last j) = true)
    (hrefl : ∀ w, R w w) (htrans : ∀ w w' w'', R w w' → R w' w'' → R w w'')
    (hI0 : I0 w0.drew) (hops : OpsOkO P ops Q a0 R w0.drew F C I0 ci D 0 (ops.toList.take last))
    (hend : ∀ vs w, R w0.drew w → (∀ i, i < last → last ≤ C i → F i (vs i) w) → wpList P ops Q [ol] (putAll a0 ops.toList 0 vs) w) :
    (Code.region id ops true).wp P Q a0 w0 := by
  refine wp_region_any hm ?_
  have hsound : ∀ (listed : Array Bool) (i : Nat) (o : Oper), ops[i]? = some o → (∀ e ∈ o.after, Region.binds .any e = true → listed.getD e.on false = true) → (∀ i o, ops[i]? = some o → listed.getD i false = true → ∀ e ∈ o.after, Region.binds .any e = true → listed.getD e.on false = true) →
      ∀ j, waits .any ops ops.size i j = true → listed.getD j false = true := fun listed i o ho hdeps hcl j hj =>
    waits_listed hcl _ i j (fun o' ho' => by rw [ho] at ho'; cases ho'; exact hdeps) hj
  have key := wpAny_inv (P := P) (ops := ops) (Q := Q) (md := .any) (I := fun listed a w => (listed.getD last true = false ∧ ∃ vs, KnownO a0 ops .any R w0.drew F C I0 ci listed a w vs) ∨ ((∀ i, i < ops.size → listed.getD i true = true) ∧ Q .normal a w))
    (fun listed a w i hs hi hI => by
      obtain ⟨hun, o, ho, hdeps⟩ := mem_ready.1 hi
      have hlt : i < ops.size := (Array.getElem?_eq_some_iff.1 ho).1
      have hunf : listed.getD i false = false := by
        have hil : i < listed.size := by omega
        simp [hil] at hun ⊢; exact hun
      rcases hI with ⟨hln, vs, hk⟩ | ⟨hall, _⟩
      · by_cases hil : i = last
        · subst hil
          rw [hol] at ho; cases ho
          have hothers : ∀ j, j < i → listed.getD j false = true := fun j hj => hsound listed i ol hol hdeps hk.closed j (List.all_eq_true.1 hL j (List.mem_range.2 hj))
          have hbig : ∀ j, i ≤ j → listed.getD j false = false := fun j hj => by
            rcases Nat.lt_or_ge j listed.size with h | h
            · have : j = i := by omega
              subst this; exact hunf
            · simp [Array.getElem?_eq_none h]
          have hw := hend vs w hk.rel (fun j hj hC => hk.known j (hothers j hj) (hbig _ hC))
          rw [hk.act]
          refine wpOp_of_list hol ?_
          have hfin : ∀ a' w', Q .normal a' w' → (((listed.setIfInBounds i true).getD i true = false ∧ ∃ vs, KnownO a0 ops .any R w0.drew F C I0 ci (listed.setIfInBounds i true) a' w' vs) ∨ ((∀ j, j < ops.size → (listed.setIfInBounds i true).getD j true = true) ∧ Q .normal a' w')) := fun a' w' hq => by
            refine .inr ⟨fun j hj => ?_, hq⟩
            have hjs : j < listed.size := by omega
            by_cases hji : j = i
            · subst hji; simp [hjs]
            · rw [getD_set_ne true (Ne.symm hji)]
              have := hothers j (by omega)
              simp [hjs] at this ⊢; exact this
          unfold wpList at hw ⊢
          split
          · rename_i hwant
            rw [if_pos hwant] at hw
            rcases hw with hw | ⟨h1, h2⟩
            · left
              unfold Oper.wp at hw ⊢
              generalize (execOp (putAll a0 ops.toList 0 vs).eval ol).run P w = r at hw
              cases r with
              | ok n w' =>
                cases n <;> simp only [Oper.upon] at hw ⊢ <;> first
                  | exact hfin _ _ hw
                  | exact Calls.mono hw (fun e w'' he => by cases e <;> first | exact hfin _ _ he | exact he | (obtain ⟨x, y, hxy⟩ := he; exact ⟨x, y, hxy⟩))
                  | exact Rows.mono hw (fun _ _ he => hfin _ _ he)
              | halt x w' => cases x <;> simp only [Oper.upon] at hw ⊢ <;> exact hw
            · exact .inr ⟨h1, by obtain ⟨x, y, hxy⟩ := h2; exact ⟨x, y, hxy⟩⟩
          · rename_i hwant
            rw [if_neg hwant] at hw
            exact hfin _ _ hw
        · have hil' : i < last := by omega
          have htl : (ops.toList.take last)[i]? = some o := by rw [List.getElem?_take, if_pos hil']; simpa using ho
          have hok := hops.at_ (ops.toList.take last) 0 i o htl
          rw [Nat.zero_add] at hok
          have hDi : ∀ j ∈ D i, F j (vs j) w := fun j hj => by
            have h1 := List.all_eq_true.1 (List.all_eq_true.1 hD i (List.mem_range.2 hil')) j hj
            simp only [Bool.and_eq_true, Bool.or_eq_true, beq_iff_eq, decide_eq_true_eq] at h1
            refine hk.known j (hsound listed i o ho hdeps hk.closed j h1.1) ?_
            rcases h1.2 with (h2 | h2) | h2
            · rw [h2]; exact hunf
            · rcases Nat.lt_or_ge (C j) listed.size with h | h
              · have : C j = last := by omega
                rw [this]
                have hll : last < listed.size := by omega
                simp [hll] at hln ⊢; exact hln
              · simp [Array.getElem?_eq_none h]
            · cases hc : listed.getD (C j) false with
              | false => rfl
              | true =>
                have hcl : C j < ops.size := by
                  rcases Nat.lt_or_ge (C j) ops.size with h | h
                  · exact h
                  · rw [← hs] at h; simp [Array.getElem?_eq_none h] at hc
                have := hsound listed (C j) ops[C j] (Array.getElem?_eq_getElem hcl) (hk.closed _ _ (Array.getElem?_eq_getElem hcl) hc) hk.closed i h2
                rw [hunf] at this; cases this
          rw [hk.act]
          refine wpOp_of_list ho (hok _ vs w hk.rel hDi (fun e => hk.init (by rw [← e]; exact hunf)) (fun v w' hv hst hkeep hR => .inl ⟨by rw [getD_set_ne true hil]; exact hln, upd vs i v, ?_, htrans _ _ _ hk.rel hR, fun j hj hC => ?_, fun j oj hoj hj e he hb => ?_, fun hci => ?_⟩))
          · have := putAll_upd (a := a0) (v := v) ops.toList 0 i o vs hdst (by simpa using ho)
            rw [this, Nat.zero_add]
          · by_cases hji : j = i
            · subst hji; simp only [upd, if_true]; exact hv
            · rw [getD_set_ne false (Ne.symm hji)] at hj
              simp only [upd, if_neg hji]
              have hCi : C j ≠ i := fun e => by
                rw [e] at hC
                have hil : i < listed.size := by omega
                simp [hil] at hC
              rw [getD_set_ne false (Ne.symm hCi)] at hC
              refine hst j _ ?_ (hk.known j hj hC)
              unfold stayB
              simp only [Bool.and_eq_true, bne_iff_ne, ne_eq, Bool.not_eq_true']
              refine ⟨⟨⟨hji, hCi⟩, ?_⟩, ?_⟩
              · cases hw : waits .any ops ops.size i (C j) with
                | false => rfl
                | true => rw [hsound listed i o ho hdeps hk.closed (C j) hw] at hC; cases hC
              · cases hw : waits .any ops ops.size j i with
                | false => rfl
                | true =>
                  have hjl : j < ops.size := by
                    rcases Nat.lt_or_ge j ops.size with h | h
                    · exact h
                    · rw [← hs] at h; simp [Array.getElem?_eq_none h] at hj
                  have := hsound listed j ops[j] (Array.getElem?_eq_getElem hjl) (hk.closed _ _ (Array.getElem?_eq_getElem hjl) hj) hk.closed i hw
                  rw [hunf] at this; cases this
          · by_cases hji : j = i
            · subst hji
              rw [ho] at hoj; cases hoj
              exact getD_set_true (hdeps e he hb)
            · rw [getD_set_ne false (Ne.symm hji)] at hj
              exact getD_set_true (hk.closed j oj hoj hj e he hb)
          · have hic : i ≠ ci := fun e => by
              rw [← e] at hci
              have hil : i < listed.size := by omega
              simp [hil] at hci
            rw [getD_set_ne false hic] at hci
            refine hkeep hic ?_ (hk.init hci)
            cases hw : waits .any ops ops.size i ci with
            | false => rfl
            | true => rw [hsound listed i o ho hdeps hk.closed ci hw] at hci; cases hci
      · rw [hall i hlt] at hun; cases hun)
    (fun listed a w hs hr hI => by
      rcases hI with ⟨hln, _⟩ | ⟨_, hq⟩
      · have := listed_all hback hs hr last (by omega)
        rw [this] at hln; cases hln
      · exact hq)
  refine key ops.size _ a0 _ (by simp) (by simp [unlisted]) (.inl ⟨by simp [hsz], vs0 a0 ops.toList, ?_, hrefl _, fun i hi => ?_, fun i o _ hi => ?_, fun _ => hI0⟩)
  · refine (putAll_start a0 ops.toList 0 _ (fun i o ho d hd => ?_)).symm
    rw [Nat.zero_add]; unfold vs0; rw [ho]; simp [hd]
  · rcases Nat.lt_or_ge i ops.size with h | h <;> simp [h] at hi
  · rcases Nat.lt_or_ge i ops.size with h | h <;> simp [h] at hi

/-- Whatever order is drawn. -/
theorem wp_region_inv {id : Nat} {a0 : Act} {w0 : World} (R : World → World → Prop) (F : Nat → Value → World → Prop) (D : Nat → List Nat)
    (hm : P.follows .mixedOrders = true) (hdst : dstsApart ops.toList = true) (hback : backB .any ops = true)
    (hD : ((List.range ops.size).all fun i => (D i).all fun j => waits .any ops ops.size i j) = true)
    (hrefl : ∀ w, R w w) (htrans : ∀ w w' w'', R w w' → R w' w'' → R w w'') (hF : ∀ i v w w', F i v w → R w w' → F i v w')
    (hops : OpsOk P ops Q a0 R w0.drew F D 0 ops.toList)
    (hend : ∀ vs w, R w0.drew w → (∀ i, i < ops.size → F i (vs i) w) → Q .normal (putAll a0 ops.toList 0 vs) w) :
    (Code.region id ops true).wp P Q a0 w0 := by
  refine wp_region_any hm ?_
  have key := wpAny_inv (P := P) (ops := ops) (Q := Q) (md := .any) (I := fun listed a w => ∃ vs, Known a0 ops .any R w0.drew F listed a w vs)
    (fun listed a w i hs hi ⟨vs, hk⟩ => by
      obtain ⟨hun, o, ho, hdeps⟩ := mem_ready.1 hi
      have hok := hops.at_ ops.toList 0 i o (by simpa using ho)
      rw [Nat.zero_add] at hok
      have hlt : i < ops.size := (Array.getElem?_eq_some_iff.1 ho).1
      have hDi : ∀ j ∈ D i, F j (vs j) w := fun j hj => by
        have h1 := List.all_eq_true.1 (List.all_eq_true.1 hD i (List.mem_range.2 hlt)) j hj
        exact hk.known j (waits_listed hk.closed _ i j (fun o' ho' => by rw [ho] at ho'; cases ho'; exact hdeps) h1)
      have hw := hok (fun a' w' => ∃ vs, Known a0 ops .any R w0.drew F (listed.setIfInBounds i true) a' w' vs) vs w hk.rel hDi (fun v w' hv hR => by
        refine ⟨upd vs i v, ?_, htrans _ _ _ hk.rel hR, fun j hj => ?_, fun j oj hoj hj e he hb => ?_⟩
        · have := putAll_upd (a := a0) (v := v) ops.toList 0 i o vs hdst (by simpa using ho)
          rw [this, Nat.zero_add]
        · by_cases hji : j = i
          · subst hji; simp only [upd, if_true]; exact hv
          · rw [getD_set_ne false (Ne.symm hji)] at hj
            simp only [upd, if_neg hji]
            exact hF _ _ _ _ (hk.known j hj) hR
        · by_cases hji : j = i
          · subst hji
            rw [ho] at hoj; cases hoj
            exact getD_set_true (hdeps e he hb)
          · rw [getD_set_ne false (Ne.symm hji)] at hj
            exact getD_set_true (hk.closed j oj hoj hj e he hb))
      rw [hk.act]
      unfold wpOp
      simp only [ho]
      unfold wpList at hw
      split
      · rename_i hwant
        rw [if_pos hwant] at hw
        rcases hw with hw | ⟨h1, h2⟩
        · left
          unfold Oper.wp at hw ⊢
          generalize (execOp (putAll a0 ops.toList 0 vs).eval o).run P w = r at hw
          cases r with
          | ok n w' =>
            cases n <;> simp only [Oper.upon] at hw ⊢ <;> first
              | exact hw
              | exact Calls.mono hw (fun e w'' he => by cases e <;> first | exact he | (obtain ⟨x, y, hxy⟩ := he; exact ⟨x, y, hxy⟩))
              | exact Rows.mono hw (fun _ _ he => he)
          | halt x w' => cases x <;> simp only [Oper.upon] at hw ⊢ <;> exact hw
        · exact .inr ⟨h1, by obtain ⟨x, y, hxy⟩ := h2; exact ⟨x, y, hxy⟩⟩
      · rename_i hwant
        rw [if_neg hwant] at hw
        exact hw)
    (fun listed a w hs hr ⟨vs, hk⟩ => by
      rw [hk.act]
      refine hend vs w hk.rel (fun i hi => hk.known i ?_)
      have := listed_all hback hs hr i hi
      have hlt : i < listed.size := by omega
      simp [hlt] at this ⊢; exact this)
  refine key ops.size _ a0 _ (by simp) ?_ ⟨vs0 a0 ops.toList, ?_, hrefl _, fun i hi => ?_, fun i o _ hi => ?_⟩
  · simp [unlisted]
  · refine (putAll_start a0 ops.toList 0 _ (fun i o ho d hd => ?_)).symm
    rw [Nat.zero_add]; unfold vs0; rw [ho]; simp [hd]
  · rcases Nat.lt_or_ge i ops.size with h | h <;> simp [h] at hi
  · rcases Nat.lt_or_ge i ops.size with h | h <;> simp [h] at hi
end

theorem opsOk_cons {P : Program} {ops : Array Oper} {Q : Exit → Act → World → Prop} {a0 : Act} {R : World → World → Prop} {w0 : World} {F : Nat → Value → World → Prop} {D : Nat → List Nat} {k : Nat} {o : Oper} {r : List Oper}
    (h : OpOk P ops Q a0 R w0 F (D k) k o) (h' : OpsOk P ops Q a0 R w0 F D (k + 1) r) : OpsOk P ops Q a0 R w0 F D k (o :: r) := ⟨h, h'⟩
theorem opsOkU_cons {P : Program} {ops : Array Oper} {Q : Exit → Act → World → Prop} {a0 : Act} {R : World → World → Prop} {w0 : World} {F : Nat → Value → World → Prop} {C : Nat → Nat} {D : Nat → List Nat} {k : Nat} {o : Oper} {r : List Oper}
    (h : OpOkU P ops Q a0 R w0 F C (D k) k o) (h' : OpsOkU P ops Q a0 R w0 F C D (k + 1) r) : OpsOkU P ops Q a0 R w0 F C D k (o :: r) := ⟨h, h'⟩
theorem opsOkU_nil {P : Program} {ops : Array Oper} {Q : Exit → Act → World → Prop} {a0 : Act} {R : World → World → Prop} {w0 : World} {F : Nat → Value → World → Prop} {C : Nat → Nat} {D : Nat → List Nat} {k : Nat} : OpsOkU P ops Q a0 R w0 F C D k [] := trivial
theorem opsOkO_cons {P : Program} {ops : Array Oper} {Q : Exit → Act → World → Prop} {a0 : Act} {R : World → World → Prop} {w0 : World} {F : Nat → Value → World → Prop} {C : Nat → Nat} {I0 : World → Prop} {ci : Nat} {D : Nat → List Nat} {k : Nat} {o : Oper} {r : List Oper}
    (h : OpOkO P ops Q a0 R w0 F C I0 ci (D k) k o) (h' : OpsOkO P ops Q a0 R w0 F C I0 ci D (k + 1) r) : OpsOkO P ops Q a0 R w0 F C I0 ci D k (o :: r) := ⟨h, h'⟩
theorem opsOkO_nil {P : Program} {ops : Array Oper} {Q : Exit → Act → World → Prop} {a0 : Act} {R : World → World → Prop} {w0 : World} {F : Nat → Value → World → Prop} {C : Nat → Nat} {I0 : World → Prop} {ci : Nat} {D : Nat → List Nat} {k : Nat} : OpsOkO P ops Q a0 R w0 F C I0 ci D k [] := trivial
theorem opsOk_nil {P : Program} {ops : Array Oper} {Q : Exit → Act → World → Prop} {a0 : Act} {R : World → World → Prop} {w0 : World} {F : Nat → Value → World → Prop} {D : Nat → List Nat} {k : Nat} : OpsOk P ops Q a0 R w0 F D k [] := trivial

/-- What each operation leaves, and whether that hangs on no memory. -/
def factOf (L : List (Bool × (Value → World → Prop))) (i : Nat) : Value → World → Prop := (L.getD i (true, fun _ _ => True)).2
theorem fact_stays {L : List (Bool × (Value → World → Prop))} {R : World → World → Prop} (h : ∀ p ∈ L, ∀ v w w', p.2 v w → R w w' → p.2 v w') : ∀ i v w w', factOf L i v w → R w w' → factOf L i v w' := by
  intro i v w w' hv hR
  unfold factOf at *
  rcases Nat.lt_or_ge i L.length with hi | hi
  · have e : L.getD i (true, fun _ _ => True) = L[i] := by simp [List.getD, hi]
    rw [e] at hv ⊢
    exact h _ (List.getElem_mem hi) _ _ _ hv hR
  · have e : L.getD i (true, fun _ _ => True) = (true, fun _ _ => True) := by simp [List.getD, hi]
    rw [e]; trivial
theorem fact_solid {P : Array Oper} {C : Nat → Nat} {L : List (Bool × (Value → World → Prop))} (h : ∀ p ∈ L, p.1 = true → ∀ v w w', p.2 v w → p.2 v w') (i : Nat) (hb : ((List.range L.length).all fun j => !stayB .any P C i j || (L.getD j (true, fun _ _ => True)).1) = true) {w w' : World} :
    ∀ j u, stayB .any P C i j = true → factOf L j u w → factOf L j u w' := by
  intro j u hs hv
  unfold factOf at *
  rcases Nat.lt_or_ge j L.length with hj | hj
  · have e : L.getD j (true, fun _ _ => True) = L[j] := by simp [List.getD, hj]
    have h1 := List.all_eq_true.1 hb j (List.mem_range.2 hj)
    rw [hs, e] at h1
    rw [e] at hv ⊢
    exact h _ (List.getElem_mem hj) (by simpa using h1) _ _ _ hv
  · have e : L.getD j (true, fun _ _ => True) = (true, fun _ _ => True) := by simp [List.getD, hj]
    rw [e]; trivial

/-- It stays so. -/
def Stable (R : World → World → Prop) (f : Value → World → Prop) : Prop := ∀ v w w', f v w → R w w' → f v w'
/-- It is this value. -/
def IsV (x : Value) : Value → World → Prop := fun v _ => v = x
/-- It is a new row of these cells. -/
def NewRow (n : Nat) (xs : List Value) : Value → World → Prop := fun v W => ∃ p, v = .slice (some ⟨p, 0, none⟩) n n ∧ Rd W 1 v n xs

theorem stable_val {R : World → World → Prop} (x : Value) : Stable R (IsV x) := fun _ _ _ h _ => h
theorem stable_new {n : Nat} {xs : List Value} : Stable (Mod (fun _ => False)) (NewRow n xs) := fun _ _ _ ⟨p, h, hr⟩ hm => ⟨p, h, hr.keepA hm (fun _ _ e => e.elim)⟩
theorem stable_list {R : World → World → Prop} {L : List (Value → World → Prop)} (h : ∀ f ∈ L, Stable R f) : ∀ i v w w', (L.getD i (fun _ _ => True)) v w → R w w' → (L.getD i (fun _ _ => True)) v w' := by
  intro i v w w' hv hR
  rcases Nat.lt_or_ge i L.length with hi | hi
  · have e : L.getD i (fun _ _ => True) = L[i] := by simp [List.getD, hi]
    rw [e] at hv ⊢
    exact h _ (List.getElem_mem hi) _ _ _ hv hR
  · have e : L.getD i (fun _ _ => True) = fun _ _ => True := by simp [List.getD, hi]
    rw [e]; trivial
end Mile
