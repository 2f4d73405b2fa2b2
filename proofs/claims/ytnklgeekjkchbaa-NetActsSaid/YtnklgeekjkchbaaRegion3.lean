/- A region with one operation that turns memory: what held to begin with holds for all that it waits for. -/
import Derived.Test.YtnklgeekjkchbaaRegion2
namespace Mile
open Go Go.RowKit
section
variable {P : Program} {ops : Array Oper} {Q : Exit → Act → World → Prop} {md : Region.Mode}
/-- What is to be shown of operation i: as OpOkO; what held to begin with (I0) is there for all operations that ci waits for. -/
def OpOkM (P : Program) (ops : Array Oper) (Q : Exit → Act → World → Prop) (a0 : Act) (R : World → World → Prop) (w0 : World) (F : Nat → Value → World → Prop) (C : Nat → Nat) (I0 : World → Prop) (ci last : Nat) (D : List Nat) (i : Nat) (o : Oper) : Prop :=
  ∀ (K : Act → World → Prop) (vs : Nat → Value) (w : World), R w0 w → (∀ j ∈ D, F j (vs j) w) → (i = ci ∨ waits .any ops ops.size ci i = true → I0 w) → vs last = vs0 a0 ops.toList last →
    (∀ v w', F i v w' → (∀ j u, stayB .any ops C i j = true → F j u w → F j u w') → (i ≠ ci → waits .any ops ops.size i ci = false → I0 w → I0 w') → R w w' → K ((putAll a0 ops.toList 0 vs).put o.dst v) w') →
    wpList P ops (Exit.then K Q) [o] (putAll a0 ops.toList 0 vs) w
def OpsOkM (P : Program) (ops : Array Oper) (Q : Exit → Act → World → Prop) (a0 : Act) (R : World → World → Prop) (w0 : World) (F : Nat → Value → World → Prop) (C : Nat → Nat) (I0 : World → Prop) (ci last : Nat) (D : Nat → List Nat) : Nat → List Oper → Prop
  | _, [] => True
  | k, o :: r => OpOkM P ops Q a0 R w0 F C I0 ci last (D k) k o ∧ OpsOkM P ops Q a0 R w0 F C I0 ci last D (k + 1) r
theorem opsOkM_cons {a0 : Act} {R : World → World → Prop} {w0 : World} {F : Nat → Value → World → Prop} {C : Nat → Nat} {I0 : World → Prop} {ci last : Nat} {D : Nat → List Nat} {k : Nat} {o : Oper} {r : List Oper} (h : OpOkM P ops Q a0 R w0 F C I0 ci last (D k) k o) (t : OpsOkM P ops Q a0 R w0 F C I0 ci last D (k + 1) r) : OpsOkM P ops Q a0 R w0 F C I0 ci last D k (o :: r) := ⟨h, t⟩
theorem opsOkM_nil {a0 : Act} {R : World → World → Prop} {w0 : World} {F : Nat → Value → World → Prop} {C : Nat → Nat} {I0 : World → Prop} {ci last : Nat} {D : Nat → List Nat} {k : Nat} : OpsOkM P ops Q a0 R w0 F C I0 ci last D k [] := trivial
theorem OpsOkM.at_ {a0 : Act} {R : World → World → Prop} {w0 : World} {F : Nat → Value → World → Prop} {C : Nat → Nat} {I0 : World → Prop} {ci last : Nat} {D : Nat → List Nat} : ∀ (l : List Oper) (k : Nat), OpsOkM P ops Q a0 R w0 F C I0 ci last D k l → ∀ i o, l[i]? = some o → OpOkM P ops Q a0 R w0 F C I0 ci last (D (k + i)) (k + i) o := by
  intro l
  induction l with
  | nil => intro k _ i o h; simp at h
  | cons p r ih =>
    intro k h i o hi
    cases i with
    | zero => simp at hi; subst hi; exact h.1
    | succ i =>
      have := ih (k + 1) h.2 i o (by simpa using hi)
      rwa [show k + 1 + i = k + (i + 1) by omega] at this
/-- Whatever order is drawn. -/
theorem wp_region_mut {id : Nat} {a0 : Act} {w0 : World} (R : World → World → Prop) (F : Nat → Value → World → Prop) (C : Nat → Nat) (I0 : World → Prop) (ci : Nat) (D : Nat → List Nat) (last : Nat) (ol : Oper) (hol : ops[last]? = some ol) (hsz : ops.size = last + 1)
    (hm : P.follows .mixedOrders = true) (hdst : dstsApart ops.toList = true) (hback : backB .any ops = true)
    (hD : ((List.range last).all fun i => (D i).all fun j => waits .any ops ops.size i j && (C j == i || decide (last ≤ C j) || waits .any ops ops.size (C j) i)) = true)
    (hL : ((List.range last).all fun j => waits .any ops ops.size last j) = true)
    (hrefl : ∀ w, R w w) (htrans : ∀ w w' w'', R w w' → R w' w'' → R w w'')
    (hI0 : I0 w0.drew) (hops : OpsOkM P ops Q a0 R w0.drew F C I0 ci last D 0 (ops.toList.take last))
    (hend : ∀ vs w, R w0.drew w → (∀ i, i < last → last ≤ C i → F i (vs i) w) → wpList P ops Q [ol] (putAll a0 ops.toList 0 vs) w) :
    (Code.region id ops true).wp P Q a0 w0 := by
  refine wp_region_any hm ?_
  have hsound : ∀ (listed : Array Bool) (i : Nat) (o : Oper), ops[i]? = some o → (∀ e ∈ o.after, Region.binds .any e = true → listed.getD e.on false = true) → (∀ i o, ops[i]? = some o → listed.getD i false = true → ∀ e ∈ o.after, Region.binds .any e = true → listed.getD e.on false = true) →
      ∀ j, waits .any ops ops.size i j = true → listed.getD j false = true := fun listed i o ho hdeps hcl j hj =>
    waits_listed hcl _ i j (fun o' ho' => by rw [ho] at ho'; cases ho'; exact hdeps) hj
  have key := wpAny_inv (P := P) (ops := ops) (Q := Q) (md := .any) (I := fun listed a w => (listed.getD last true = false ∧ ∃ vs, KnownO a0 ops .any R w0.drew F C I0 ci listed a w vs ∧ vs last = vs0 a0 ops.toList last) ∨ ((∀ i, i < ops.size → listed.getD i true = true) ∧ Q .normal a w))
    (fun listed a w i hs hi hI => by
      obtain ⟨hun, o, ho, hdeps⟩ := mem_ready.1 hi
      have hlt : i < ops.size := (Array.getElem?_eq_some_iff.1 ho).1
      have hunf : listed.getD i false = false := by
        have hil : i < listed.size := by omega
        simp [hil] at hun ⊢; exact hun
      rcases hI with ⟨hln, vs, hk, hvl⟩ | ⟨hall, _⟩
      · by_cases hil : i = last
        · subst hil
          rw [hol] at ho; cases ho
          have hothers : ∀ j, j < i → listed.getD j false = true := fun j hj => hsound listed i ol hol hdeps hk.closed j (List.all_eq_true.1 hL j (List.mem_range.2 hj))
          have hbig : ∀ j, i ≤ j → listed.getD j false = false := fun j hj => by
            rcases Nat.lt_or_ge j listed.size with h | h
            · have : j = i := by omega
              subst this; exact hunf
            · simp [Array.getElem?_eq_none h]
          have hw := hend vs w hk.rel (fun j hj hC => hk.known j (hothers j hj) (hbig _ hC))
          rw [hk.act]
          refine wpOp_of_list hol ?_
          have hfin : ∀ a' w', Q .normal a' w' → (((listed.setIfInBounds i true).getD i true = false ∧ ∃ vs, KnownO a0 ops .any R w0.drew F C I0 ci (listed.setIfInBounds i true) a' w' vs ∧ vs i = vs0 a0 ops.toList i) ∨ ((∀ j, j < ops.size → (listed.setIfInBounds i true).getD j true = true) ∧ Q .normal a' w')) := fun a' w' hq => by
            refine .inr ⟨fun j hj => ?_, hq⟩
            have hjs : j < listed.size := by omega
            by_cases hji : j = i
            · subst hji; simp [hjs]
            · rw [getD_set_ne true (Ne.symm hji)]
              have := hothers j (by omega)
              simp [hjs] at this ⊢; exact this
          unfold wpList at hw ⊢
          split
          · rename_i hwant
            rw [if_pos hwant] at hw
            rcases hw with hw | ⟨h1, h2⟩
            · left
              unfold Oper.wp at hw ⊢
              generalize (execOp (putAll a0 ops.toList 0 vs).eval ol).run P w = r at hw
              cases r with
              | ok n w' =>
                cases n <;> simp only [Oper.upon] at hw ⊢ <;> first
                  | exact hfin _ _ hw
                  | exact Calls.mono hw (fun e w'' he => by cases e <;> first | exact hfin _ _ he | exact he | (obtain ⟨x, y, hxy⟩ := he; exact ⟨x, y, hxy⟩))
                  | exact Rows.mono hw (fun _ _ he => hfin _ _ he)
              | halt x w' => cases x <;> simp only [Oper.upon] at hw ⊢ <;> exact hw
            · exact .inr ⟨h1, by obtain ⟨x, y, hxy⟩ := h2; exact ⟨x, y, hxy⟩⟩
          · rename_i hwant
            rw [if_neg hwant] at hw
            exact hfin _ _ hw
        · have hil' : i < last := by omega
          have htl : (ops.toList.take last)[i]? = some o := by rw [List.getElem?_take, if_pos hil']; simpa using ho
          have hok := hops.at_ (ops.toList.take last) 0 i o htl
          rw [Nat.zero_add] at hok
          have hDi : ∀ j ∈ D i, F j (vs j) w := fun j hj => by
            have h1 := List.all_eq_true.1 (List.all_eq_true.1 hD i (List.mem_range.2 hil')) j hj
            simp only [Bool.and_eq_true, Bool.or_eq_true, beq_iff_eq, decide_eq_true_eq] at h1
            refine hk.known j (hsound listed i o ho hdeps hk.closed j h1.1) ?_
            rcases h1.2 with (h2 | h2) | h2
            · rw [h2]; exact hunf
            · rcases Nat.lt_or_ge (C j) listed.size with h | h
              · have : C j = last := by omega
                rw [this]
                have hll : last < listed.size := by omega
                simp [hll] at hln ⊢; exact hln
              · simp [Array.getElem?_eq_none h]
            · cases hc : listed.getD (C j) false with
              | false => rfl
              | true =>
                have hcl : C j < ops.size := by
                  rcases Nat.lt_or_ge (C j) ops.size with h | h
                  · exact h
                  · rw [← hs] at h; simp [Array.getElem?_eq_none h] at hc
                have := hsound listed (C j) ops[C j] (Array.getElem?_eq_getElem hcl) (hk.closed _ _ (Array.getElem?_eq_getElem hcl) hc) hk.closed i h2
                rw [hunf] at this; cases this
          rw [hk.act]
          refine wpOp_of_list ho (hok _ vs w hk.rel hDi (fun e => hk.init (by
            rcases e with e | e
            · rw [← e]; exact hunf
            · cases hc : listed.getD ci false with
              | false => rfl
              | true =>
                have hcl : ci < ops.size := by
                  rcases Nat.lt_or_ge ci ops.size with h | h
                  · exact h
                  · rw [← hs] at h; simp [Array.getElem?_eq_none h] at hc
                have := hsound listed ci ops[ci] (Array.getElem?_eq_getElem hcl) (hk.closed _ _ (Array.getElem?_eq_getElem hcl) hc) hk.closed i e
                rw [hunf] at this; cases this)) hvl (fun v w' hv hst hkeep hR => .inl ⟨by rw [getD_set_ne true hil]; exact hln, upd vs i v, ⟨?_, htrans _ _ _ hk.rel hR, fun j hj hC => ?_, fun j oj hoj hj e he hb => ?_, fun hci => ?_⟩, by simp only [upd, if_neg (Ne.symm hil)]; exact hvl⟩))
          · have := putAll_upd (a := a0) (v := v) ops.toList 0 i o vs hdst (by simpa using ho)
            rw [this, Nat.zero_add]
          · by_cases hji : j = i
            · subst hji; simp only [upd, if_true]; exact hv
            · rw [getD_set_ne false (Ne.symm hji)] at hj
              simp only [upd, if_neg hji]
              have hCi : C j ≠ i := fun e => by
                rw [e] at hC
                have hil : i < listed.size := by omega
                simp [hil] at hC
              rw [getD_set_ne false (Ne.symm hCi)] at hC
              refine hst j _ ?_ (hk.known j hj hC)
              unfold stayB
              simp only [Bool.and_eq_true, bne_iff_ne, ne_eq, Bool.not_eq_true']
              refine ⟨⟨⟨hji, hCi⟩, ?_⟩, ?_⟩
              · cases hw : waits .any ops ops.size i (C j) with
                | false => rfl
                | true => rw [hsound listed i o ho hdeps hk.closed (C j) hw] at hC; cases hC
              · cases hw : waits .any ops ops.size j i with
                | false => rfl
                | true =>
                  have hjl : j < ops.size := by
                    rcases Nat.lt_or_ge j ops.size with h | h
                    · exact h
                    · rw [← hs] at h; simp [Array.getElem?_eq_none h] at hj
                  have := hsound listed j ops[j] (Array.getElem?_eq_getElem hjl) (hk.closed _ _ (Array.getElem?_eq_getElem hjl) hj) hk.closed i hw
                  rw [hunf] at this; cases this
          · by_cases hji : j = i
            · subst hji
              rw [ho] at hoj; cases hoj
              exact getD_set_true (hdeps e he hb)
            · rw [getD_set_ne false (Ne.symm hji)] at hj
              exact getD_set_true (hk.closed j oj hoj hj e he hb)
          · have hic : i ≠ ci := fun e => by
              rw [← e] at hci
              have hil : i < listed.size := by omega
              simp [hil] at hci
            rw [getD_set_ne false hic] at hci
            refine hkeep hic ?_ (hk.init hci)
            cases hw : waits .any ops ops.size i ci with
            | false => rfl
            | true => rw [hsound listed i o ho hdeps hk.closed ci hw] at hci; cases hci
      · rw [hall i hlt] at hun; cases hun)
    (fun listed a w hs hr hI => by
      rcases hI with ⟨hln, _⟩ | ⟨_, hq⟩
      · have := listed_all hback hs hr last (by omega)
        rw [this] at hln; cases hln
      · exact hq)
  refine key ops.size _ a0 _ (by simp) (by simp [unlisted]) (.inl ⟨by simp [hsz], vs0 a0 ops.toList, ⟨?_, hrefl _, fun i hi => ?_, fun i o _ hi => ?_, fun _ => hI0⟩, rfl⟩)
  · refine (putAll_start a0 ops.toList 0 _ (fun i o ho d hd => ?_)).symm
    rw [Nat.zero_add]; unfold vs0; rw [ho]; simp [hd]
  · rcases Nat.lt_or_ge i ops.size with h | h <;> simp [h] at hi
  · rcases Nat.lt_or_ge i ops.size with h | h <;> simp [h] at hi

end
end Mile
