/- A region that draws its order, with two variables in memory that it makes and fills; all other operations leave values that are known. -/
import Derived.Test.YtagmnkobigecnaaKReg
namespace Mile
open Go Go.RowKit
section
variable {P : Program} {ops : Array Oper} {Q : Exit → Act → World → Prop} {md : Region.Mode}
structure KnownW (a0 : Act) (ops : Array Oper) (md : Region.Mode) (R : World → World → Prop) (w0 : World) (F : Nat → (Nat → Value) → World → Prop) (A : Nat → Nat → (Nat → Value) → Prop) (listed : Array Bool) (a : Act) (w : World) (vs : Nat → Value) : Prop where
  act : a = putAll a0 ops.toList 0 vs
  rel : R w0 w
  known : ∀ j, listed.getD j false = true → F j vs w
  pairs : ∀ i j, listed.getD i false = true → listed.getD j false = true → i ≠ j → A i j vs
  closed : ∀ i o, ops[i]? = some o → listed.getD i false = true → ∀ e ∈ o.after, Region.binds md e = true → listed.getD e.on false = true
/-- What is to be shown of operation i; L: those that have come up. -/
def OpOkW (P : Program) (ops : Array Oper) (Q : Exit → Act → World → Prop) (act : (Nat → Value) → Act) (R : World → World → Prop) (w0 : World) (F : Nat → (Nat → Value) → World → Prop) (A : Nat → Nat → (Nat → Value) → Prop) (D : Nat → List Nat) (i : Nat) (o : Oper) : Prop :=
  ∀ (K : Act → World → Prop) (vs : Nat → Value) (w : World) (L : Nat → Prop), R w0 w → (∀ j ∈ D i, L j) → (∀ j, L j → ∀ k ∈ D j, L k) → (∀ j, L j → F j vs w) → (∀ a b, L a → L b → a ≠ b → A a b vs) →
    (∀ v w', F i (upd vs i v) w' → (∀ j, L j → F j vs w') → (∀ j, L j → A i j (upd vs i v) ∧ A j i (upd vs i v)) → R w w' → K ((act vs).put o.dst v) w') →
    wpList P ops (Exit.then K Q) [o] (act vs) w
def OpsOkW (P : Program) (ops : Array Oper) (Q : Exit → Act → World → Prop) (act : (Nat → Value) → Act) (R : World → World → Prop) (w0 : World) (F : Nat → (Nat → Value) → World → Prop) (A : Nat → Nat → (Nat → Value) → Prop) (D : Nat → List Nat) : Nat → List Oper → Prop
  | _, [] => True
  | k, o :: r => OpOkW P ops Q act R w0 F A D k o ∧ OpsOkW P ops Q act R w0 F A D (k + 1) r
theorem opsOkW_cons {act : (Nat → Value) → Act} {R : World → World → Prop} {w0 : World} {F : Nat → (Nat → Value) → World → Prop} {A : Nat → Nat → (Nat → Value) → Prop} {D : Nat → List Nat} {k : Nat} {o : Oper} {r : List Oper} (h : OpOkW P ops Q act R w0 F A D k o) (t : OpsOkW P ops Q act R w0 F A D (k + 1) r) : OpsOkW P ops Q act R w0 F A D k (o :: r) := ⟨h, t⟩
theorem opsOkW_nil {act : (Nat → Value) → Act} {R : World → World → Prop} {w0 : World} {F : Nat → (Nat → Value) → World → Prop} {A : Nat → Nat → (Nat → Value) → Prop} {D : Nat → List Nat} {k : Nat} : OpsOkW P ops Q act R w0 F A D k [] := trivial
theorem OpsOkW.at_ {act : (Nat → Value) → Act} {R : World → World → Prop} {w0 : World} {F : Nat → (Nat → Value) → World → Prop} {A : Nat → Nat → (Nat → Value) → Prop} {D : Nat → List Nat} : ∀ (l : List Oper) (k : Nat), OpsOkW P ops Q act R w0 F A D k l → ∀ i o, l[i]? = some o → OpOkW P ops Q act R w0 F A D (k + i) o := by
  intro l
  induction l with
  | nil => intro k _ i o h; simp at h
  | cons p r ih =>
    intro k h i o hi
    cases i with
    | zero => simp at hi; subst hi; exact h.1
    | succ i =>
      have := ih (k + 1) h.2 i o (by simpa using hi)
      rwa [show k + 1 + i = k + (i + 1) by omega] at this
theorem wp_region_apart {id : Nat} {a0 : Act} {w0 : World} {act : (Nat → Value) → Act} (R : World → World → Prop) (F : Nat → (Nat → Value) → World → Prop) (A : Nat → Nat → (Nat → Value) → Prop) (D : Nat → List Nat)
    (hm : P.follows .mixedOrders = true) (hdst : dstsApart ops.toList = true) (hback : backB .any ops = true)
    (hD : ((List.range ops.size).all fun i => (D i).all fun j => ((masks .any ops).getD i 0).testBit j) = true)
    (hrefl : ∀ w, R w w) (htrans : ∀ w w' w'', R w w' → R w' w'' → R w w'')
    (hact : ∀ vs, putAll a0 ops.toList 0 vs = act vs)
    (hloc : ∀ i (vs vs' : Nat → Value) w, (∀ k, (k = i ∨ k ∈ D i) → vs k = vs' k) → F i vs w → F i vs' w)
    (hlocA : ∀ i j (vs vs' : Nat → Value), vs i = vs' i → vs j = vs' j → A i j vs → A i j vs')
    (hops : OpsOkW P ops Q act R w0.drew F A D 0 ops.toList)
    (hend : ∀ vs w, R w0.drew w → (∀ i, i < ops.size → F i vs w) → (∀ i j, i < ops.size → j < ops.size → i ≠ j → A i j vs) → Q .normal (act vs) w) :
    (Code.region id ops true).wp P Q a0 w0 := by
  refine wp_region_any hm ?_
  have hbit : ∀ x, x < ops.size → ∀ j ∈ D x, ((masks .any ops).getD x 0).testBit j = true := fun x hx j hj =>
    List.all_eq_true.1 (List.all_eq_true.1 hD x (List.mem_range.2 hx)) j hj
  have key := wpAny_inv (P := P) (ops := ops) (Q := Q) (md := .any) (I := fun listed a w => ∃ vs, KnownW a0 ops .any R w0.drew F A listed a w vs)
    (fun listed a w i hs hi ⟨vs, hk⟩ => by
      obtain ⟨hun, o, ho, hdeps⟩ := mem_ready.1 hi
      have hok := hops.at_ ops.toList 0 i o (by simpa using ho)
      rw [Nat.zero_add] at hok
      have hlt : i < ops.size := (Array.getElem?_eq_some_iff.1 ho).1
      have hunf : listed.getD i false = false := by
        have hil : i < listed.size := by omega
        simp [hil] at hun ⊢; exact hun
      have hlsz : ∀ j, listed.getD j false = true → j < ops.size := fun j hj => by
        rcases Nat.lt_or_ge j ops.size with h | h
        · exact h
        · rw [← hs] at h; simp [Array.getElem?_eq_none h] at hj
      have hcl : ∀ j, listed.getD j false = true → ∀ k ∈ D j, listed.getD k false = true := fun j hj k hk' =>
        mask_listed hback hk.closed j (fun o' ho' => hk.closed j o' ho' hj) k (hbit j (hlsz j hj) k hk')
      have hDi : ∀ j ∈ D i, listed.getD j false = true := fun j hj =>
        mask_listed hback hk.closed i (fun o' ho' => by rw [ho] at ho'; cases ho'; exact hdeps) j (hbit i hlt j hj)
      have hw := hok (fun a' w' => ∃ vs, KnownW a0 ops .any R w0.drew F A (listed.setIfInBounds i true) a' w' vs) vs w (fun j => listed.getD j false = true) hk.rel hDi hcl hk.known hk.pairs (fun v w' hv hst hA hR => by
        have hne : ∀ j, listed.getD j false = true → j ≠ i := fun j hj e => by rw [e, hunf] at hj; cases hj
        refine ⟨upd vs i v, ?_, htrans _ _ _ hk.rel hR, fun j hj => ?_, fun a b ha hb hab => ?_, fun j oj hoj hj e he hb => ?_⟩
        · have := putAll_upd (a := a0) (v := v) ops.toList 0 i o vs hdst (by simpa using ho)
          rw [← hact, this, Nat.zero_add]
        · by_cases hji : j = i
          · subst hji; exact hv
          · rw [getD_set_ne false (Ne.symm hji)] at hj
            refine hloc j vs (upd vs i v) w' (fun k hkj => ?_) (hst j hj)
            have hki : k ≠ i := by
              rintro rfl
              rcases hkj with h | h
              · exact hji h.symm
              · have := hcl j hj k h
                rw [hunf] at this; cases this
            simp only [upd, if_neg hki]
        · by_cases hai : a = i
          · subst hai
            rw [getD_set_ne false hab] at hb
            exact (hA b hb).1
          · rw [getD_set_ne false (Ne.symm hai)] at ha
            by_cases hbi : b = i
            · subst hbi; exact (hA a ha).2
            · rw [getD_set_ne false (Ne.symm hbi)] at hb
              exact hlocA a b vs _ (by simp only [upd, if_neg hai]) (by simp only [upd, if_neg hbi]) (hk.pairs a b ha hb hab)
        · by_cases hji : j = i
          · subst hji
            rw [ho] at hoj; cases hoj
            exact getD_set_true (hdeps e he hb)
          · rw [getD_set_ne false (Ne.symm hji)] at hj
            exact getD_set_true (hk.closed j oj hoj hj e he hb))
      rw [hk.act, hact]
      exact wpOp_of_list ho hw)
    (fun listed a w hs hr ⟨vs, hk⟩ => by
      rw [hk.act, hact]
      have hall : ∀ i, i < ops.size → listed.getD i false = true := fun i hi => by
        have := listed_all hback hs hr i hi
        have hlt : i < listed.size := by omega
        simp [hlt] at this ⊢; exact this
      exact hend vs w hk.rel (fun i hi => hk.known i (hall i hi)) (fun i j hi hj hij => hk.pairs i j (hall i hi) (hall j hj) hij))
  refine key ops.size _ a0 _ (by simp) ?_ ⟨vs0 a0 ops.toList, ?_, hrefl _, fun i hi => ?_, fun i j hi => ?_, fun i o _ hi => ?_⟩
  · simp [unlisted]
  · refine (putAll_start a0 ops.toList 0 _ (fun i o ho d hd => ?_)).symm
    rw [Nat.zero_add]; unfold vs0; rw [ho]; simp [hd]
  · rcases Nat.lt_or_ge i ops.size with h | h <;> simp [h] at hi
  · rcases Nat.lt_or_ge i ops.size with h | h <;> simp [h] at hi
  · rcases Nat.lt_or_ge i ops.size with h | h <;> simp [h] at hi
end
/-- Two variables: what each is (types, what it holds to begin with, what it comes to hold), who makes and who fills it. -/
structure Two where
  B0 : Nat
  T : TypeId
  Z : List Value
  X : List Value
  Y : List Value
  m : Nat
  s : Nat
  n : Nat
  t : Nat
def twF (K : Two) (VL : List Value) (i : Nat) (vs : Nat → Value) (W : World) : Prop :=
  if i = K.m then ∃ b, vs K.m = .pointer (some ⟨b, 0, none⟩) ∧ K.B0 ≤ b ∧ (Blk W b K.T K.Z ∨ Blk W b K.T K.X)
  else if i = K.s then ∃ b, vs K.m = .pointer (some ⟨b, 0, none⟩) ∧ K.B0 ≤ b ∧ Blk W b K.T K.X
  else if i = K.n then ∃ b, vs K.n = .pointer (some ⟨b, 0, none⟩) ∧ K.B0 ≤ b ∧ (Blk W b K.T K.Z ∨ Blk W b K.T K.Y)
  else if i = K.t then ∃ b, vs K.n = .pointer (some ⟨b, 0, none⟩) ∧ K.B0 ≤ b ∧ Blk W b K.T K.Y
  else vs i = VL.getD i undef
def twA (K : Two) (i j : Nat) (vs : Nat → Value) : Prop := (i = K.m ∧ j = K.n ∨ i = K.n ∧ j = K.m) → vs K.m ≠ vs K.n
/-- The four are four. -/
def Two.ok (K : Two) (D : Nat → List Nat) : Prop := K.m ≠ K.s ∧ K.m ≠ K.n ∧ K.m ≠ K.t ∧ K.s ≠ K.n ∧ K.s ≠ K.t ∧ K.n ≠ K.t ∧ K.m ∈ D K.s ∧ K.n ∈ D K.t
section
variable {K : Two} {VL : List Value} {D : Nat → List Nat} {vs : Nat → Value} {W W' : World} {i : Nat}
theorem twF_keep (h : twF K VL i vs W) (m : Mod (fun _ => False) W W') : twF K VL i vs W' := by
  unfold twF at h ⊢
  split
  · rename_i e; rw [if_pos e] at h; obtain ⟨b, h1, h2, h3⟩ := h; exact ⟨b, h1, h2, h3.imp (fun q => q.keep m (fun e => e)) (fun q => q.keep m (fun e => e))⟩
  · rename_i e; rw [if_neg e] at h
    split
    · rename_i e; rw [if_pos e] at h; obtain ⟨b, h1, h2, h3⟩ := h; exact ⟨b, h1, h2, h3.keep m (fun e => e)⟩
    · rename_i e; rw [if_neg e] at h
      split
      · rename_i e; rw [if_pos e] at h; obtain ⟨b, h1, h2, h3⟩ := h; exact ⟨b, h1, h2, h3.imp (fun q => q.keep m (fun e => e)) (fun q => q.keep m (fun e => e))⟩
      · rename_i e; rw [if_neg e] at h
        split
        · rename_i e; rw [if_pos e] at h; obtain ⟨b, h1, h2, h3⟩ := h; exact ⟨b, h1, h2, h3.keep m (fun e => e)⟩
        · rename_i e; rw [if_neg e] at h; exact h
theorem twF_val (h1 : i ≠ K.m) (h2 : i ≠ K.s) (h3 : i ≠ K.n) (h4 : i ≠ K.t) (h : twF K VL i vs W) : vs i = VL.getD i undef := by
  unfold twF at h; rwa [if_neg h1, if_neg h2, if_neg h3, if_neg h4] at h
theorem twF_of {v : Value} (h1 : i ≠ K.m) (h2 : i ≠ K.s) (h3 : i ≠ K.n) (h4 : i ≠ K.t) (h : v = VL.getD i undef) : twF K VL i (upd vs i v) W := by
  unfold twF; rw [if_neg h1, if_neg h2, if_neg h3, if_neg h4]; simpa [upd] using h
theorem twA_of {j : Nat} (h1 : i ≠ K.m) (h3 : i ≠ K.n) : twA K i j vs ∧ twA K j i vs :=
  ⟨fun h => h.elim (fun q => absurd q.1 h1) (fun q => absurd q.1 h3), fun h => h.elim (fun q => absurd q.2 h3) (fun q => absurd q.2 h1)⟩
theorem twF_m (h : twF K VL K.m vs W) : ∃ b, vs K.m = .pointer (some ⟨b, 0, none⟩) ∧ K.B0 ≤ b ∧ (Blk W b K.T K.Z ∨ Blk W b K.T K.X) := by
  unfold twF at h; rwa [if_pos rfl] at h
theorem twF_s (o : K.ok D) (h : twF K VL K.s vs W) : ∃ b, vs K.m = .pointer (some ⟨b, 0, none⟩) ∧ K.B0 ≤ b ∧ Blk W b K.T K.X := by
  unfold twF at h; rwa [if_neg (Ne.symm o.1), if_pos rfl] at h
theorem twF_n (o : K.ok D) (h : twF K VL K.n vs W) : ∃ b, vs K.n = .pointer (some ⟨b, 0, none⟩) ∧ K.B0 ≤ b ∧ (Blk W b K.T K.Z ∨ Blk W b K.T K.Y) := by
  unfold twF at h; rwa [if_neg (Ne.symm o.2.1), if_neg (Ne.symm o.2.2.2.1), if_pos rfl] at h
theorem twF_t (o : K.ok D) (h : twF K VL K.t vs W) : ∃ b, vs K.n = .pointer (some ⟨b, 0, none⟩) ∧ K.B0 ≤ b ∧ Blk W b K.T K.Y := by
  unfold twF at h; rwa [if_neg (Ne.symm o.2.2.1), if_neg (Ne.symm o.2.2.2.2.1), if_neg (Ne.symm o.2.2.2.2.2.1), if_pos rfl] at h
/-- The first variable is made: apart from the second one. -/
theorem twF_makeM (o : K.ok D) (hB : K.B0 ≤ W.heap.size) (L : Nat → Prop) (hL : ∀ j, L j → twF K VL j vs W) (hn : Mod (fun _ => False) W W') (hb : Blk W' W.heap.size K.T K.Z) :
    twF K VL K.m (upd vs K.m (.pointer (some ⟨W.heap.size, 0, none⟩))) W' ∧ (∀ j, L j → twF K VL j vs W') ∧ (∀ j, L j → twA K K.m j (upd vs K.m (.pointer (some ⟨W.heap.size, 0, none⟩))) ∧ twA K j K.m (upd vs K.m (.pointer (some ⟨W.heap.size, 0, none⟩)))) := by
  have hap : ∀ j, L j → j = K.n → upd vs K.m (.pointer (some ⟨W.heap.size, 0, none⟩)) K.m ≠ upd vs K.m (.pointer (some ⟨W.heap.size, 0, none⟩)) K.n := fun j hj e => by
    subst e
    obtain ⟨b, h1, _, h2⟩ := twF_n o (hL _ hj)
    have hlt : b < W.heap.size := h2.elim (fun q => q.lt) (fun q => q.lt)
    simp only [upd, if_true, if_neg (Ne.symm o.2.1), h1]
    intro e; simp at e <;> omega
  refine ⟨by unfold twF; rw [if_pos rfl]; exact ⟨_, by simp [upd], hB, .inl hb⟩, fun j hj => twF_keep (hL j hj) hn, fun j hj => ⟨fun h => ?_, fun h => ?_⟩⟩
  · rcases h with ⟨_, e⟩ | ⟨e, _⟩
    · exact hap j hj e
    · exact absurd e o.2.1
  · rcases h with ⟨_, e⟩ | ⟨e, _⟩
    · exact absurd e o.2.1
    · exact hap j hj e
theorem twF_makeN (o : K.ok D) (hB : K.B0 ≤ W.heap.size) (L : Nat → Prop) (hL : ∀ j, L j → twF K VL j vs W) (hn : Mod (fun _ => False) W W') (hb : Blk W' W.heap.size K.T K.Z) :
    twF K VL K.n (upd vs K.n (.pointer (some ⟨W.heap.size, 0, none⟩))) W' ∧ (∀ j, L j → twF K VL j vs W') ∧ (∀ j, L j → twA K K.n j (upd vs K.n (.pointer (some ⟨W.heap.size, 0, none⟩))) ∧ twA K j K.n (upd vs K.n (.pointer (some ⟨W.heap.size, 0, none⟩)))) := by
  have hap : ∀ j, L j → j = K.m → upd vs K.n (.pointer (some ⟨W.heap.size, 0, none⟩)) K.m ≠ upd vs K.n (.pointer (some ⟨W.heap.size, 0, none⟩)) K.n := fun j hj e => by
    subst e
    obtain ⟨b, h1, _, h2⟩ := twF_m (hL _ hj)
    have hlt : b < W.heap.size := h2.elim (fun q => q.lt) (fun q => q.lt)
    simp only [upd, if_true, if_neg o.2.1, h1]
    intro e; simp at e <;> omega
  refine ⟨by unfold twF; rw [if_neg (Ne.symm o.2.1), if_neg (Ne.symm o.2.2.2.1), if_pos rfl]; exact ⟨_, by simp [upd], hB, .inl hb⟩, fun j hj => twF_keep (hL j hj) hn, fun j hj => ⟨fun h => ?_, fun h => ?_⟩⟩
  · rcases h with ⟨e, _⟩ | ⟨_, e⟩
    · exact absurd e.symm o.2.1
    · exact hap j hj e
  · rcases h with ⟨e, _⟩ | ⟨_, e⟩
    · exact hap j hj e
    · exact absurd e.symm o.2.1
/-- The first variable is filled. -/
theorem twF_fillM (o : K.ok D) {v : Value} {b : Nat} (hv : vs K.m = .pointer (some ⟨b, 0, none⟩)) (hB : K.B0 ≤ b) (L : Nat → Prop) (hl : L K.m) (hc : ∀ j, L j → ∀ k ∈ D j, L k) (hL : ∀ j, L j → twF K VL j vs W) (hA : ∀ a c, L a → L c → a ≠ c → twA K a c vs) (hm : Mod (fun k => k = b) W W') (hb : Blk W' b K.T K.X) :
    twF K VL K.s (upd vs K.s v) W' ∧ (∀ j, L j → twF K VL j vs W') := by
  refine ⟨by unfold twF; rw [if_neg (Ne.symm o.1), if_pos rfl]; exact ⟨b, by simp only [upd, if_neg o.1]; exact hv, hB, hb⟩, fun j hj => ?_⟩
  have hne : L K.n → ∀ c, vs K.n = .pointer (some ⟨c, 0, none⟩) → ¬ c = b := fun hn c hc e => hA K.m K.n hl hn o.2.1 (.inl ⟨rfl, rfl⟩) (by rw [hv, hc, e])
  by_cases h1 : j = K.m
  · subst h1; unfold twF; rw [if_pos rfl]; exact ⟨b, hv, hB, .inr hb⟩
  by_cases h2 : j = K.s
  · subst h2; unfold twF; rw [if_neg (Ne.symm o.1), if_pos rfl]; exact ⟨b, hv, hB, hb⟩
  by_cases h3 : j = K.n
  · subst h3
    obtain ⟨c, e1, e2, e3⟩ := twF_n o (hL _ hj)
    have := hne hj c e1
    unfold twF; rw [if_neg h1, if_neg h2, if_pos rfl]
    exact ⟨c, e1, e2, e3.imp (fun q => q.keep hm this) (fun q => q.keep hm this)⟩
  by_cases h4 : j = K.t
  · subst h4
    obtain ⟨c, e1, e2, e3⟩ := twF_t o (hL _ hj)
    have := hne (hc _ hj _ o.2.2.2.2.2.2.2) c e1
    unfold twF; rw [if_neg h1, if_neg h2, if_neg h3, if_pos rfl]
    exact ⟨c, e1, e2, e3.keep hm this⟩
  have := twF_val h1 h2 h3 h4 (hL _ hj)
  unfold twF; rw [if_neg h1, if_neg h2, if_neg h3, if_neg h4]; exact this
theorem twF_fillN (o : K.ok D) {v : Value} {b : Nat} (hv : vs K.n = .pointer (some ⟨b, 0, none⟩)) (hB : K.B0 ≤ b) (L : Nat → Prop) (hl : L K.n) (hc : ∀ j, L j → ∀ k ∈ D j, L k) (hL : ∀ j, L j → twF K VL j vs W) (hA : ∀ a c, L a → L c → a ≠ c → twA K a c vs) (hm : Mod (fun k => k = b) W W') (hb : Blk W' b K.T K.Y) :
    twF K VL K.t (upd vs K.t v) W' ∧ (∀ j, L j → twF K VL j vs W') := by
  refine ⟨by unfold twF; rw [if_neg (Ne.symm o.2.2.1), if_neg (Ne.symm o.2.2.2.2.1), if_neg (Ne.symm o.2.2.2.2.2.1), if_pos rfl]; exact ⟨b, by simp only [upd, if_neg o.2.2.2.2.2.1]; exact hv, hB, hb⟩, fun j hj => ?_⟩
  have hne : L K.m → ∀ c, vs K.m = .pointer (some ⟨c, 0, none⟩) → ¬ c = b := fun hn c hc e => hA K.m K.n hn hl o.2.1 (.inl ⟨rfl, rfl⟩) (by rw [hv, hc, e])
  by_cases h1 : j = K.m
  · subst h1
    obtain ⟨c, e1, e2, e3⟩ := twF_m (hL _ hj)
    have := hne hj c e1
    unfold twF; rw [if_pos rfl]; exact ⟨c, e1, e2, e3.imp (fun q => q.keep hm this) (fun q => q.keep hm this)⟩
  by_cases h2 : j = K.s
  · subst h2
    obtain ⟨c, e1, e2, e3⟩ := twF_s o (hL _ hj)
    have := hne (hc _ hj _ o.2.2.2.2.2.2.1) c e1
    unfold twF; rw [if_neg h1, if_pos rfl]; exact ⟨c, e1, e2, e3.keep hm this⟩
  by_cases h3 : j = K.n
  · subst h3
    unfold twF; rw [if_neg h1, if_neg h2, if_pos rfl]; exact ⟨b, hv, hB, .inr hb⟩
  by_cases h4 : j = K.t
  · subst h4; unfold twF; rw [if_neg h1, if_neg h2, if_neg h3, if_pos rfl]; exact ⟨b, hv, hB, hb⟩
  have := twF_val h1 h2 h3 h4 (hL _ hj)
  unfold twF; rw [if_neg h1, if_neg h2, if_neg h3, if_neg h4]; exact this
end
section
variable {P : Program} {ops : Array Oper} {Q : Exit → Act → World → Prop}
theorem wp_region_two {id : Nat} {a0 : Act} {w0 : World} {act : (Nat → Value) → Act} (K : Two) (VL : List Value) (D : Nat → List Nat) (o : K.ok D)
    (hm : P.follows .mixedOrders = true) (hdst : dstsApart ops.toList = true) (hback : backB .any ops = true)
    (hD : ((List.range ops.size).all fun i => (D i).all fun j => ((masks .any ops).getD i 0).testBit j) = true)
    (hact : ∀ vs, putAll a0 ops.toList 0 vs = act vs)
    (hops : OpsOkW P ops Q act (Mod (fun k => K.B0 ≤ k)) w0.drew (twF K VL) (twA K) D 0 ops.toList)
    (hend : ∀ vs w, Mod (fun k => K.B0 ≤ k) w0.drew w → (∀ i, i < ops.size → twF K VL i vs w) → (K.m < ops.size → K.n < ops.size → vs K.m ≠ vs K.n) → Q .normal (act vs) w) :
    (Code.region id ops true).wp P Q a0 w0 := by
  refine wp_region_apart (Mod (fun k => K.B0 ≤ k)) (twF K VL) (twA K) D hm hdst hback hD (fun _ => Mod.refl _ _) (fun _ _ _ h k => h.trans k (fun _ _ e => e) (fun _ _ e => e)) hact ?_ ?_ hops (fun vs w hR hF hA => hend vs w hR hF (fun h1 h2 => hA K.m K.n h1 h2 o.2.1 (.inl ⟨rfl, rfl⟩)))
  · intro i vs vs' w hv h
    unfold twF at h ⊢
    split
    · rename_i e; rw [if_pos e] at h; rw [← hv K.m (.inl e.symm)]; exact h
    · rename_i e; rw [if_neg e] at h
      split
      · rename_i e; rw [if_pos e] at h; rw [← hv K.m (.inr (e ▸ o.2.2.2.2.2.2.1))]; exact h
      · rename_i e; rw [if_neg e] at h
        split
        · rename_i e; rw [if_pos e] at h; rw [← hv K.n (.inl e.symm)]; exact h
        · rename_i e; rw [if_neg e] at h
          split
          · rename_i e; rw [if_pos e] at h; rw [← hv K.n (.inr (e ▸ o.2.2.2.2.2.2.2))]; exact h
          · rename_i e; rw [if_neg e] at h; rw [← hv i (.inl rfl)]; exact h
  · intro i j vs vs' h1 h2 h hij
    have := h hij
    rcases hij with ⟨e1, e2⟩ | ⟨e1, e2⟩
    · subst e1; subst e2; rw [← h1, ← h2]; exact this
    · subst e1; subst e2; rw [← h1, ← h2]; exact this
end
end Mile
