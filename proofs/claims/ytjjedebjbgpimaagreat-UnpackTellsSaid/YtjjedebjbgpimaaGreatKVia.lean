/- From whom a search came: what its row of these holds. -/
import Derived.Test.YtjjedebjbgpimaaGreatKFro
import Derived.Test.YtjjedebjbgpimaaGreatNet7
namespace Go.Proofs.YtjjedebjbgpimaaGreat
open Go.RowKit Mile
structure VIn (X : Web) (d : List Int) (T : List Nat) (S : List It) (us : List Int) (n : Nat) : Prop where
  len : us.length = n
  set : ∀ e ∈ T, (X.st e ∧ dAt d e = 0 ∧ dP us e = -1) ∨ ∃ b ∈ T, dP us e = (b : Int) ∧ X.rl e b ∧ dAt d e = dAt d b + X.wt e b
  kn : ∀ (e : Nat) k, e ∉ T → ((e : Int), k) ∈ S → (X.st e ∧ k = 0 ∧ dP us e = -1) ∨ ∃ b ∈ T, dP us e = (b : Int) ∧ X.rl e b ∧ k = dAt d b + X.wt e b
theorem VIn.none (X : Web) (d : List Int) (us : List Int) : VIn X d [] [] us us.length := ⟨rfl, fun _ h => (by cases h), fun _ _ _ h => (by cases h)⟩
theorem VIn.begin {X : Web} {d : List Int} {n f : Nat} (hst : X.st f) (hf : f < n) : VIn X d [] [((f : Int), 0)] ((List.replicate n (0 : Int)).set f (-1)) n := by
  refine ⟨by simp, fun _ h => (by cases h), fun e k _ h => ?_⟩
  rw [List.mem_singleton] at h
  obtain ⟨h1, rfl⟩ := Prod.mk.inj h
  have : e = f := by omega
  subst this
  exact .inl ⟨hst, rfl, by rw [dP_set _ _ _ _ (by simpa using hf), if_pos rfl]⟩
theorem VIn.pop {X : Web} {d : List Int} {T : List Nat} {S : List It} {us : List Int} {n : Nat} {x : It} {e : Nat} (h : VIn X d T (x :: S) us n) (he : x.1 = e) (hk : x.2 = dAt d e) (heT : e ∉ T) : VIn X d (T ++ [e]) S us n := by
  have hx : ((e : Int), x.2) ∈ x :: S := by rw [← he]; exact List.mem_cons_self
  refine ⟨h.len, fun t ht => ?_, fun e' k he' hm => ?_⟩
  · rcases List.mem_append.1 ht with ht | ht
    · rcases h.set t ht with h1 | ⟨b, h1, h2⟩
      · exact .inl h1
      · exact .inr ⟨b, List.mem_append_left _ h1, h2⟩
    · rw [List.mem_singleton] at ht
      subst ht
      rcases h.kn t x.2 heT hx with ⟨h1, h2, h3⟩ | ⟨b, h1, h2, h3, h4⟩
      · exact .inl ⟨h1, by omega, h3⟩
      · exact .inr ⟨b, List.mem_append_left _ h1, h2, h3, by omega⟩
  · rcases h.kn e' k (fun h2 => he' (List.mem_append_left _ h2)) (List.mem_cons_of_mem _ hm) with h1 | ⟨b, h1, h2⟩
    · exact .inl h1
    · exact .inr ⟨b, List.mem_append_left _ h1, h2⟩
theorem VIn.reach {X : Web} {d : List Int} {mo wo : Int} {T : List Nat} {S : List It} {ps us : List Int} {n : Nat} {pend : Nat → Nat → Prop} (h : VIn X d T S us n) (hp : PIn d T S ps n) (ho : Ord X d mo T S pend) (hf : Fix X d) (hx : X.m = n) (hid : Ids S) {e b : Nat} (hr : X.rl e b) (hb : b ∈ T) (k : Int) (hk : k = dAt d b + X.wt e b) :
    VIn X d T (if lessB ps wo mo e k then (pushS S e k).2 else S) (if lessB ps wo mo e k then us.set e (b : Int) else us) n := by
  cases hl : lessB ps wo mo e k with
  | false => exact h
  | true =>
    have hm := X.one e b hr
    have hel : e < us.length := by rw [h.len, ← hx]; exact hm.2.2.1
    have hb0 := (ho.t b hb).1
    have hsh := hf.shut e b hr hb0
    have hless : dP ps e = 0 ∨ k < dP ps e - 1 := by
      unfold lessB at hl
      simp only [Bool.and_eq_true, Bool.or_eq_true, decide_eq_true_eq, beq_iff_eq] at hl
      omega
    have heT : e ∉ T := fun x => by
      have h1 := hp.set e x
      have h2 := (ho.t e x).1
      omega
    rw [if_pos rfl, if_pos rfl]
    refine ⟨by simp [h.len], fun t ht => ?_, fun e' k' he' hm' => ?_⟩
    · have hne : t ≠ e := fun x => heT (x ▸ ht)
      rw [dP_set _ _ _ _ hel, if_neg hne]
      exact h.set t ht
    · rw [dP_set _ _ _ _ hel]
      rcases (push_iff hid).1 hm' with ⟨h1, h2⟩ | ⟨h1, ⟨h2, _⟩ | ⟨h2, h3⟩⟩
      · have hne : e' ≠ e := fun x => h1 (by rw [x])
        rw [if_neg hne]
        exact h.kn e' k' he' h2
      · have : e' = e := by omega
        subst this
        rw [if_pos rfl]
        exact .inr ⟨b, hb, rfl, hr, by omega⟩
      · have h4 := hp.kn e k' heT h2
        obtain ⟨j, hj, _, _, _, h5, h6, _⟩ := ho.sound _ h2
        simp only at h6
        omega
theorem VIn.without {X Y : Web} {d d' : List Int} {T : List Nat} {S : List It} {us : List Int} {n v : Nat} (h : VIn X d T S us n) (hY : Fix Y d') (hm : Y.m = X.m) (hm' : d.length = X.m)
    (hst : ∀ e, X.st e → e ≠ v → Y.st e) (hrl : ∀ e b, X.rl e b → e ≠ v → Y.rl e b ∧ Y.wt e b = X.wt e b)
    (hno : ∀ t ∈ T, dP us t ≠ (v : Int)) : ∀ (k : Nat) t, t ∈ T → t ≠ v → 0 ≤ dAt d t → dAt d t ≤ k → (∀ b ∈ T, 0 ≤ dAt d b) → 0 ≤ dAt d' t ∧ dAt d' t ≤ dAt d t := by
  intro k
  induction k using Nat.strongRecOn with
  | ind k ih =>
    intro t ht htv h0 hk hT
    rcases h.set t ht with ⟨h1, h2, _⟩ | ⟨b, hb, h1, h2, h3⟩
    · have := hY.st t (hst t h1 htv) (by rw [hm, ← hm']; exact dAt_in h0)
      omega
    · have hbv : b ≠ v := fun x => hno t ht (by rw [h1, x])
      have hw := (X.one t b h2).1
      have hb0 := hT b hb
      have hI := ih (k - 1) (by omega) b hb hbv hb0 (by omega) hT
      obtain ⟨g1, g2⟩ := hrl t b h2 htv
      have hs := hY.shut t b g1 hI.1
      rw [g2] at hs
      omega
theorem net_no_less {n : Nat} {L : List Ar} {fr v : Nat} {d d' : List Int} (hX : Fix (netW n L (fr : Int) (-1)) d) (hY : Fix (netW n L (fr : Int) (v : Int)) d') (u : Nat) (h0 : 0 ≤ dAt d' u) : 0 ≤ dAt d u ∧ dAt d u ≤ dAt d' u :=
  hY.le hX rfl (fun e he => ⟨he.1, by omega⟩) (fun e b hr => ⟨by obtain ⟨a, h1, h2, h3⟩ := hr; exact ⟨a, h1, by omega, h3⟩, rfl⟩) (dAt d' u).toNat u h0 (by omega)
theorem VIn.net_same {n : Nat} {L : List Ar} {fr v : Nat} {d d' : List Int} {mo : Int} {T : List Nat} {S : List It} {us : List Int} {pend : Nat → Nat → Prop} (h : VIn (netW n L (fr : Int) (-1)) d T S us n) (ho : Ord (netW n L (fr : Int) (-1)) d mo T S pend)
    (hX : Fix (netW n L (fr : Int) (-1)) d) (hY : Fix (netW n L (fr : Int) (v : Int)) d') (hno : ∀ t ∈ T, dP us t ≠ (v : Int)) {t : Nat} (ht : t ∈ T) (htv : t ≠ v) : dAt d' t = dAt d t := by
  have h1 := h.without (v := v) hY rfl hX.len (fun e he hv => ⟨he.1, by have := he.1; omega⟩) (fun e b hr hv => ⟨by obtain ⟨a, g1, g2, g3⟩ := hr; exact ⟨a, g1, by omega, g3⟩, rfl⟩) hno (dAt d t).toNat t ht htv (ho.t t ht).1 (by have := (ho.t t ht).1; omega) (fun b hb => (ho.t b hb).1)
  have h2 := net_no_less hX hY t h1.1
  omega
theorem VIn.net_low {n : Nat} {L : List Ar} {fr v : Nat} {d d' : List Int} {mo : Int} {T : List Nat} {S : List It} {us : List Int} {pend : Nat → Nat → Prop} (h : VIn (netW n L (fr : Int) (-1)) d T S us n) (ho : Ord (netW n L (fr : Int) (-1)) d mo T S pend)
    (hX : Fix (netW n L (fr : Int) (-1)) d) (hY : Fix (netW n L (fr : Int) (v : Int)) d') (hno : ∀ t ∈ T, dP us t ≠ (v : Int)) {t u : Nat} (ht : t ∈ T) (htv : t ≠ v) (hu : u ∉ T) (h0 : 0 ≤ dAt d' u) : ahead d' t u := by
  have h1 := h.net_same ho hX hY hno ht htv
  have h2 := net_no_less hX hY u h0
  have h3 := ho.low t ht u hu h2.1
  unfold ahead at h3 ⊢
  omega
def Seg (d : List Int) (A : List Nat) : Prop := A.Nodup ∧ (∀ t ∈ A, 0 ≤ dAt d t) ∧ ∀ t ∈ A, ∀ u, u ∉ A → 0 ≤ dAt d u → ahead d t u
theorem Ord.seg {X : Web} {d : List Int} {mo : Int} {T : List Nat} {S : List It} {pend : Nat → Nat → Prop} (h : Ord X d mo T S pend) : Seg d T := ⟨h.nod, fun t ht => (h.t t ht).1, h.low⟩
theorem ahead.not {d : List Int} {t u : Nat} (h : ahead d t u) : ¬ ahead d u t := by unfold ahead at h ⊢; omega
theorem Seg.sub {d : List Int} {A B : List Nat} (hA : Seg d A) (hB : Seg d B) (hl : A.length ≤ B.length) : A ⊆ B := by
  intro t ht
  refine Classical.byContradiction fun hn => ?_
  have hall : ∀ b ∈ B, b ∈ A := fun b hb => Classical.byContradiction fun hb2 =>
    (hB.2.2 b hb t hn (hA.2.1 t ht)).not (hA.2.2 t ht b hb2 (hB.2.1 b hb))
  have := nodupN_le (t :: B) A (List.nodup_cons.2 ⟨hn, hB.1⟩) (fun y hy => (List.mem_cons.1 hy).elim (fun e => by rw [e]; exact ht) (fun e => hall y e))
  rw [List.length_cons] at this
  omega
theorem VIn.net_seg {n : Nat} {L : List Ar} {fr v : Nat} {d d' : List Int} {mo : Int} {T : List Nat} {S : List It} {us : List Int} {pend : Nat → Nat → Prop} (h : VIn (netW n L (fr : Int) (-1)) d T S us n) (ho : Ord (netW n L (fr : Int) (-1)) d mo T S pend)
    (hX : Fix (netW n L (fr : Int) (-1)) d) (hY : Fix (netW n L (fr : Int) (v : Int)) d') (hno : ∀ t ∈ T, dP us t ≠ (v : Int)) : Seg d' (T.filter (fun t => decide (t ≠ v))) := by
  have hv : ¬ 0 ≤ dAt d' v := fun h0 => by
    rcases hY.why v h0 with ⟨⟨h1, h2⟩, _⟩ | ⟨b, ⟨a, _, h2, _⟩, _⟩
    · exact h2 h1.symm
    · exact h2 rfl
  refine ⟨ho.nod.filter _, fun t ht => ?_, fun t ht u hu h0 => ?_⟩
  · obtain ⟨h1, h2⟩ := List.mem_filter.1 ht
    rw [h.net_same ho hX hY hno h1 (of_decide_eq_true h2)]
    exact (ho.t t h1).1
  · obtain ⟨h1, h2⟩ := List.mem_filter.1 ht
    have huv : u ≠ v := fun e => hv (by rw [← e]; exact h0)
    exact h.net_low ho hX hY hno h1 (of_decide_eq_true h2) (fun e => hu (List.mem_filter.2 ⟨e, decide_eq_true huv⟩)) h0
theorem Seg.take {d : List Int} {A : List Nat} (hA : Seg d A) (hs : A.Pairwise (ahead d)) (k : Nat) : Seg d (A.take k) := by
  refine ⟨hA.1.sublist (List.take_sublist k A), fun t ht => hA.2.1 t (List.mem_of_mem_take ht), fun t ht u hu h0 => ?_⟩
  by_cases h : u ∈ A
  · have h2 : u ∈ A.drop k := by
      have : u ∈ A.take k ++ A.drop k := by rw [List.take_append_drop]; exact h
      exact (List.mem_append.1 this).resolve_left hu
    rw [← List.take_append_drop k A] at hs
    exact (List.pairwise_append.1 hs).2.2 t ht u h2
  · exact hA.2.2 t (List.mem_of_mem_take ht) u h h0
end Go.Proofs.YtjjedebjbgpimaaGreat
namespace Go.Proofs.YtjjedebjbgpimaaGreat
open Go.RowKit Mile
abbrev Stp := Int × Int × Int
def c3s (x : Stp) : List Value := [.int .i64 x.1, .int .i64 x.2.1, .int .i64 x.2.2]
theorem c3s_at : ∀ (R : List Stp) (i : Nat) (hi : i < R.length), (R.flatMap c3s)[i * 3 + 0]? = some (.int .i64 R[i].1) ∧ (R.flatMap c3s)[i * 3 + 1]? = some (.int .i64 R[i].2.1) ∧ (R.flatMap c3s)[i * 3 + 2]? = some (.int .i64 R[i].2.2)
  | b :: R, 0, _ => by simp [c3s]
  | b :: R, i + 1, hi => by
    have h := c3s_at R i (by simpa using hi)
    have e : ∀ j, ((b :: R).flatMap c3s)[(i + 1) * 3 + j]? = (R.flatMap c3s)[i * 3 + j]? := fun j => by
      rw [List.flatMap_cons, List.getElem?_append_right (by simp [c3s]; omega), show (i + 1) * 3 + j - (c3s b).length = i * 3 + j by simp [c3s]; omega]
    rw [e, e, e]
    simpa using h
theorem c3s_len (R : List Stp) : (R.flatMap c3s).length = R.length * 3 := by
  induction R with
  | nil => rfl
  | cons x R ih => rw [List.flatMap_cons, List.length_append, ih]; simp [c3s]; omega
theorem rd3s {w : World} {n c : Nat} {a : Option Addr} {R : List Stp} (h : Rd w 3 (.slice a n c) n (R.flatMap c3s)) (i : Nat) (hi : i < R.length) :
    ∃ b o, elemA a i 3 = ⟨b, o, none⟩ ∧ w.cell? ⟨b, o, none⟩ = some (.int .i64 R[i].1) ∧ w.cell? ⟨b, o + 1, none⟩ = some (.int .i64 R[i].2.1) ∧ w.cell? ⟨b, o + 2, none⟩ = some (.int .i64 R[i].2.2) := by
  obtain ⟨k1, k2, k3⟩ := c3s_at R i hi
  have hn : n = R.length := by have := h.1; rw [c3s_len] at this; omega
  obtain ⟨b, o, hp, _⟩ := h.place (j := i) (by omega)
  exact ⟨b, o, hp, by have := h.elemN hp 0 k1; simpa using this, h.elemN hp 1 k2, h.elemN hp 2 k3⟩
def stpsOf (d us : List Int) (T : List Nat) : List Stp := T.map fun (t : Nat) => ((t : Int), dAt d t, dP us t)
def moX : Int := 9223372036854775807
def StopsOf (n : Nat) (L : List Ar) (fr : Nat) (wo : Int) (d : List Int) (st : Nat) (R : List Stp) : Prop :=
  ∃ T S us, Ord (netW n L (fr : Int) wo) d moX T S (fun _ _ => False) ∧ VIn (netW n L (fr : Int) wo) d T S us n ∧ T.Pairwise (ahead d) ∧ T.length ≤ st ∧ (T.length = st ∨ S = []) ∧ R = stpsOf d us T
structure AOk (n : Nat) (d : List Int) (v : Nat) (R : List Stp) : Prop where
  nod : (R.map (·.1)).Nodup
  fit : ∀ x ∈ R, 0 ≤ x.1 ∧ x.1 < (n : Int) ∧ 0 ≤ x.2.1 ∧ x.2.1 ≤ 562949953421312
  is : ∀ u : Nat, u ≠ v → ∀ s, (∃ b, ((u : Int), s, b) ∈ R) ↔ (0 ≤ dAt d u ∧ rankN d u < 30 ∧ s = dAt d u)
theorem Seg.rank {d : List Int} {A : List Nat} (hA : Seg d A) (k : Nat) (hl : A.length ≤ k) (hc : A.length = k ∨ ∀ u, 0 ≤ dAt d u → u ∈ A) (u : Nat) : u ∈ A ↔ 0 ≤ dAt d u ∧ rankN d u < k := by
  constructor
  · intro hu
    refine ⟨hA.2.1 u hu, ?_⟩
    have h1 : ∀ y ∈ (List.range d.length).filter (rankB d u), y ∈ A := fun y hy => by
      have h2 := rankB_iff.1 (List.mem_filter.1 hy).2
      exact Classical.byContradiction fun hn => (hA.2.2 u hu y hn h2.1).not h2.2
    have h3 : u ∉ (List.range d.length).filter (rankB d u) := fun e => ahead.irr (rankB_iff.1 (List.mem_filter.1 e).2).2
    have := nodupN_le (u :: (List.range d.length).filter (rankB d u)) A (List.nodup_cons.2 ⟨h3, List.nodup_range.filter _⟩) (fun y hy => (List.mem_cons.1 hy).elim (fun e => by rw [e]; exact hu) (h1 y))
    rw [List.length_cons] at this
    unfold rankN
    omega
  · rintro ⟨h0, hr⟩
    refine Classical.byContradiction fun hn => ?_
    rcases hc with hc | hc
    · have h1 : A ⊆ (List.range d.length).filter (rankB d u) := fun y hy =>
        List.mem_filter.2 ⟨List.mem_range.2 (dAt_in (hA.2.1 y hy)), rankB_iff.2 ⟨hA.2.1 y hy, hA.2.2 y hy u hn h0⟩⟩
      have := nodupN_le A _ hA.1 h1
      unfold rankN at hr
      omega
    · exact hn (hc u h0)
theorem stps_mem {d us : List Int} {T : List Nat} {x : Stp} : x ∈ stpsOf d us T ↔ ∃ t ∈ T, x = ((t : Int), dAt d t, dP us t) := by
  unfold stpsOf
  rw [List.mem_map]
  exact ⟨fun ⟨t, h1, h2⟩ => ⟨t, h1, h2.symm⟩, fun ⟨t, h1, h2⟩ => ⟨t, h1, h2.symm⟩⟩
theorem stps_nod {d us : List Int} {T : List Nat} (h : T.Nodup) : ((stpsOf d us T).map (·.1)).Nodup := by
  unfold stpsOf
  rw [List.map_map]
  refine List.Pairwise.map _ (fun a b hab => ?_) h
  simp only [Function.comp]
  omega
theorem aok_of {n : Nat} {d d' us : List Int} {A : List Nat} {v : Nat} (hn : A.Nodup) (hs : Seg d' (A.filter fun t => decide (t ≠ v))) (hl : (A.filter fun t => decide (t ≠ v)).length ≤ 30)
    (hc : (A.filter fun t => decide (t ≠ v)).length = 30 ∨ ∀ u, 0 ≤ dAt d' u → u ∈ A.filter fun t => decide (t ≠ v)) (hd : ∀ t ∈ A, t ≠ v → dAt d t = dAt d' t) (hlen : d.length = n) (h0 : ∀ t ∈ A, 0 ≤ dAt d t) (ht : ∀ e, dAt d e ≤ 562949953421312) :
    AOk n d' v (stpsOf d us A) := by
  refine ⟨stps_nod hn, fun x hx => ?_, fun u hu s => ?_⟩
  · obtain ⟨t, h1, rfl⟩ := stps_mem.1 hx
    have h2 := h0 t h1
    have h3 := dAt_in h2
    exact ⟨by simp, by simp only; omega, h2, ht t⟩
  · have hr := hs.rank 30 hl hc u
    constructor
    · rintro ⟨b, hb⟩
      obtain ⟨t, h1, h2⟩ := stps_mem.1 hb
      obtain ⟨e1, e2⟩ := Prod.mk.inj h2
      have e3 := (Prod.mk.inj e2).1
      have : u = t := by omega
      subst this
      have h4 := hr.1 (List.mem_filter.2 ⟨h1, decide_eq_true hu⟩)
      exact ⟨h4.1, h4.2, by rw [e3]; exact hd u h1 hu⟩
    · rintro ⟨h1, h2, rfl⟩
      have h3 := (List.mem_filter.1 (hr.2 ⟨h1, h2⟩)).1
      exact ⟨dP us u, stps_mem.2 ⟨u, h3, by rw [hd u h3 hu]⟩⟩
def RowW (X : Web) (d : List Int) (st : Nat) (T : List Nat) (us : List Int) : Prop :=
  Seg d T ∧ (∀ e ∈ T, (X.st e ∧ dAt d e = 0 ∧ dP us e = -1) ∨ ∃ b ∈ T, dP us e = (b : Int) ∧ X.rl e b ∧ dAt d e = dAt d b + X.wt e b) ∧ T.Pairwise (ahead d) ∧ T.length ≤ st ∧ (T.length = st ∨ ∀ u, 0 ≤ dAt d u → u ∈ T)
def RowOf (n : Nat) (L : List Ar) (fr : Nat) (wo : Int) (d : List Int) (st : Nat) (R : List Stp) : Prop :=
  ∃ T us, us.length = n ∧ RowW (netW n L (fr : Int) wo) d st T us ∧ R = stpsOf d us T
theorem StopsOf.row {n : Nat} {L : List Ar} {fr : Nat} {wo : Int} {d : List Int} {st : Nat} {R : List Stp} (h512 : n ≤ 512) (hf : Fix (netW n L (fr : Int) wo) d) (h : StopsOf n L fr wo d st R) : RowOf n L fr wo d st R := by
  obtain ⟨T, S, us, ho, hv, hp, hl, hc, rfl⟩ := h
  refine ⟨T, us, hv.len, ⟨ho.seg, hv.set, hp, hl, hc.imp id fun e u h0 => ?_⟩, rfl⟩
  subst e
  exact ho.done hf u h0 (by have := netW_top h512 hf u; unfold moX; omega)
theorem RowW.without {X Y : Web} {d d' : List Int} {st : Nat} {T : List Nat} {us : List Int} {v : Nat} (h : RowW X d st T us) (hY : Fix Y d') (hm : Y.m = X.m) (hm' : d.length = X.m)
    (hst : ∀ e, X.st e → e ≠ v → Y.st e) (hrl : ∀ e b, X.rl e b → e ≠ v → Y.rl e b ∧ Y.wt e b = X.wt e b)
    (hno : ∀ t ∈ T, dP us t ≠ (v : Int)) : ∀ (k : Nat) t, t ∈ T → t ≠ v → dAt d t ≤ k → 0 ≤ dAt d' t ∧ dAt d' t ≤ dAt d t := by
  intro k
  induction k using Nat.strongRecOn with
  | ind k ih =>
    intro t ht htv hk
    have h0 := h.1.2.1 t ht
    rcases h.2.1 t ht with ⟨h1, h2, _⟩ | ⟨b, hb, h1, h2, h3⟩
    · have := hY.st t (hst t h1 htv) (by rw [hm, ← hm']; exact dAt_in h0)
      omega
    · have hbv : b ≠ v := fun x => hno t ht (by rw [h1, x])
      have hw := (X.one t b h2).1
      have hb0 := h.1.2.1 b hb
      have hI := ih (k - 1) (by omega) b hb hbv (by omega)
      obtain ⟨g1, g2⟩ := hrl t b h2 htv
      have hs := hY.shut t b g1 hI.1
      rw [g2] at hs
      omega
section
variable {n : Nat} {L : List Ar} {fr v : Nat} {d d' : List Int} {R : List Stp} {st : Nat} {T : List Nat} {us : List Int}
theorem RowW.net_same (h : RowW (netW n L (fr : Int) (-1)) d st T us)
    (hX : Fix (netW n L (fr : Int) (-1)) d) (hY : Fix (netW n L (fr : Int) (v : Int)) d') (hno : ∀ t ∈ T, dP us t ≠ (v : Int)) {t : Nat} (ht : t ∈ T) (htv : t ≠ v) : dAt d' t = dAt d t := by
  have h1 := h.without (v := v) hY rfl hX.len (fun e he hv => ⟨he.1, by have := he.1; omega⟩) (fun e b hr hv => ⟨by obtain ⟨a, g1, g2, g3⟩ := hr; exact ⟨a, g1, by omega, g3⟩, rfl⟩) hno (dAt d t).toNat t ht htv (by have := h.1.2.1 t ht; omega)
  have h2 := net_no_less hX hY t h1.1
  omega
theorem RowW.net_low (h : RowW (netW n L (fr : Int) (-1)) d st T us)
    (hX : Fix (netW n L (fr : Int) (-1)) d) (hY : Fix (netW n L (fr : Int) (v : Int)) d') (hno : ∀ t ∈ T, dP us t ≠ (v : Int)) {t u : Nat} (ht : t ∈ T) (htv : t ≠ v) (hu : u ∉ T) (h0 : 0 ≤ dAt d' u) : ahead d' t u := by
  have h1 := h.net_same hX hY hno ht htv
  have h2 := net_no_less hX hY u h0
  have h3 := h.1.2.2 t ht u hu h2.1
  unfold ahead at h3 ⊢
  omega
theorem no_self {n : Nat} {L : List Ar} {fr : Int} {v : Nat} {d' : List Int} (hY : Fix (netW n L fr (v : Int)) d') : ¬ 0 ≤ dAt d' v := fun h0 => by
  rcases hY.why v h0 with ⟨⟨h1, h2⟩, _⟩ | ⟨b, ⟨a, _, h2, _⟩, _⟩
  · exact h2 h1.symm
  · exact h2 rfl
theorem RowW.net_seg (h : RowW (netW n L (fr : Int) (-1)) d st T us)
    (hX : Fix (netW n L (fr : Int) (-1)) d) (hY : Fix (netW n L (fr : Int) (v : Int)) d') (hno : ∀ t ∈ T, dP us t ≠ (v : Int)) : Seg d' (T.filter (fun t => decide (t ≠ v))) := by
  have hv := no_self hY
  refine ⟨h.1.1.filter _, fun t ht => ?_, fun t ht u hu h0 => ?_⟩
  · obtain ⟨h1, h2⟩ := List.mem_filter.1 ht
    rw [h.net_same hX hY hno h1 (of_decide_eq_true h2)]
    exact h.1.2.1 t h1
  · obtain ⟨h1, h2⟩ := List.mem_filter.1 ht
    have huv : u ≠ v := fun e => hv (by rw [← e]; exact h0)
    exact h.net_low hX hY hno h1 (of_decide_eq_true h2) (fun e => hu (List.mem_filter.2 ⟨e, decide_eq_true huv⟩)) h0
theorem aok_less (h512 : n ≤ 512) (hY : Fix (netW n L (fr : Int) (v : Int)) d') (h : RowOf n L fr (v : Int) d' 30 R) : AOk n d' v R := by
  obtain ⟨T, us, _, hR, rfl⟩ := h
  have hf : (T.filter fun t => decide (t ≠ v)) = T := List.filter_eq_self.2 fun t ht => decide_eq_true (fun e => no_self hY (by rw [← e]; exact hR.1.2.1 t ht))
  refine aok_of hR.1.1 (by rw [hf]; exact hR.1) (by rw [hf]; exact hR.2.2.2.1) ?_ (fun _ _ _ => rfl) hY.len (fun t ht => hR.1.2.1 t ht) (netW_top h512 hY)
  rw [hf]
  exact hR.2.2.2.2
theorem aok_all (h512 : n ≤ 512) (hX : Fix (netW n L (fr : Int) (-1)) d) (hY : Fix (netW n L (fr : Int) (v : Int)) d') (h : RowOf n L fr (-1) d 31 R) (hno : ∀ x ∈ R, x.2.2 ≠ (v : Int)) : (∃ x ∈ R, x.1 = (v : Int)) → AOk n d' v R := by
  obtain ⟨T, us, _, hR, rfl⟩ := h
  have hl := hR.2.2.2.1
  rintro ⟨x, hx, hxv⟩
  obtain ⟨t, htT, rfl⟩ := stps_mem.1 hx
  have : t = v := by simp only at hxv; omega
  subst this
  have hno' : ∀ t' ∈ T, dP us t' ≠ (t : Int) := fun t' ht' => hno _ (stps_mem.2 ⟨t', ht', rfl⟩)
  have hlen : (T.filter fun y => decide (y ≠ t)).length + 1 ≤ T.length := by
    have := nodupN_le (t :: T.filter fun y => decide (y ≠ t)) T (List.nodup_cons.2 ⟨fun e => absurd rfl (of_decide_eq_true (List.mem_filter.1 e).2), hR.1.1.filter _⟩) (fun y hy => (List.mem_cons.1 hy).elim (fun e => by rw [e]; exact htT) (fun e => (List.mem_filter.1 e).1))
    rwa [List.length_cons] at this
  have hlen2 : T.length ≤ (T.filter fun y => decide (y ≠ t)).length + 1 := by
    have := nodupN_le T (t :: T.filter fun y => decide (y ≠ t)) hR.1.1 (fun y hy => by
      by_cases e : y = t
      · rw [e]; exact List.mem_cons_self
      · exact List.mem_cons_of_mem _ (List.mem_filter.2 ⟨hy, decide_eq_true e⟩))
    rwa [List.length_cons] at this
  refine aok_of hR.1.1 (hR.net_seg hX hY hno') (by omega) ?_ (fun t' h1 h2 => (hR.net_same hX hY hno' h1 h2).symm) hX.len (fun t ht => hR.1.2.1 t ht) (netW_top h512 hX)
  rcases hR.2.2.2.2 with hc | hc
  · left; omega
  · right
    intro u h0
    have h1 := net_no_less hX hY u h0
    exact List.mem_filter.2 ⟨hc u h1.1, decide_eq_true (fun e => no_self hY (by rw [← e]; exact h0))⟩
theorem aok_take (h512 : n ≤ 512) (hX : Fix (netW n L (fr : Int) (-1)) d) (hY : Fix (netW n L (fr : Int) (v : Int)) d') (h : RowOf n L fr (-1) d 31 R) (hno : ∀ x ∈ R, x.2.2 ≠ (v : Int)) (hnv : ∀ x ∈ R, x.1 ≠ (v : Int)) : AOk n d' v (R.take 30) := by
  obtain ⟨T, us, _, hR, rfl⟩ := h
  have hp := hR.2.2.1
  have hl := hR.2.2.2.1
  have hno' : ∀ t' ∈ T, dP us t' ≠ (v : Int) := fun t' ht' => hno _ (stps_mem.2 ⟨t', ht', rfl⟩)
  have hnv' : ∀ t ∈ T, t ≠ v := fun t ht e => hnv _ (stps_mem.2 ⟨t, ht, rfl⟩) (by simp only; rw [e])
  have hf : (T.filter fun t => decide (t ≠ v)) = T := List.filter_eq_self.2 fun t ht => decide_eq_true (hnv' t ht)
  have hseg := hR.net_seg hX hY hno'
  rw [hf] at hseg
  have hsame : ∀ t ∈ T, dAt d t = dAt d' t := fun t ht => (hR.net_same hX hY hno' ht (hnv' t ht)).symm
  have hp' : T.Pairwise (ahead d') := hp.imp_of_mem fun {a b} ha hb hab => by
    unfold ahead at hab ⊢
    rw [hsame a ha, hsame b hb] at hab
    exact hab
  have hst : (stpsOf d us T).take 30 = stpsOf d us (T.take 30) := by unfold stpsOf; rw [List.map_take]
  rw [hst]
  have hf2 : ((T.take 30).filter fun t => decide (t ≠ v)) = T.take 30 := List.filter_eq_self.2 fun t ht => decide_eq_true (hnv' t (List.mem_of_mem_take ht))
  refine aok_of (hR.1.1.sublist (List.take_sublist 30 T)) (by rw [hf2]; exact hseg.take hp' 30) (by rw [hf2, List.length_take]; omega) ?_ (fun t' h1 _ => hsame t' (List.mem_of_mem_take h1)) hX.len (fun t ht => hR.1.2.1 t (List.mem_of_mem_take ht)) (netW_top h512 hX)
  rw [hf2]
  rcases hR.2.2.2.2 with hc | hc
  · left; rw [List.length_take]; omega
  · by_cases h31 : T.length ≤ 30
    · right
      intro u h0
      have h1 := net_no_less hX hY u h0
      rw [List.take_of_length_le h31]
      exact hc u h1.1
    · left; rw [List.length_take]; omega
theorem RowOf.via {wo : Int} {R : List Stp} (h : RowOf n L fr wo d st R) {x : Stp} (hx : x ∈ R) (hv : x.2.2 = (v : Int)) : ∃ s ∈ R, s.1 = (v : Int) := by
  obtain ⟨T, us, _, hR, rfl⟩ := h
  obtain ⟨t, ht, rfl⟩ := stps_mem.1 hx
  simp only at hv
  rcases hR.2.1 t ht with ⟨_, _, h3⟩ | ⟨b, hb, h1, _⟩
  · omega
  · exact ⟨_, stps_mem.2 ⟨b, hb, rfl⟩, by simp only; omega⟩
end
def ovB (D : Nat → Int → List Int) (v : Int) (a b : Ar) : Bool := foundB (D a.f.toNat v) b.t (a.w + b.w) 30
def scR (D : Nat → Int → List Int) (L : List Ar) (v : Int) : List Ar := (inL L v).flatMap fun a => ((outL L v).filter fun b => !(ovB D v a b)).map fun b => ⟨a.f, b.t, a.w + b.w, v⟩
def wthR (D : Nat → Int → List Int) (L : List Ar) (v : Int) : Int := ((scR D L v).length : Int) - (inL L v).length - (outL L v).length
def DOk (n : Nat) (L : List Ar) (D : Nat → Int → List Int) : Prop := ∀ (fr : Nat) (wo : Int), Fix (netW n L (fr : Int) wo) (D fr wo)
theorem DOk.ex (n : Nat) (hn : n ≤ 512) (L : List Ar) : ∃ D, DOk n L D := by
  have h : ∀ fr : Nat, ∃ D : Int → List Int, ∀ wo, Fix (netW n L (fr : Int) wo) (D wo) := fun fr => Classical.axiomOfChoice (fun wo => netW_ex n hn L (fr : Int) wo)
  exact Classical.axiomOfChoice h
end Go.Proofs.YtjjedebjbgpimaaGreat
namespace Go.Proofs.YtjjedebjbgpimaaGreat
open Go.RowKit Mile
structure Taken (X Y : Web) (v : Nat) : Prop where
  st : ∀ e, Y.st e ↔ X.st e
  m : Y.m = X.m
  stay : ∀ e b, X.rl e b → e ≠ v → b ≠ v → Y.rl e b ∧ Y.wt e b ≤ X.wt e b
  from_ : ∀ e b, Y.rl e b → (X.rl e b ∧ Y.wt e b = X.wt e b) ∨ (X.rl v b ∧ X.rl e v ∧ Y.wt e b = X.wt v b + X.wt e v)
section
variable {X Y : Web} {v : Nat} {d d' : List Int} {st : Nat} {T : List Nat} {us : List Int}
theorem Taken.far (h : Taken X Y v) (hX : Fix X d) (hY : Fix Y d') : ∀ (k : Nat) (u : Nat), dAt d' u ≤ k → 0 ≤ dAt d' u → 0 ≤ dAt d u ∧ dAt d u ≤ dAt d' u := by
  intro k
  induction k using Nat.strongRecOn with
  | ind k ih =>
    intro u hk h0
    rcases hY.why u h0 with ⟨h1, h2⟩ | ⟨b, h1, h2, h3⟩
    · have hu : u < X.m := by have := dAt_in h0; rw [hY.len, h.m] at this; exact this
      have := hX.st u ((h.st u).1 h1) hu
      omega
    · have hw := (Y.one u b h1).1
      have hi := ih (k - 1) (by omega) b (by omega) h2
      rcases h.from_ u b h1 with ⟨g1, g2⟩ | ⟨g1, g2, g3⟩
      · have := hX.shut u b g1 hi.1
        omega
      · have a1 := hX.shut v b g1 hi.1
        have a2 := hX.shut u v g2 a1.1
        omega
theorem Taken.near (h : Taken X Y v) (hX : Fix X d) (hY : Fix Y d') (hR : RowW X d st T us) (hv : v ∉ T) : ∀ (k : Nat) (t : Nat), dAt d t ≤ k → t ∈ T → dAt d' t = dAt d t := by
  intro k
  induction k using Nat.strongRecOn with
  | ind k ih =>
    intro t hk ht
    have h0 := hR.1.2.1 t ht
    have hle : 0 ≤ dAt d' t ∧ dAt d' t ≤ dAt d t := by
      rcases hR.2.1 t ht with ⟨h1, h2, _⟩ | ⟨b, hb, _, h2, h3⟩
      · have ht2 : t < Y.m := by have := dAt_in h0; rw [hX.len, ← h.m] at this; exact this
        have := hY.st t ((h.st t).2 h1) ht2
        omega
      · have hw := (X.one t b h2).1
        have hb0 := hR.1.2.1 b hb
        have hi := ih (k - 1) (by omega) b (by omega) hb
        have hs := h.stay t b h2 (fun e => hv (e ▸ ht)) (fun e => hv (e ▸ hb))
        have := hY.shut t b hs.1 (by omega)
        omega
    have := h.far hX hY (dAt d' t).toNat t (by omega) hle.1
    omega
theorem Taken.row (h : Taken X Y v) (hX : Fix X d) (hY : Fix Y d') (hR : RowW X d st T us) (hv : v ∉ T) : RowW Y d' st T us ∧ stpsOf d' us T = stpsOf d us T := by
  have hn : ∀ t ∈ T, dAt d' t = dAt d t := fun t ht => h.near hX hY hR hv (dAt d t).toNat t (by have := hR.1.2.1 t ht; omega) ht
  have hfar := fun u => h.far hX hY (dAt d' u).toNat u
  obtain ⟨hs, hset, hp, hl, hc⟩ := hR
  refine ⟨⟨⟨hs.1, fun t ht => by rw [hn t ht]; exact hs.2.1 t ht, fun t ht u hu h0 => ?_⟩, fun t ht => ?_, hp.imp_of_mem fun {a b} ha hb hab => ?_, hl, hc.imp id fun hall u h0 => hall u (hfar u (by omega) h0).1⟩, ?_⟩
  · have h1 := hfar u (by omega) h0
    have h2 := hs.2.2 t ht u hu h1.1
    have h3 := hn t ht
    unfold ahead at h2 ⊢
    omega
  · rcases hset t ht with ⟨h1, h2, h3⟩ | ⟨b, hb, h1, h2, h3⟩
    · exact .inl ⟨(h.st t).2 h1, by rw [hn t ht]; exact h2, h3⟩
    · have hk := h.stay t b h2 (fun e => hv (e ▸ ht)) (fun e => hv (e ▸ hb))
      have e1 := hn t ht
      have e2 := hn b hb
      have := hY.shut t b hk.1 (by have := hs.2.1 b hb; omega)
      exact .inr ⟨b, hb, h1, hk.1, by omega⟩
  · unfold ahead at hab ⊢
    rw [hn a ha, hn b hb]; exact hab
  · unfold stpsOf
    exact List.map_congr_left fun t ht => by rw [hn t ht]
end
theorem RowOf.over {n : Nat} {L L' : List Ar} {fr v : Nat} {wo : Int} {d d' : List Int} {st : Nat} {R : List Stp} (h : RowOf n L fr wo d st R) (ht : Taken (netW n L (fr : Int) wo) (netW n L' (fr : Int) wo) v) (hX : Fix (netW n L (fr : Int) wo) d) (hY : Fix (netW n L' (fr : Int) wo) d') (hno : ∀ s ∈ R, s.1 ≠ (v : Int)) : RowOf n L' fr wo d' st R := by
  obtain ⟨T, us, hl, hR, rfl⟩ := h
  have hv : v ∉ T := fun hm => hno _ (stps_mem.2 ⟨v, hm, rfl⟩) rfl
  obtain ⟨h1, h2⟩ := ht.row hX hY hR hv
  exact ⟨T, us, hl, h1, h2.symm⟩
theorem put_low1 (L : List Ar) (a y : Ar) (hy : y ∈ L ∨ y = a) : ∃ z ∈ putN L a, z.f = y.f ∧ z.t = y.t ∧ z.w ≤ y.w := by
  unfold putN
  cases hp : putB L a with
  | true =>
    rw [if_pos rfl]
    rcases hy with hy | rfl
    · by_cases he : y.f = a.f ∧ y.t = a.t
      · have h1 : y ∈ eqN L a := List.mem_filter.2 ⟨hy, decide_eq_true he⟩
        unfold putB at hp
        have h2 := of_decide_eq_true (List.all_eq_true.1 hp y h1)
        exact ⟨a, mem_newN.2 (.inl rfl), he.1.symm, he.2.symm, by omega⟩
      · refine ⟨y, mem_newN.2 (.inr ⟨hy, ?_⟩), rfl, rfl, Int.le_refl _⟩
        unfold keyLt
        omega
    · exact ⟨y, mem_newN.2 (.inl rfl), rfl, rfl, Int.le_refl _⟩
  | false =>
    rw [if_neg (by simp)]
    rcases hy with hy | rfl
    · exact ⟨y, hy, rfl, rfl, Int.le_refl _⟩
    · unfold putB at hp
      rw [List.all_eq_false] at hp
      obtain ⟨b, hb, hn⟩ := hp
      have h1 := List.mem_filter.1 hb
      have h2 := of_decide_eq_true h1.2
      have h3 : ¬ y.w < b.w := fun e => hn (decide_eq_true e)
      exact ⟨b, h1.1, h2.1, h2.2, by omega⟩
theorem mem_scR {D : Nat → Int → List Int} {L : List Ar} {v : Int} {x : Ar} : x ∈ scR D L v ↔ ∃ a ∈ inL L v, ∃ b ∈ outL L v, ovB D v a b = false ∧ x = ⟨a.f, b.t, a.w + b.w, v⟩ := by
  unfold scR
  rw [List.mem_flatMap]
  constructor
  · rintro ⟨a, ha, hx⟩
    obtain ⟨b, hb, rfl⟩ := List.mem_map.1 hx
    obtain ⟨h1, h2⟩ := List.mem_filter.1 hb
    exact ⟨a, ha, b, h1, by simpa using h2, rfl⟩
  · rintro ⟨a, ha, b, hb, ho, rfl⟩
    exact ⟨a, ha, List.mem_map.2 ⟨b, List.mem_filter.2 ⟨hb, by rw [ho]; rfl⟩, rfl⟩⟩
theorem netOk_putR {n : Nat} {L : List Ar} (h : NetOk n L) (a : Ar) : NetOk n (putR n L a) := by
  unfold putR
  split
  · exact h.put (by assumption)
  · exact h
theorem putRs_ok {n : Nat} (A : List Ar) : ∀ L, NetOk n L → NetOk n (A.foldl (putR n) L) := by
  induction A with
  | nil => exact fun L h => h
  | cons a A ih => exact fun L h => ih _ (netOk_putR h a)
theorem mem_putR {n : Nat} {L : List Ar} {a b : Ar} (h : b ∈ putR n L a) : b ∈ L ∨ b = a := by
  unfold putR at h
  split at h
  · unfold putN at h
    split at h
    · rcases mem_newN.1 h with h | h
      · exact .inr h
      · exact .inl h.1
    · exact .inl h
  · exact .inl h
theorem mem_putRs {n : Nat} (A : List Ar) : ∀ (L : List Ar) (b : Ar), b ∈ A.foldl (putR n) L → b ∈ L ∨ b ∈ A := by
  induction A with
  | nil => exact fun L b h => .inl h
  | cons a A ih =>
    intro L b h
    rcases ih _ b h with h | h
    · rcases mem_putR h with h | h
      · exact .inl h
      · exact .inr (by rw [h]; exact List.mem_cons_self)
    · exact .inr (List.mem_cons_of_mem _ h)
theorem putR_low {n : Nat} (L : List Ar) (a y : Ar) (hy : y ∈ L ∨ (y = a ∧ mayA n y)) : ∃ z ∈ putR n L a, z.f = y.f ∧ z.t = y.t ∧ z.w ≤ y.w := by
  unfold putR
  by_cases h : mayA n a
  · rw [if_pos h]
    exact put_low1 L a y (hy.imp id (fun e => e.1))
  · rw [if_neg h]
    rcases hy with hy | ⟨rfl, hy⟩
    · exact ⟨y, hy, rfl, rfl, Int.le_refl _⟩
    · exact absurd hy h
theorem putRs_low {n : Nat} (A : List Ar) : ∀ (L : List Ar) (y : Ar), (y ∈ L ∨ (y ∈ A ∧ mayA n y)) → ∃ z ∈ A.foldl (putR n) L, z.f = y.f ∧ z.t = y.t ∧ z.w ≤ y.w := by
  induction A with
  | nil => exact fun L y hy => ⟨y, hy.elim id (fun h => by cases h.1), rfl, rfl, Int.le_refl _⟩
  | cons a A ih =>
    intro L y hy
    have key : ∀ x, (x ∈ L ∨ (x = a ∧ mayA n x)) → ∃ z ∈ A.foldl (putR n) (putR n L a), z.f = x.f ∧ z.t = x.t ∧ z.w ≤ x.w := fun x hx => by
      obtain ⟨z, h1, h2, h3, h4⟩ := putR_low L a x hx
      obtain ⟨z2, g1, g2, g3, g4⟩ := ih (putR n L a) z (.inl h1)
      exact ⟨z2, g1, by omega, by omega, by omega⟩
    rcases hy with hy | ⟨hy, hmy⟩
    · exact key y (.inl hy)
    · rcases List.mem_cons.1 hy with rfl | hy
      · exact key y (.inr ⟨rfl, hmy⟩)
      · exact ih (putR n L a) y (.inr ⟨hy, hmy⟩)
def takeR (n : Nat) (D : Nat → Int → List Int) (L : List Ar) (v : Nat) : List Ar := cutN ((scR D L (v : Int)).foldl (putR n) L) (v : Int)
theorem takeR_ok {n : Nat} {L : List Ar} (h : NetOk n L) (D : Nat → Int → List Int) (v : Nat) : NetOk n (takeR n D L v) := (putRs_ok _ _ h).cut _
theorem taken_net {n : Nat} {L : List Ar} (hok : NetOk n L) (D : Nat → Int → List Int) {v : Nat} {fr wo : Int} (hwv : wo ≠ (v : Int)) : Taken (netW n L fr wo) (netW n (takeR n D L v) fr wo) v := by
  have hok' := takeR_ok hok D v
  have hw : ∀ a ∈ L, a.w ≤ 1099511627776 := fun a ha => (hok.may a ha).2.2.2.2.2.2.1
  have hw' : ∀ a ∈ takeR n D L v, a.w ≤ 1099511627776 := fun a ha => (hok'.may a ha).2.2.2.2.2.2.1
  refine ⟨fun _ => Iff.rfl, rfl, fun e b hr he hb => ?_, fun e b hr => ?_⟩
  · obtain ⟨a, ha, hat, haf, hawo, hwt⟩ := netW_inv hr
    obtain ⟨z, hz, h1, h2, h3⟩ := putRs_low (n := n) (scR D L (v : Int)) L a (.inl ha)
    have hz2 : z ∈ takeR n D L v := mem_cutN.2 ⟨hz, by omega, by omega⟩
    refine ⟨netW_rl hok' hw' hz2 (by omega) (by omega) (by omega), ?_⟩
    rw [netW_wt hok'.sort hz2 (e := e) (b := b) (by omega) (by omega), hwt]
    exact h3
  · obtain ⟨a, ha, hat, haf, hawo, hwt⟩ := netW_inv hr
    obtain ⟨h1, h2, h3⟩ := mem_cutN.1 ha
    rcases mem_putRs _ _ _ h1 with h4 | h4
    · exact .inl ⟨netW_rl hok hw h4 hat haf hawo, by rw [hwt, netW_wt hok.sort h4 hat haf]⟩
    · obtain ⟨p, hp, q, hq, _, rfl⟩ := mem_scR.1 h4
      obtain ⟨hpL, hpt⟩ := mem_inL.1 hp
      obtain ⟨hqL, hqf⟩ := mem_outL.1 hq
      simp only at hat haf hawo hwt
      exact .inr ⟨netW_rl hok hw hpL hpt haf (by omega), netW_rl hok hw hqL hat hqf hawo, by rw [hwt, netW_wt hok.sort hpL hpt haf, netW_wt hok.sort hqL hat hqf]⟩
end Go.Proofs.YtjjedebjbgpimaaGreat
