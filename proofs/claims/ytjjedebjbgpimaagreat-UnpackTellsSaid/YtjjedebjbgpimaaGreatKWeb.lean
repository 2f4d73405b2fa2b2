/- (XDistP and XDistB without a graph.) How far it is, as plain lists: one answer for each graph; what a search by a heap keeps. -/
import Derived.Test.YtjjedebjbgpimaaGreatKWH
import Derived.Test.YtjjedebjbgpimaaGreatKBase
namespace Go.Proofs.YtjjedebjbgpimaaGreat
open Go.RowKit Mile
def dAt (d : List Int) (i : Nat) : Int := d.getD i (-1)
theorem dAt_set (d : List Int) (i : Nat) (x : Int) (j : Nat) (h : i < d.length) : dAt (d.set i x) j = if j = i then x else dAt d j := by
  unfold dAt
  rw [List.getD, List.getD, List.getElem?_set]
  by_cases e : i = j
  · subst e; simp [h]
  · rw [if_neg e, if_neg (Ne.symm e)]
theorem dAt_eq (d : List Int) (i : Nat) (h : i < d.length) : dAt d i = d[i] := by simp [dAt, List.getD, h]
theorem dAt_out (d : List Int) (i : Nat) (h : d.length ≤ i) : dAt d i = -1 := by simp [dAt, List.getD, h]
structure Web where
  m : Nat
  st : Nat → Prop
  rl : Nat → Nat → Prop
  wt : Nat → Nat → Int
  one : ∀ e b, rl e b → 1 ≤ wt e b ∧ wt e b ≤ 1099511627776 ∧ e < m ∧ b < m
structure Fix (X : Web) (d : List Int) : Prop where
  len : d.length = X.m
  low : ∀ e, -1 ≤ dAt d e
  st : ∀ e, X.st e → e < X.m → dAt d e = 0
  why : ∀ e, 0 ≤ dAt d e → (X.st e ∧ dAt d e = 0) ∨ ∃ b, X.rl e b ∧ 0 ≤ dAt d b ∧ dAt d e = dAt d b + X.wt e b
  shut : ∀ e b, X.rl e b → 0 ≤ dAt d b → 0 ≤ dAt d e ∧ dAt d e ≤ dAt d b + X.wt e b
theorem dAt_in {d : List Int} {i : Nat} (h : 0 ≤ dAt d i) : i < d.length := by
  refine Nat.lt_of_not_le fun hl => ?_
  rw [dAt_out d i hl] at h; omega
theorem Fix.le {X Y : Web} {d d' : List Int} (h : Fix X d) (h' : Fix Y d') (hm : X.m = Y.m) (hs : ∀ e, X.st e → Y.st e) (hr : ∀ e b, X.rl e b → Y.rl e b ∧ Y.wt e b = X.wt e b) : ∀ (n : Nat) e, 0 ≤ dAt d e → dAt d e ≤ n → 0 ≤ dAt d' e ∧ dAt d' e ≤ dAt d e := by
  intro n
  induction n using Nat.strongRecOn with
  | ind n ih =>
    intro e h0 hn
    rcases h.why e h0 with ⟨h1, h2⟩ | ⟨b, h1, h2, h3⟩
    · have := h'.st e (hs e h1) (by rw [← hm, ← h.len]; exact dAt_in h0); omega
    · have hw := (X.one e b h1).1
      have hb := ih (n - 1) (by omega) b h2 (by omega)
      have := h'.shut e b (hr e b h1).1 hb.1
      rw [(hr e b h1).2] at this
      omega
theorem Fix.uniq {X : Web} {d d' : List Int} (h : Fix X d) (h' : Fix X d') : d = d' := by
  have key : ∀ e, dAt d e = dAt d' e := by
    intro e
    have l1 := h.low e
    have l2 := h'.low e
    by_cases a : 0 ≤ dAt d e
    · have k := h.le h' rfl (fun _ x => x) (fun _ _ x => ⟨x, rfl⟩) (dAt d e).toNat e a (by omega)
      have k2 := h'.le h rfl (fun _ x => x) (fun _ _ x => ⟨x, rfl⟩) (dAt d' e).toNat e k.1 (by omega)
      omega
    · by_cases c : 0 ≤ dAt d' e
      · have k2 := h'.le h rfl (fun _ x => x) (fun _ _ x => ⟨x, rfl⟩) (dAt d' e).toNat e c (by omega)
        omega
      · omega
  refine List.ext_getElem (by rw [h.len, h'.len]) fun i h1 h2 => ?_
  have := key i
  rwa [dAt_eq d i h1, dAt_eq d' i h2] at this
def openN (d : List Int) : Nat := (d.filter (fun x => x == -1)).length
theorem openN_set : ∀ (d : List Int) (e : Nat) (x : Int), e < d.length → dAt d e = -1 → 0 ≤ x → openN (d.set e x) + 1 = openN d
  | [], e, x, h, _, _ => by simp at h
  | y :: d, 0, x, _, hd, hx => by
    have : y = -1 := by simpa [dAt] using hd
    subst this
    have hx2 : (x == -1) = false := by rw [beq_eq_false_iff_ne]; omega
    simp [openN, hx2]
  | y :: d, e + 1, x, h, hd, hx => by
    have ih := openN_set d e x (by simpa using h) (by simpa [dAt] using hd) hx
    unfold openN at ih ⊢
    rw [List.set_cons_succ, List.filter_cons, List.filter_cons]
    split
    · simp only [List.length_cons]; omega
    · exact ih
structure Dij (X : Web) (d : List Int) (S : List It) (c : Int) (pend : Nat → Nat → Prop) (pst : Nat → Prop) : Prop where
  len : d.length = X.m
  low : ∀ e, -1 ≤ dAt d e ∧ dAt d e ≤ c
  c0 : 0 ≤ c
  ids : ∀ x ∈ S, ∃ e : Nat, x.1 = e ∧ e < X.m ∧ dAt d e = -1 ∧ c ≤ x.2
  why : ∀ e, 0 ≤ dAt d e → (X.st e ∧ dAt d e = 0) ∨ ∃ b, X.rl e b ∧ 0 ≤ dAt d b ∧ dAt d e = dAt d b + X.wt e b
  whyS : ∀ (e : Nat) k, ((e : Int), k) ∈ S → (X.st e ∧ k = 0) ∨ ∃ b, X.rl e b ∧ 0 ≤ dAt d b ∧ k = dAt d b + X.wt e b
  st : ∀ e, X.st e → e < X.m → ¬ pst e → (0 ≤ dAt d e ∧ dAt d e ≤ 0) ∨ ∃ k, ((e : Int), k) ∈ S ∧ k ≤ 0
  shut : ∀ e b, X.rl e b → 0 ≤ dAt d b → ¬ pend e b → (0 ≤ dAt d e ∧ dAt d e ≤ dAt d b + X.wt e b) ∨ ∃ k, ((e : Int), k) ∈ S ∧ k ≤ dAt d b + X.wt e b
  cap : ∀ x ∈ S, x.2 ≤ c + 1099511627776
  top : c + (openN d : Int) * 1099511627776 ≤ (X.m : Int) * 1099511627776
theorem openN_rep : ∀ m, openN (List.replicate m (-1)) = m
  | 0 => rfl
  | m + 1 => by have := openN_rep m; unfold openN at this ⊢; rw [List.replicate_succ, List.filter_cons]; simp only [beq_self_eq_true, if_true, List.length_cons]; omega
theorem dAt_rep (m e : Nat) : dAt (List.replicate m (-1)) e = -1 := by
  by_cases he : e < m
  · rw [dAt_eq _ _ (by simpa using he)]; simp
  · rw [dAt_out _ _ (by simp; omega)]
theorem Dij.begin (X : Web) (pst : Nat → Prop) (hp : ∀ e, X.st e → e < X.m → pst e) : Dij X (List.replicate X.m (-1)) [] 0 (fun _ _ => False) pst := by
  have h := dAt_rep X.m
  exact ⟨by simp, fun e => by rw [h e]; omega, by omega, by simp, fun e he => by rw [h e] at he; omega, by simp, fun e h1 h2 h3 => absurd (hp e h1 h2) h3, fun e b _ hb => by rw [h b] at hb; omega, by simp, by rw [openN_rep]; omega⟩
theorem push_mem {S : List It} {id key : Int} : ∀ x, x ∈ (pushS S id key).2 → x ∈ S ∨ x = (id, key) := by
  intro x hx
  unfold pushS at hx
  cases hk : keyS S id with
  | none =>
    rw [hk] at hx; simp only [] at hx
    have := (insS_perm S (id, key)).mem_iff.1 hx
    rcases List.mem_cons.1 this with e | e
    · exact .inr e
    · exact .inl e
  | some k =>
    rw [hk] at hx
    simp only [] at hx
    split at hx
    · exact .inl hx
    · have := (insS_perm _ (id, key)).mem_iff.1 hx
      rcases List.mem_cons.1 this with e | e
      · exact .inr e
      · exact .inl (mem_dropS.1 e).1
theorem push_has {S : List It} {id key : Int} : ∃ k, (id, k) ∈ (pushS S id key).2 ∧ k ≤ key := by
  unfold pushS
  cases hk : keyS S id with
  | none => exact ⟨key, (insS_perm S (id, key)).mem_iff.2 (by simp), Int.le_refl _⟩
  | some k =>
    simp only []
    split
    · rename_i h
      exact ⟨k, keyS_inv hk, h⟩
    · exact ⟨key, (insS_perm _ (id, key)).mem_iff.2 (by simp), Int.le_refl _⟩
theorem push_old {S : List It} {id key : Int} (hid : Ids S) : ∀ x k, (x, k) ∈ S → ∃ k', (x, k') ∈ (pushS S id key).2 ∧ k' ≤ k := by
  intro x k hx
  by_cases e : x = id
  · subst e
    have hk : keyS S x = some k := keyS_some hid hx rfl
    unfold pushS
    rw [hk]
    simp only []
    split
    · exact ⟨k, hx, Int.le_refl _⟩
    · rename_i h
      exact ⟨key, (insS_perm _ (x, key)).mem_iff.2 (by simp), by omega⟩
  · unfold pushS
    cases hk : keyS S id with
    | none => exact ⟨k, (insS_perm S (id, key)).mem_iff.2 (by simp [hx]), Int.le_refl _⟩
    | some k0 =>
      simp only []
      split
      · exact ⟨k, hx, Int.le_refl _⟩
      · exact ⟨k, (insS_perm _ (id, key)).mem_iff.2 (by simp [mem_dropS, hx, e]), Int.le_refl _⟩
def reachS (d : List Int) (S : List It) (e : Nat) (k : Int) : List It := if dAt d e = -1 then (pushS S e k).2 else S
theorem Dij.reach {X : Web} {d : List Int} {S : List It} {c : Int} {pend pend' : Nat → Nat → Prop} {pst : Nat → Prop} (h : Dij X d S c pend pst) (hid : Ids S) {e b : Nat} (hr : X.rl e b) (hb : 0 ≤ dAt d b) (hc : c ≤ dAt d b + X.wt e b)
    (hp : ∀ e' b', pend e' b' → pend' e' b' ∨ (e' = e ∧ b' = b)) : Dij X d (reachS d S e (dAt d b + X.wt e b)) c pend' pst := by
  have hm := X.one e b hr
  unfold reachS
  by_cases hd : dAt d e = -1
  · rw [if_pos hd]
    refine ⟨h.len, h.low, h.c0, fun x hx => ?_, h.why, fun e' k hx => ?_, fun e' hs hl hp => ?_, fun e' b' hr' hb' hp' => ?_, fun x hx => ?_, h.top⟩
    · rcases push_mem x hx with h1 | rfl
      · exact h.ids x h1
      · exact ⟨e, rfl, hm.2.2.1, hd, hc⟩
    · rcases push_mem _ hx with h1 | h1
      · exact h.whyS e' k h1
      · simp only [Prod.mk.injEq] at h1
        have he : e' = e := by omega
        subst he
        exact .inr ⟨b, hr, hb, h1.2⟩
    · rcases h.st e' hs hl hp with h1 | ⟨k, h1, h2⟩
      · exact .inl h1
      · obtain ⟨k', h3, h4⟩ := push_old (id := (e : Int)) (key := dAt d b + X.wt e b) hid _ _ h1
        exact .inr ⟨k', h3, by omega⟩
    · by_cases hp2 : pend e' b'
      · rcases hp e' b' hp2 with h1 | ⟨rfl, rfl⟩
        · exact absurd h1 hp'
        · exact .inr push_has
      · rcases h.shut e' b' hr' hb' hp2 with h1 | ⟨k, h1, h2⟩
        · exact .inl h1
        · obtain ⟨k', h3, h4⟩ := push_old (id := (e : Int)) (key := dAt d b + X.wt e b) hid _ _ h1
          exact .inr ⟨k', h3, by omega⟩
    · rcases push_mem x hx with h1 | rfl
      · exact h.cap x h1
      · have := h.low b; have := hm.2.1; show dAt d b + X.wt e b ≤ _; omega
  · rw [if_neg hd]
    refine ⟨h.len, h.low, h.c0, h.ids, h.why, h.whyS, h.st, fun e' b' hr' hb' hp' => ?_, h.cap, h.top⟩
    by_cases hp2 : pend e' b'
    · rcases hp e' b' hp2 with h1 | ⟨rfl, rfl⟩
      · exact absurd h1 hp'
      · have h1 := h.low e'
        exact .inl ⟨by omega, by omega⟩
    · exact h.shut e' b' hr' hb' hp2
theorem Dij.start {X : Web} {d : List Int} {S : List It} {pend : Nat → Nat → Prop} {pst pst' : Nat → Prop} (h : Dij X d S 0 pend pst) (hid : Ids S) {e : Nat} (hs : X.st e) (he : e < X.m) (hd : dAt d e = -1)
    (hp : ∀ e', pst e' → pst' e' ∨ e' = e) : Dij X d (reachS d S e 0) 0 pend pst' := by
  unfold reachS
  rw [if_pos hd]
  refine ⟨h.len, h.low, h.c0, fun x hx => ?_, h.why, fun e' k hx => ?_, fun e' hs hl hp' => ?_, fun e' b' hr' hb' hp' => ?_, fun x hx => ?_, h.top⟩
  · rcases push_mem x hx with h1 | rfl
    · exact h.ids x h1
    · exact ⟨e, rfl, he, hd, Int.le_refl _⟩
  · rcases push_mem _ hx with h1 | h1
    · exact h.whyS e' k h1
    · simp only [Prod.mk.injEq] at h1
      have he : e' = e := by omega
      subst he
      exact .inl ⟨hs, h1.2⟩
  · by_cases hp2 : pst e'
    · rcases hp e' hp2 with h1 | rfl
      · exact absurd h1 hp'
      · exact .inr push_has
    · rcases h.st e' hs hl hp2 with h1 | ⟨k, h1, h2⟩
      · exact .inl h1
      · obtain ⟨k', h3, h4⟩ := push_old (id := (e : Int)) (key := 0) hid _ _ h1
        exact .inr ⟨k', h3, by omega⟩
  · rcases h.shut e' b' hr' hb' hp' with h1 | ⟨k, h1, h2⟩
    · exact .inl h1
    · obtain ⟨k', h3, h4⟩ := push_old (id := (e : Int)) (key := 0) hid _ _ h1
      exact .inr ⟨k', h3, by omega⟩
  · rcases push_mem x hx with h1 | rfl
    · exact h.cap x h1
    · show (0 : Int) ≤ _; omega
theorem Dij.pop {X : Web} {d : List Int} {S : List It} {c : Int} {x : It} (h : Dij X d (x :: S) c (fun _ _ => False) (fun _ => False)) (hs : Srt (x :: S)) (hid : Ids (x :: S)) :
    ∃ e : Nat, x.1 = e ∧ e < X.m ∧ dAt d e = -1 ∧ 0 ≤ x.2 ∧ Dij X (d.set e x.2) S x.2 (fun _ b => b = e) (fun _ => False) ∧ dAt (d.set e x.2) e = x.2 := by
  obtain ⟨e, he, hem, hd, hc⟩ := h.ids x List.mem_cons_self
  have h0 : 0 ≤ x.2 := by have := h.c0; omega
  have hel : e < d.length := by rw [h.len]; exact hem
  have hset := fun j => dAt_set d e x.2 j hel
  have hmin : ∀ y ∈ S, x.2 ≤ y.2 := by
    intro y hy
    have := (List.pairwise_cons.1 hs).1 y hy
    rw [bef_iff] at this
    omega
  have hne : ∀ y ∈ S, y.1 ≠ (e : Int) := by
    intro y hy
    have := (List.pairwise_cons.1 (show ((x.1) :: S.map (·.1)).Pairwise (· ≠ ·) from hid)).1 y.1 (List.mem_map_of_mem hy)
    rw [← he]; exact fun e2 => this e2.symm
  have up : ∀ b, 0 ≤ dAt d b → b ≠ e := fun b hb e2 => by rw [e2, hd] at hb; omega
  have keepd : ∀ b, 0 ≤ dAt d b → dAt (d.set e x.2) b = dAt d b := fun b hb => by rw [hset, if_neg (up b hb)]
  have mv : ∀ (e' : Nat) (k0 k : Int), ((e' : Int), k) ∈ x :: S → k ≤ k0 → (0 ≤ dAt (d.set e x.2) e' ∧ dAt (d.set e x.2) e' ≤ k0) ∨ ∃ k, ((e' : Int), k) ∈ S ∧ k ≤ k0 := by
    intro e' k0 k hk hle
    rcases List.mem_cons.1 hk with h1 | h1
    · have : e' = e := by have := congrArg Prod.fst h1; simp only at this; omega
      subst this
      have h2 : k = x.2 := by rw [← h1]
      rw [hset, if_pos rfl]; exact .inl ⟨h0, by omega⟩
    · exact .inr ⟨k, h1, hle⟩
  refine ⟨e, he, hem, hd, h0, ⟨by rw [List.length_set]; exact h.len, fun j => ?_, h0, fun y hy => ?_, fun j hj => ?_, fun j k hk => ?_, fun j hs hl _ => ?_, fun j b hr hb hp => ?_, fun y hy => ?_, ?_⟩, by rw [hset, if_pos rfl]⟩
  · rw [hset]
    split
    · omega
    · have := h.low j; omega
  · obtain ⟨j, h1, h2, h3, h4⟩ := h.ids y (List.mem_cons_of_mem _ hy)
    refine ⟨j, h1, h2, ?_, hmin y hy⟩
    rw [hset, if_neg (fun e2 => hne y hy (by rw [h1, e2]))]; exact h3
  · rw [hset] at hj ⊢
    by_cases e2 : j = e
    · subst e2
      rw [if_pos rfl]
      have hx : ((j : Int), x.2) ∈ x :: S := by rw [← he]; exact List.mem_cons_self
      rcases h.whyS j x.2 hx with ⟨h1, h2⟩ | ⟨b, h1, h2, h3⟩
      · exact .inl ⟨h1, h2⟩
      · exact .inr ⟨b, h1, by rw [keepd b h2]; exact h2, by rw [keepd b h2]; exact h3⟩
    · rw [if_neg e2] at hj ⊢
      rcases h.why j hj with h1 | ⟨b, h1, h2, h3⟩
      · exact .inl h1
      · exact .inr ⟨b, h1, by rw [keepd b h2]; exact h2, by rw [keepd b h2]; exact h3⟩
  · rcases h.whyS j k (List.mem_cons_of_mem _ hk) with h1 | ⟨b, h1, h2, h3⟩
    · exact .inl h1
    · exact .inr ⟨b, h1, by rw [keepd b h2]; exact h2, by rw [keepd b h2]; exact h3⟩
  · rcases h.st j hs hl (fun e => e) with h1 | ⟨k, h1, h2⟩
    · rw [keepd j h1.1]; exact .inl h1
    · exact mv j 0 k h1 h2
  · have hbe : b ≠ e := hp
    rw [hset, if_neg hbe] at hb
    rw [keepd b hb]
    rcases h.shut j b hr hb (fun e => e) with h1 | ⟨k, h1, h2⟩
    · rw [keepd j h1.1]; exact .inl h1
    · exact mv j _ k h1 h2
  · have := h.cap y (List.mem_cons_of_mem _ hy); omega
  · have := openN_set d e x.2 hel hd h0
    have h1 := h.top
    have h2 := h.cap x List.mem_cons_self
    omega
theorem Dij.done {X : Web} {d : List Int} {c : Int} (h : Dij X d [] c (fun _ _ => False) (fun _ => False)) : Fix X d := by
  refine ⟨h.len, fun e => (h.low e).1, fun e hs hl => ?_, h.why, fun e b hr hb => ?_⟩
  · rcases h.st e hs hl (fun e => e) with h1 | ⟨k, h1, _⟩
    · omega
    · cases h1
  · rcases h.shut e b hr hb (fun e => e) with h1 | ⟨k, h1, _⟩
    · exact h1
    · cases h1
theorem Dij.said {X : Web} {d : List Int} {S : List It} {c : Int} {pend pend' : Nat → Nat → Prop} {pst pst' : Nat → Prop} (h : Dij X d S c pend pst) (hp : ∀ e b, X.rl e b → 0 ≤ dAt d b → pend e b → pend' e b) (hq : ∀ e, X.st e → e < X.m → pst e → pst' e) : Dij X d S c pend' pst' :=
  ⟨h.len, h.low, h.c0, h.ids, h.why, h.whyS, fun e hs hl hn => h.st e hs hl (fun x => hn (hq e hs hl x)), fun e b hr hb hn => h.shut e b hr hb (fun x => hn (hp e b hr hb x)), h.cap, h.top⟩
theorem nodup_le : ∀ (l r : List Int), l.Nodup → l ⊆ r → l.length ≤ r.length
  | [], _, _, _ => by simp
  | x :: l, r, h, hs => by
    have hx : x ∈ r := hs List.mem_cons_self
    have h2 := List.nodup_cons.1 h
    have := nodup_le l (r.erase x) h2.2 (fun y hy => (List.mem_erase_of_ne (fun e => h2.1 (by rw [← e]; exact hy))).2 (hs (List.mem_cons_of_mem _ hy)))
    rw [List.length_erase_of_mem hx] at this
    have := List.length_pos_of_mem hx
    simp; omega
theorem Dij.few {X : Web} {d : List Int} {S : List It} {c : Int} {pend : Nat → Nat → Prop} {pst : Nat → Prop} (h : Dij X d S c pend pst) (hid : Ids S) : S.length ≤ X.m := by
  have h1 : (S.map (·.1)).Nodup := hid
  have h2 : (S.map (·.1)) ⊆ (List.range X.m).map Int.ofNat := by
    intro y hy
    obtain ⟨x, hx, rfl⟩ := List.mem_map.1 hy
    obtain ⟨e, he, hm, _⟩ := h.ids x hx
    exact List.mem_map.2 ⟨e, List.mem_range.2 hm, by rw [he]; rfl⟩
  have := nodup_le _ _ h1 h2
  simpa using this
def sumf (f : Int → Nat) : List Int → Nat
  | [] => 0
  | x :: d => f x + sumf f d
theorem sumf_set (f : Int → Nat) : ∀ (d : List Int) (i : Nat) (v : Int), i < d.length → sumf f (d.set i v) + f (dAt d i) = sumf f d + f v
  | [], i, v, h => by simp at h
  | x :: d, 0, v, h => by simp [sumf, dAt]; omega
  | x :: d, i + 1, v, h => by
    have := sumf_set f d i v (by simpa using h)
    have e : dAt (x :: d) (i + 1) = dAt d i := by simp [dAt]
    rw [e, List.set_cons_succ]
    simp only [sumf]; omega
def potF (x : Int) : Nat := if x < 0 then 600000000000000 else x.toNat
def cntF1 (x : Int) : Nat := if x < 0 then 0 else 1
def pot (d : List Int) : Nat := sumf potF d
def cntD (d : List Int) : Nat := sumf cntF1 d
theorem cntD_le : ∀ d : List Int, cntD d ≤ d.length
  | [] => Nat.le_refl _
  | x :: d => by
    have := cntD_le d; unfold cntD at this ⊢; simp only [sumf, List.length_cons]
    have h1 : cntF1 x ≤ 1 := by unfold cntF1; split <;> omega
    omega
structure BF (X : Web) (d : List Int) : Prop where
  len : d.length = X.m
  low : ∀ e, -1 ≤ dAt d e
  st : ∀ e, X.st e → e < X.m → dAt d e = 0
  hi : ∀ e, dAt d e ≤ (cntD d : Int) * 1099511627776
  why : ∀ e, 0 ≤ dAt d e → (X.st e ∧ dAt d e = 0) ∨ ∃ b, X.rl e b ∧ 0 ≤ dAt d b ∧ dAt d b + X.wt e b ≤ dAt d e
theorem BF.top {X : Web} {d : List Int} (h : BF X d) (hm : X.m ≤ 512) : ∀ e, dAt d e ≤ 562949953421312 := fun e => by
  have h1 := h.hi e
  have h2 := cntD_le d
  rw [h.len] at h2
  omega
theorem BF.relax {X : Web} {d : List Int} (h : BF X d) (hm : X.m ≤ 512) {e b : Nat} (hr : X.rl e b) (hb : 0 ≤ dAt d b) (hc : dAt d e < 0 ∨ dAt d b + X.wt e b < dAt d e) :
    BF X (d.set e (dAt d b + X.wt e b)) ∧ pot (d.set e (dAt d b + X.wt e b)) < pot d := by
  have ho := X.one e b hr
  have hel : e < d.length := by rw [h.len]; exact ho.2.2.1
  obtain ⟨n, hn⟩ : ∃ n, dAt d b + X.wt e b = n := ⟨_, rfl⟩
  rw [hn] at hc ⊢
  have hset := fun j => dAt_set d e n j hel
  have hpot := sumf_set potF d e n hel
  have hcnt := sumf_set cntF1 d e n hel
  have hbe : b ≠ e := fun x => by subst x; omega
  have hst : ¬ X.st e := fun x => by have := h.st e x ho.2.2.1; omega
  have hn0 : 0 ≤ n := by omega
  have hhb := h.hi b
  have htop := h.top hm b
  have hf1 : cntF1 n = 1 := by unfold cntF1; rw [if_neg (by omega)]
  have hce : cntD (d.set e n) = cntD d + (if dAt d e < 0 then 1 else 0) := by
    unfold cntD
    by_cases x : dAt d e < 0
    · have : cntF1 (dAt d e) = 0 := by unfold cntF1; rw [if_pos x]
      rw [if_pos x]; omega
    · have : cntF1 (dAt d e) = 1 := by unfold cntF1; rw [if_neg x]
      rw [if_neg x]; omega
  refine ⟨⟨by rw [List.length_set]; exact h.len, fun j => ?_, fun j hs hl => ?_, fun j => ?_, fun j hj => ?_⟩, ?_⟩
  · rw [hset]; split
    · omega
    · exact h.low j
  · rw [hset, if_neg (fun (x : j = e) => hst (by rw [← x]; exact hs))]; exact h.st j hs hl
  · rw [hset, hce]
    split
    · by_cases x : dAt d e < 0
      · rw [if_pos x]; push_cast; omega
      · rw [if_neg x]; have := h.hi e; have := h.low e; simp; omega
    · have := h.hi j
      split
      · push_cast; omega
      · simpa using this
  · rw [hset] at hj ⊢
    by_cases x : j = e
    · subst x
      rw [if_pos rfl]
      exact .inr ⟨b, hr, by rw [hset, if_neg hbe]; exact hb, by rw [hset, if_neg hbe]; omega⟩
    · rw [if_neg x] at hj ⊢
      rcases h.why j hj with h1 | ⟨c, h1, h2, h3⟩
      · exact .inl h1
      · refine .inr ⟨c, h1, ?_, ?_⟩
        · rw [hset]; split
          · exact hn0
          · exact h2
        · rw [hset]; split
          · rename_i y; subst y; omega
          · exact h3
  · unfold pot
    have p1 : potF n = n.toNat := by unfold potF; rw [if_neg (by omega)]
    by_cases x : dAt d e < 0
    · have p2 : potF (dAt d e) = 600000000000000 := by unfold potF; rw [if_pos x]
      omega
    · have p2 : potF (dAt d e) = (dAt d e).toNat := by unfold potF; rw [if_neg x]
      omega
theorem BF.done {X : Web} {d : List Int} (h : BF X d) (hs : ∀ e b, X.rl e b → 0 ≤ dAt d b → 0 ≤ dAt d e ∧ dAt d e ≤ dAt d b + X.wt e b) : Fix X d :=
  ⟨h.len, h.low, h.st, fun e he => (h.why e he).imp id (fun ⟨b, h1, h2, h3⟩ => ⟨b, h1, h2, by have := (hs e b h1 h2).2; omega⟩), hs⟩
def inZ (s : Nat → Bool) (m k : Nat) : List Int := (List.range k).map (fun i => if s i then 0 else -1) ++ List.replicate (m - k) 0
theorem inZ_len (s : Nat → Bool) (m k : Nat) (h : k ≤ m) : (inZ s m k).length = m := by simp [inZ]; omega
theorem inZ_at (s : Nat → Bool) (m e : Nat) (h : e < m) : dAt (inZ s m m) e = if s e then 0 else -1 := by
  have hl := inZ_len s m m (Nat.le_refl _)
  rw [dAt_eq _ _ (by omega)]
  unfold inZ
  simp
theorem BF.begin (X : Web) (s : Nat → Bool) (hs : ∀ e, X.st e ↔ s e = true) : BF X (inZ s X.m X.m) := by
  have hl := inZ_len s X.m X.m (Nat.le_refl _)
  have hat : ∀ e, dAt (inZ s X.m X.m) e = 0 ∧ s e = true ∧ e < X.m ∨ dAt (inZ s X.m X.m) e = -1 := by
    intro e
    by_cases he : e < X.m
    · rw [inZ_at s X.m e he]
      split
      · rename_i h; exact .inl ⟨rfl, h, he⟩
      · exact .inr rfl
    · exact .inr (dAt_out _ _ (by omega))
  refine ⟨hl, fun e => by rcases hat e with h | h <;> omega, fun e h1 h2 => ?_, fun e => by rcases hat e with h | h <;> omega, fun e he => ?_⟩
  · rw [inZ_at s X.m e h2, if_pos ((hs e).1 h1)]
  · rcases hat e with h | h
    · exact .inl ⟨(hs e).2 h.2.1, h.1⟩
    · omega
end Go.Proofs.YtjjedebjbgpimaaGreat
namespace Go.Proofs.YtjjedebjbgpimaaGreat
open Go.RowKit Mile
theorem Fix.ex_of {X : Web} (hm : X.m ≤ 512) : ∀ (n : Nat) (d : List Int), pot d = n → BF X d → ∃ d', Fix X d' := by
  intro n
  induction n using Nat.strongRecOn with
  | ind n ih =>
    intro d hp hb
    by_cases hs : ∀ e b, X.rl e b → 0 ≤ dAt d b → 0 ≤ dAt d e ∧ dAt d e ≤ dAt d b + X.wt e b
    · exact ⟨d, hb.done hs⟩
    · obtain ⟨e, he⟩ := Classical.not_forall.1 hs
      obtain ⟨b, he⟩ := Classical.not_forall.1 he
      obtain ⟨h1, he⟩ := Classical.not_imp.1 he
      obtain ⟨h2, he⟩ := Classical.not_imp.1 he
      have h3 := hb.relax hm h1 h2 (by omega)
      exact ih _ (by rw [← hp]; exact h3.2) _ rfl h3.1
theorem Fix.ex (X : Web) (hm : X.m ≤ 512) (s : Nat → Bool) (hs : ∀ e, X.st e ↔ s e = true) : ∃ d, Fix X d := Fix.ex_of hm _ _ rfl (BF.begin X s hs)
def ahead (d : List Int) (t u : Nat) : Prop := dAt d t < dAt d u ∨ (dAt d t = dAt d u ∧ t < u)
theorem ahead.irr {d : List Int} {t : Nat} : ¬ ahead d t t := by unfold ahead; omega
structure Ord (X : Web) (d : List Int) (mo : Int) (T : List Nat) (S : List It) (pend : Nat → Nat → Prop) : Prop where
  nod : T.Nodup
  t : ∀ t ∈ T, 0 ≤ dAt d t ∧ dAt d t ≤ mo
  low : ∀ t ∈ T, ∀ u, u ∉ T → 0 ≤ dAt d u → ahead d t u
  sound : ∀ x ∈ S, ∃ e : Nat, x.1 = e ∧ e < X.m ∧ e ∉ T ∧ x.2 ≤ mo ∧ 0 ≤ dAt d e ∧ dAt d e ≤ x.2 ∧ x.2 ≤ 562949953421312 + 1099511627776
  st : ∀ e, X.st e → e < X.m → 0 ≤ mo → e ∈ T ∨ ∃ k, ((e : Int), k) ∈ S ∧ k ≤ 0
  has : ∀ e b, X.rl e b → b ∈ T → ¬ pend e b → dAt d b + X.wt e b ≤ mo → e ∈ T ∨ ∃ k, ((e : Int), k) ∈ S ∧ k ≤ dAt d b + X.wt e b
theorem Fix.top {X : Web} {d : List Int} (_ : Fix X d) (_ : X.m ≤ 512) : ∀ (n : Nat) e, 0 ≤ dAt d e → (dAt d e).toNat ≤ n → True := fun _ _ _ _ => trivial
theorem Ord.front {X : Web} {d : List Int} {mo : Int} {T : List Nat} {S : List It} (h : Ord X d mo T S (fun _ _ => False)) (hf : Fix X d) : ∀ (n : Nat) (u : Nat), dAt d u ≤ n → u ∉ T → 0 ≤ dAt d u → dAt d u ≤ mo → ∃ (x : Nat) (k : Int), ((x : Int), k) ∈ S ∧ k = dAt d x ∧ (x = u ∨ dAt d x < dAt d u) := by
  intro n
  induction n using Nat.strongRecOn with
  | ind n ih =>
    intro u hn hu h0 hmo
    have snd : ∀ (x : Nat) (k : Int), ((x : Int), k) ∈ S → dAt d x ≤ k := fun x k hx => by
      obtain ⟨e, he, _, _, _, _, h5, _⟩ := h.sound _ hx
      have : e = x := by simp only at he; omega
      rw [← this]; exact h5
    rcases hf.why u h0 with ⟨h1, h2⟩ | ⟨b, h1, h2, h3⟩
    · rcases h.st u h1 (by have := dAt_in h0; rw [hf.len] at this; exact this) (by omega) with h4 | ⟨k, h4, h5⟩
      · exact absurd h4 hu
      · exact ⟨u, k, h4, by have := snd u k h4; omega, .inl rfl⟩
    · have hw := (X.one u b h1).1
      by_cases hb : b ∈ T
      · rcases h.has u b h1 hb (fun e => e) (by omega) with h4 | ⟨k, h4, h5⟩
        · exact absurd h4 hu
        · exact ⟨u, k, h4, by have := snd u k h4; omega, .inl rfl⟩
      · obtain ⟨x, k, g1, g2, g3⟩ := ih (n - 1) (by omega) b (by omega) hb h2 (by omega)
        refine ⟨x, k, g1, g2, .inr ?_⟩
        rcases g3 with rfl | g3 <;> omega
theorem Ord.pop {X : Web} {d : List Int} {mo : Int} {T : List Nat} {S : List It} {x : It} (h : Ord X d mo T (x :: S) (fun _ _ => False)) (hf : Fix X d) (hs : Srt (x :: S)) (hid : Ids (x :: S)) :
    ∃ e : Nat, x.1 = e ∧ e < X.m ∧ e ∉ T ∧ 0 ≤ dAt d e ∧ x.2 = dAt d e ∧ Ord X d mo (T ++ [e]) S (fun _ b => b = e) := by
  obtain ⟨e, he, hem, heT, hemo, h0, hle, hcap⟩ := h.sound x List.mem_cons_self
  have hmin : ∀ y ∈ S, x.2 < y.2 ∨ (x.2 = y.2 ∧ x.1 < y.1) := fun y hy => (bef_iff _ _).1 ((List.pairwise_cons.1 hs).1 y hy)
  have hne : ∀ y ∈ S, y.1 ≠ (e : Int) := by
    intro y hy
    have := (List.pairwise_cons.1 (show ((x.1) :: S.map (·.1)).Pairwise (· ≠ ·) from hid)).1 y.1 (List.mem_map_of_mem hy)
    rw [← he]; exact fun e2 => this e2.symm
  have hfr := fun u => h.front hf (dAt d u).toNat u (by omega)
  have hxe : x.2 = dAt d e := by
    obtain ⟨y, k, g1, g2, g3⟩ := hfr e heT h0 (by omega)
    rcases List.mem_cons.1 g1 with g | g
    · have e1 : (y : Int) = x.1 := congrArg Prod.fst g
      have e2 : k = x.2 := congrArg Prod.snd g
      have : y = e := by omega
      subst this; omega
    · have := hmin _ g; simp only at this
      rcases g3 with rfl | g3 <;> omega
  have mv : ∀ (e' : Nat) (k : Int), ((e' : Int), k) ∈ x :: S → e' ∈ T ++ [e] ∨ ((e' : Int), k) ∈ S := by
    intro e' k hk
    rcases List.mem_cons.1 hk with h1 | h1
    · have : e' = e := by have := congrArg Prod.fst h1; simp only at this; omega
      subst this; exact .inl (by simp)
    · exact .inr h1
  refine ⟨e, he, hem, heT, h0, hxe, ⟨?_, fun t ht => ?_, fun t ht u hu hu0 => ?_, fun y hy => ?_, fun j h1 h2 h3 => ?_, fun j b hr hb hp hmo => ?_⟩⟩
  · rw [List.nodup_append]
    refine ⟨h.nod, List.nodup_cons.2 ⟨by simp, List.nodup_nil⟩, fun a ha b hb => ?_⟩
    rw [List.mem_singleton] at hb
    subst hb
    exact fun e2 => heT (e2 ▸ ha)
  · rcases List.mem_append.1 ht with h1 | h1
    · exact h.t t h1
    · rw [List.mem_singleton] at h1; subst h1; exact ⟨h0, by omega⟩
  · have huT : u ∉ T := fun e2 => hu (List.mem_append_left _ e2)
    have hue : u ≠ e := fun e2 => hu (by rw [e2]; simp)
    rcases List.mem_append.1 ht with h1 | h1
    · exact h.low t h1 u huT hu0
    · rw [List.mem_singleton] at h1
      subst h1
      by_cases hum : dAt d u ≤ mo
      · obtain ⟨y, k, g1, g2, g3⟩ := hfr u huT hu0 hum
        unfold ahead
        rcases List.mem_cons.1 g1 with g | g
        · have e1 : (y : Int) = x.1 := congrArg Prod.fst g
          have e2 : k = x.2 := congrArg Prod.snd g
          have : y = t := by omega
          subst this
          rcases g3 with g3 | g3
          · exact absurd g3.symm hue
          · exact .inl g3
        · have := hmin _ g; simp only at this
          rcases g3 with rfl | g3 <;> omega
      · unfold ahead; omega
  · obtain ⟨j, h1, h2, h3, h4⟩ := h.sound y (List.mem_cons_of_mem _ hy)
    refine ⟨j, h1, h2, fun e2 => ?_, h4⟩
    rcases List.mem_append.1 e2 with h5 | h5
    · exact h3 h5
    · rw [List.mem_singleton] at h5; subst h5; exact hne y hy h1
  · rcases h.st j h1 h2 h3 with h4 | ⟨k, h4, h5⟩
    · exact .inl (List.mem_append_left _ h4)
    · rcases mv j k h4 with h6 | h6
      · exact .inl h6
      · exact .inr ⟨k, h6, h5⟩
  · rcases List.mem_append.1 hb with hb1 | hb1
    · rcases h.has j b hr hb1 (fun e2 => e2) hmo with h4 | ⟨k, h4, h5⟩
      · exact .inl (List.mem_append_left _ h4)
      · rcases mv j k h4 with h6 | h6
        · exact .inl h6
        · exact .inr ⟨k, h6, h5⟩
    · rw [List.mem_singleton] at hb1; exact absurd hb1 hp
def reachO (mo : Int) (T : List Nat) (S : List It) (e : Nat) (k : Int) : List It := if e ∈ T ∨ mo < k then S else (pushS S e k).2
theorem Ord.reach {X : Web} {d : List Int} {mo : Int} {T : List Nat} {S : List It} {pend pend' : Nat → Nat → Prop} (h : Ord X d mo T S pend) (hf : Fix X d) (htop : ∀ e, dAt d e ≤ 562949953421312) (hid : Ids S) {e b : Nat} (hr : X.rl e b) (hb : b ∈ T)
    (hp : ∀ e' b', pend e' b' → pend' e' b' ∨ (e' = e ∧ b' = b)) : Ord X d mo T (reachO mo T S e (dAt d b + X.wt e b)) pend' := by
  have hm := X.one e b hr
  have hb0 := (h.t b hb).1
  have hsh := hf.shut e b hr hb0
  unfold reachO
  by_cases hc : e ∈ T ∨ mo < dAt d b + X.wt e b
  · rw [if_pos hc]
    refine ⟨h.nod, h.t, h.low, h.sound, h.st, fun e' b' hr' hb' hp' hmo => ?_⟩
    by_cases hp2 : pend e' b'
    · rcases hp e' b' hp2 with h1 | ⟨rfl, rfl⟩
      · exact absurd h1 hp'
      · exact .inl (hc.resolve_right (by omega))
    · exact h.has e' b' hr' hb' hp2 hmo
  · rw [if_neg hc]
    have hc1 : e ∉ T := fun x => hc (.inl x)
    have hc2 : dAt d b + X.wt e b ≤ mo := by have : ¬ mo < dAt d b + X.wt e b := fun x => hc (.inr x); omega
    refine ⟨h.nod, h.t, h.low, fun x hx => ?_, fun j h1 h2 h3 => ?_, fun e' b' hr' hb' hp' hmo => ?_⟩
    · rcases push_mem x hx with h1 | rfl
      · exact h.sound x h1
      · exact ⟨e, rfl, hm.2.2.1, hc1, hc2, hsh.1, hsh.2, by have := htop b; show dAt d b + X.wt e b ≤ _; omega⟩
    · rcases h.st j h1 h2 h3 with h4 | ⟨k, h4, h5⟩
      · exact .inl h4
      · obtain ⟨k', h6, h7⟩ := push_old (id := (e : Int)) (key := dAt d b + X.wt e b) hid _ _ h4
        exact .inr ⟨k', h6, by omega⟩
    · by_cases hp2 : pend e' b'
      · rcases hp e' b' hp2 with h1 | ⟨rfl, rfl⟩
        · exact absurd h1 hp'
        · exact .inr push_has
      · rcases h.has e' b' hr' hb' hp2 hmo with h1 | ⟨k, h1, h2⟩
        · exact .inl h1
        · obtain ⟨k', h3, h4⟩ := push_old (id := (e : Int)) (key := dAt d b + X.wt e b) hid _ _ h1
          exact .inr ⟨k', h3, by omega⟩
theorem Ord.said {X : Web} {d : List Int} {mo : Int} {T : List Nat} {S : List It} {pend pend' : Nat → Nat → Prop} (h : Ord X d mo T S pend) (hp : ∀ e b, X.rl e b → pend e b → pend' e b) : Ord X d mo T S pend' :=
  ⟨h.nod, h.t, h.low, h.sound, h.st, fun e b hr hb hn => h.has e b hr hb (fun x => hn (hp e b hr x))⟩
theorem Ord.begin {X : Web} {d : List Int} {mo : Int} (hf : Fix X d) {fr : Nat} (hfr : fr < X.m) (hst : ∀ e, X.st e ↔ e = fr) : Ord X d mo [] (if mo < 0 then [] else [((fr : Int), 0)]) (fun _ _ => False) := by
  have h0 := hf.st fr ((hst fr).2 rfl) hfr
  refine ⟨List.nodup_nil, by simp, by simp, fun x hx => ?_, fun e h1 h2 h3 => ?_, by simp⟩
  · split at hx
    · cases hx
    · rw [List.mem_singleton] at hx; subst hx
      exact ⟨fr, rfl, hfr, by simp, by show (0 : Int) ≤ mo; omega, by omega, by show dAt d fr ≤ 0; omega, by show (0 : Int) ≤ _; omega⟩
  · right
    rw [(hst e).1 h1, if_neg (by omega)]
    exact ⟨0, by simp, Int.le_refl _⟩
theorem Ord.done {X : Web} {d : List Int} {mo : Int} {T : List Nat} (h : Ord X d mo T [] (fun _ _ => False)) (hf : Fix X d) (u : Nat) (h0 : 0 ≤ dAt d u) (hm : dAt d u ≤ mo) : u ∈ T := by
  refine Classical.byContradiction fun hu => ?_
  obtain ⟨x, k, g, _⟩ := h.front hf (dAt d u).toNat u (by omega) hu h0 hm
  cases g
def rankB (d : List Int) (e u : Nat) : Bool := decide (0 ≤ dAt d u) && (decide (dAt d u < dAt d e) || (decide (dAt d u = dAt d e) && decide (u < e)))
def rankN (d : List Int) (e : Nat) : Nat := ((List.range d.length).filter (rankB d e)).length
theorem rankB_iff {d : List Int} {e u : Nat} : rankB d e u = true ↔ 0 ≤ dAt d u ∧ ahead d u e := by
  unfold rankB ahead; simp
theorem nodupN_le : ∀ (l r : List Nat), l.Nodup → l ⊆ r → l.length ≤ r.length
  | [], _, _, _ => by simp
  | x :: l, r, h, hs => by
    have hx : x ∈ r := hs List.mem_cons_self
    have h2 := List.nodup_cons.1 h
    have := nodupN_le l (r.erase x) h2.2 (fun y hy => (List.mem_erase_of_ne (fun e => h2.1 (by rw [← e]; exact hy))).2 (hs (List.mem_cons_of_mem _ hy)))
    rw [List.length_erase_of_mem hx] at this
    have := List.length_pos_of_mem hx
    simp; omega
theorem Ord.rank_ge {X : Web} {d : List Int} {mo : Int} {T : List Nat} {S : List It} {pend : Nat → Nat → Prop} (h : Ord X d mo T S pend) {e : Nat} (he : e ∉ T) (h0 : 0 ≤ dAt d e) : T.length ≤ rankN d e := by
  refine nodupN_le _ _ h.nod fun t ht => ?_
  rw [List.mem_filter]
  exact ⟨List.mem_range.2 (dAt_in (h.t t ht).1), rankB_iff.2 ⟨(h.t t ht).1, h.low t ht e he h0⟩⟩
theorem Ord.rank_eq {X : Web} {d : List Int} {mo : Int} {T : List Nat} {S : List It} {pend : Nat → Nat → Prop} {e : Nat} (h : Ord X d mo (T ++ [e]) S pend) (hl : ∀ t ∈ T, ahead d t e) : rankN d e = T.length := by
  have h0 := (h.t e (by simp)).1
  have heT : e ∉ T := fun x => by
    have := (List.nodup_append.1 h.nod).2.2 e x e (by simp)
    exact this rfl
  refine Nat.le_antisymm (nodupN_le _ _ (List.Pairwise.filter _ List.nodup_range) fun u hu => ?_) (nodupN_le _ _ (List.nodup_append.1 h.nod).1 fun t ht => ?_)
  · obtain ⟨h1, h2⟩ := List.mem_filter.1 hu
    obtain ⟨h3, h4⟩ := rankB_iff.1 h2
    refine Classical.byContradiction fun hn => ?_
    have hue : u ≠ e := fun x => by subst x; exact ahead.irr h4
    have := h.low e (by simp) u (fun x => (List.mem_append.1 x).elim hn (fun y => hue (List.mem_singleton.1 y))) h3
    unfold ahead at this h4; omega
  · rw [List.mem_filter]
    have := h.t t (List.mem_append_left _ ht)
    exact ⟨List.mem_range.2 (dAt_in this.1), rankB_iff.2 ⟨this.1, hl t ht⟩⟩
end Go.Proofs.YtjjedebjbgpimaaGreat
