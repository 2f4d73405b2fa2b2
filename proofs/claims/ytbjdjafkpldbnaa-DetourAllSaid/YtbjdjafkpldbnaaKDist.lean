/- How far it is, as plain lists: one answer for each graph; what a search by a heap keeps. -/
import Derived.Test.YtbjdjafkpldbnaaKHeap
import Derived.Test.YtbjdjafkpldbnaaTurnP
import Derived.Test.YtbjdjafkpldbnaaBase
import Derived.RangeFuncNested
import Derived.RangeFuncBound
import Derived.RangeFuncCalls
import Derived.RangeFuncLeaves
import Derived.Test.YtbjdjafkpldbnaaTurns
import Derived.Shelf.Abstract
import Derived.Shelf.RegionOpen
import Derived.WalkKit
import Derived.OwnWalkIn
import Derived.TacticsInMore
import Derived.LoopNIn
import Derived.LoopIn
namespace Go.Proofs.Ytbjdjafkpldbnaa
open Go.RowKit Mile
def dAt (d : List Int) (i : Nat) : Int := d.getD i (-1)
theorem dAt_set (d : List Int) (i : Nat) (x : Int) (j : Nat) (h : i < d.length) : dAt (d.set i x) j = if j = i then x else dAt d j := by
  unfold dAt
  rw [List.getD, List.getD, List.getElem?_set]
  by_cases e : i = j
  · subst e; simp [h]
  · rw [if_neg e, if_neg (Ne.symm e)]
theorem dAt_eq (d : List Int) (i : Nat) (h : i < d.length) : dAt d i = d[i] := by simp [dAt, List.getD, h]
theorem dAt_out (d : List Int) (i : Nat) (h : d.length ≤ i) : dAt d i = -1 := by simp [dAt, List.getD, h]
/-- What is looked for: m places, where it begins (at nothing), from where to where, at what weight: rl e b: from b one comes to e, wt e b farther. -/
structure Web where
  m : Nat
  st : Nat → Prop
  rl : Nat → Nat → Prop
  wt : Nat → Nat → Int
  one : ∀ e b, rl e b → 1 ≤ wt e b ∧ wt e b ≤ 65535 ∧ e < m ∧ b < m
/-- d is how far each place is. -/
structure Fix (X : Web) (d : List Int) : Prop where
  len : d.length = X.m
  low : ∀ e, -1 ≤ dAt d e
  st : ∀ e, X.st e → e < X.m → dAt d e = 0
  why : ∀ e, 0 ≤ dAt d e → (X.st e ∧ dAt d e = 0) ∨ ∃ b, X.rl e b ∧ 0 ≤ dAt d b ∧ dAt d e = dAt d b + X.wt e b
  shut : ∀ e b, X.rl e b → 0 ≤ dAt d b → 0 ≤ dAt d e ∧ dAt d e ≤ dAt d b + X.wt e b
theorem dAt_in {d : List Int} {i : Nat} (h : 0 ≤ dAt d i) : i < d.length := by
  refine Nat.lt_of_not_le fun hl => ?_
  rw [dAt_out d i hl] at h; omega
/-- With fewer ways nothing is nearer. -/
theorem Fix.le {X Y : Web} {d d' : List Int} (h : Fix X d) (h' : Fix Y d') (hm : X.m = Y.m) (hs : ∀ e, X.st e → Y.st e) (hr : ∀ e b, X.rl e b → Y.rl e b ∧ Y.wt e b = X.wt e b) : ∀ (n : Nat) e, 0 ≤ dAt d e → dAt d e ≤ n → 0 ≤ dAt d' e ∧ dAt d' e ≤ dAt d e := by
  intro n
  induction n using Nat.strongRecOn with
  | ind n ih =>
    intro e h0 hn
    rcases h.why e h0 with ⟨h1, h2⟩ | ⟨b, h1, h2, h3⟩
    · have := h'.st e (hs e h1) (by rw [← hm, ← h.len]; exact dAt_in h0); omega
    · have hw := (X.one e b h1).1
      have hb := ih (n - 1) (by omega) b h2 (by omega)
      have := h'.shut e b (hr e b h1).1 hb.1
      rw [(hr e b h1).2] at this
      omega
theorem Fix.uniq {X : Web} {d d' : List Int} (h : Fix X d) (h' : Fix X d') : d = d' := by
  have key : ∀ e, dAt d e = dAt d' e := by
    intro e
    have l1 := h.low e
    have l2 := h'.low e
    by_cases a : 0 ≤ dAt d e
    · have k := h.le h' rfl (fun _ x => x) (fun _ _ x => ⟨x, rfl⟩) (dAt d e).toNat e a (by omega)
      have k2 := h'.le h rfl (fun _ x => x) (fun _ _ x => ⟨x, rfl⟩) (dAt d' e).toNat e k.1 (by omega)
      omega
    · by_cases c : 0 ≤ dAt d' e
      · have k2 := h'.le h rfl (fun _ x => x) (fun _ _ x => ⟨x, rfl⟩) (dAt d' e).toNat e c (by omega)
        omega
      · omega
  refine List.ext_getElem (by rw [h.len, h'.len]) fun i h1 h2 => ?_
  have := key i
  rwa [dAt_eq d i h1, dAt_eq d' i h2] at this
/-- So many are not settled. -/
def openN (d : List Int) : Nat := (d.filter (fun x => x == -1)).length
theorem openN_set : ∀ (d : List Int) (e : Nat) (x : Int), e < d.length → dAt d e = -1 → 0 ≤ x → openN (d.set e x) + 1 = openN d
  | [], e, x, h, _, _ => by simp at h
  | y :: d, 0, x, _, hd, hx => by
    have : y = -1 := by simpa [dAt] using hd
    subst this
    have hx2 : (x == -1) = false := by rw [beq_eq_false_iff_ne]; omega
    simp [openN, hx2]
  | y :: d, e + 1, x, h, hd, hx => by
    have ih := openN_set d e x (by simpa using h) (by simpa [dAt] using hd) hx
    unfold openN at ih ⊢
    rw [List.set_cons_succ, List.filter_cons, List.filter_cons]
    split
    · simp only [List.length_cons]; omega
    · exact ih
theorem openN_le (d : List Int) : openN d ≤ d.length := List.length_filter_le _ _
/-- A search under way: d: what is settled; S: what is known; c: all that is settled is no farther, all that is known no nearer; pend e b: that e is reached from b is still to be said; pst e: that it begins at e is still to be said. -/
structure Dij (X : Web) (d : List Int) (S : List It) (c : Int) (pend : Nat → Nat → Prop) (pst : Nat → Prop) : Prop where
  len : d.length = X.m
  low : ∀ e, -1 ≤ dAt d e ∧ dAt d e ≤ c
  c0 : 0 ≤ c
  ids : ∀ x ∈ S, ∃ e : Nat, x.1 = e ∧ e < X.m ∧ dAt d e = -1 ∧ c ≤ x.2
  why : ∀ e, 0 ≤ dAt d e → (X.st e ∧ dAt d e = 0) ∨ ∃ b, X.rl e b ∧ 0 ≤ dAt d b ∧ dAt d e = dAt d b + X.wt e b
  whyS : ∀ (e : Nat) k, ((e : Int), k) ∈ S → (X.st e ∧ k = 0) ∨ ∃ b, X.rl e b ∧ 0 ≤ dAt d b ∧ k = dAt d b + X.wt e b
  st : ∀ e, X.st e → e < X.m → ¬ pst e → (0 ≤ dAt d e ∧ dAt d e ≤ 0) ∨ ∃ k, ((e : Int), k) ∈ S ∧ k ≤ 0
  shut : ∀ e b, X.rl e b → 0 ≤ dAt d b → ¬ pend e b → (0 ≤ dAt d e ∧ dAt d e ≤ dAt d b + X.wt e b) ∨ ∃ k, ((e : Int), k) ∈ S ∧ k ≤ dAt d b + X.wt e b
  cap : ∀ x ∈ S, x.2 ≤ c + 65535
  top : c + (openN d : Int) * 65535 ≤ (X.m : Int) * 65535
theorem openN_rep : ∀ m, openN (List.replicate m (-1)) = m
  | 0 => rfl
  | m + 1 => by have := openN_rep m; unfold openN at this ⊢; rw [List.replicate_succ, List.filter_cons]; simp only [beq_self_eq_true, if_true, List.length_cons]; omega
theorem dAt_rep (m e : Nat) : dAt (List.replicate m (-1)) e = -1 := by
  by_cases he : e < m
  · rw [dAt_eq _ _ (by simpa using he)]; simp
  · rw [dAt_out _ _ (by simp; omega)]
theorem Dij.begin (X : Web) (pst : Nat → Prop) (hp : ∀ e, X.st e → e < X.m → pst e) : Dij X (List.replicate X.m (-1)) [] 0 (fun _ _ => False) pst := by
  have h := dAt_rep X.m
  exact ⟨by simp, fun e => by rw [h e]; omega, by omega, by simp, fun e he => by rw [h e] at he; omega, by simp, fun e h1 h2 h3 => absurd (hp e h1 h2) h3, fun e b _ hb => by rw [h b] at hb; omega, by simp, by rw [openN_rep]; omega⟩
/-- What a push comes to. -/
theorem push_mem {S : List It} {id key : Int} : ∀ x, x ∈ (pushS S id key).2 → x ∈ S ∨ x = (id, key) := by
  intro x hx
  unfold pushS at hx
  cases hk : keyS S id with
  | none =>
    rw [hk] at hx; simp only [] at hx
    have := (insS_perm S (id, key)).mem_iff.1 hx
    rcases List.mem_cons.1 this with e | e
    · exact .inr e
    · exact .inl e
  | some k =>
    rw [hk] at hx
    simp only [] at hx
    split at hx
    · exact .inl hx
    · have := (insS_perm _ (id, key)).mem_iff.1 hx
      rcases List.mem_cons.1 this with e | e
      · exact .inr e
      · exact .inl (mem_dropS.1 e).1
theorem push_has {S : List It} {id key : Int} : ∃ k, (id, k) ∈ (pushS S id key).2 ∧ k ≤ key := by
  unfold pushS
  cases hk : keyS S id with
  | none => exact ⟨key, (insS_perm S (id, key)).mem_iff.2 (by simp), Int.le_refl _⟩
  | some k =>
    simp only []
    split
    · rename_i h
      exact ⟨k, keyS_inv hk, h⟩
    · exact ⟨key, (insS_perm _ (id, key)).mem_iff.2 (by simp), Int.le_refl _⟩
theorem push_old {S : List It} {id key : Int} (hid : Ids S) : ∀ x k, (x, k) ∈ S → ∃ k', (x, k') ∈ (pushS S id key).2 ∧ k' ≤ k := by
  intro x k hx
  by_cases e : x = id
  · subst e
    have hk : keyS S x = some k := keyS_some hid hx rfl
    unfold pushS
    rw [hk]
    simp only []
    split
    · exact ⟨k, hx, Int.le_refl _⟩
    · rename_i h
      exact ⟨key, (insS_perm _ (x, key)).mem_iff.2 (by simp), by omega⟩
  · unfold pushS
    cases hk : keyS S id with
    | none => exact ⟨k, (insS_perm S (id, key)).mem_iff.2 (by simp [hx]), Int.le_refl _⟩
    | some k0 =>
      simp only []
      split
      · exact ⟨k, hx, Int.le_refl _⟩
      · exact ⟨k, (insS_perm _ (id, key)).mem_iff.2 (by simp [mem_dropS, hx, e]), Int.le_refl _⟩
/-- A place is reached: if it is not settled it is known at no more. -/
def reachS (d : List Int) (S : List It) (e : Nat) (k : Int) : List It := if dAt d e = -1 then (pushS S e k).2 else S
theorem reach_ids {d : List Int} {S : List It} (e : Nat) (k : Int) (hs : Srt S) (hi : Ids S) : Srt (reachS d S e k) ∧ Ids (reachS d S e k) := by
  unfold reachS; split
  · exact pushS_ok hs hi _ _
  · exact ⟨hs, hi⟩
theorem Dij.reach {X : Web} {d : List Int} {S : List It} {c : Int} {pend pend' : Nat → Nat → Prop} {pst : Nat → Prop} (h : Dij X d S c pend pst) (hid : Ids S) {e b : Nat} (hr : X.rl e b) (hb : 0 ≤ dAt d b) (hc : c ≤ dAt d b + X.wt e b)
    (hp : ∀ e' b', pend e' b' → pend' e' b' ∨ (e' = e ∧ b' = b)) : Dij X d (reachS d S e (dAt d b + X.wt e b)) c pend' pst := by
  have hm := X.one e b hr
  unfold reachS
  by_cases hd : dAt d e = -1
  · rw [if_pos hd]
    refine ⟨h.len, h.low, h.c0, fun x hx => ?_, h.why, fun e' k hx => ?_, fun e' hs hl hp => ?_, fun e' b' hr' hb' hp' => ?_, fun x hx => ?_, h.top⟩
    · rcases push_mem x hx with h1 | rfl
      · exact h.ids x h1
      · exact ⟨e, rfl, hm.2.2.1, hd, hc⟩
    · rcases push_mem _ hx with h1 | h1
      · exact h.whyS e' k h1
      · simp only [Prod.mk.injEq] at h1
        have he : e' = e := by omega
        subst he
        exact .inr ⟨b, hr, hb, h1.2⟩
    · rcases h.st e' hs hl hp with h1 | ⟨k, h1, h2⟩
      · exact .inl h1
      · obtain ⟨k', h3, h4⟩ := push_old (id := (e : Int)) (key := dAt d b + X.wt e b) hid _ _ h1
        exact .inr ⟨k', h3, by omega⟩
    · by_cases hp2 : pend e' b'
      · rcases hp e' b' hp2 with h1 | ⟨rfl, rfl⟩
        · exact absurd h1 hp'
        · exact .inr push_has
      · rcases h.shut e' b' hr' hb' hp2 with h1 | ⟨k, h1, h2⟩
        · exact .inl h1
        · obtain ⟨k', h3, h4⟩ := push_old (id := (e : Int)) (key := dAt d b + X.wt e b) hid _ _ h1
          exact .inr ⟨k', h3, by omega⟩
    · rcases push_mem x hx with h1 | rfl
      · exact h.cap x h1
      · have := h.low b; have := hm.2.1; show dAt d b + X.wt e b ≤ _; omega
  · rw [if_neg hd]
    refine ⟨h.len, h.low, h.c0, h.ids, h.why, h.whyS, h.st, fun e' b' hr' hb' hp' => ?_, h.cap, h.top⟩
    by_cases hp2 : pend e' b'
    · rcases hp e' b' hp2 with h1 | ⟨rfl, rfl⟩
      · exact absurd h1 hp'
      · have h1 := h.low e'
        exact .inl ⟨by omega, by omega⟩
    · exact h.shut e' b' hr' hb' hp2
/-- It begins at e. -/
theorem Dij.start {X : Web} {d : List Int} {S : List It} {pend : Nat → Nat → Prop} {pst pst' : Nat → Prop} (h : Dij X d S 0 pend pst) (hid : Ids S) {e : Nat} (hs : X.st e) (he : e < X.m) (hd : dAt d e = -1)
    (hp : ∀ e', pst e' → pst' e' ∨ e' = e) : Dij X d (reachS d S e 0) 0 pend pst' := by
  unfold reachS
  rw [if_pos hd]
  refine ⟨h.len, h.low, h.c0, fun x hx => ?_, h.why, fun e' k hx => ?_, fun e' hs hl hp' => ?_, fun e' b' hr' hb' hp' => ?_, fun x hx => ?_, h.top⟩
  · rcases push_mem x hx with h1 | rfl
    · exact h.ids x h1
    · exact ⟨e, rfl, he, hd, Int.le_refl _⟩
  · rcases push_mem _ hx with h1 | h1
    · exact h.whyS e' k h1
    · simp only [Prod.mk.injEq] at h1
      have he : e' = e := by omega
      subst he
      exact .inl ⟨hs, h1.2⟩
  · by_cases hp2 : pst e'
    · rcases hp e' hp2 with h1 | rfl
      · exact absurd h1 hp'
      · exact .inr push_has
    · rcases h.st e' hs hl hp2 with h1 | ⟨k, h1, h2⟩
      · exact .inl h1
      · obtain ⟨k', h3, h4⟩ := push_old (id := (e : Int)) (key := 0) hid _ _ h1
        exact .inr ⟨k', h3, by omega⟩
  · rcases h.shut e' b' hr' hb' hp' with h1 | ⟨k, h1, h2⟩
    · exact .inl h1
    · obtain ⟨k', h3, h4⟩ := push_old (id := (e : Int)) (key := 0) hid _ _ h1
      exact .inr ⟨k', h3, by omega⟩
  · rcases push_mem x hx with h1 | rfl
    · exact h.cap x h1
    · show (0 : Int) ≤ _; omega
/-- The nearest one that is known is settled. -/
theorem Dij.pop {X : Web} {d : List Int} {S : List It} {c : Int} {x : It} (h : Dij X d (x :: S) c (fun _ _ => False) (fun _ => False)) (hs : Srt (x :: S)) (hid : Ids (x :: S)) :
    ∃ e : Nat, x.1 = e ∧ e < X.m ∧ dAt d e = -1 ∧ 0 ≤ x.2 ∧ Dij X (d.set e x.2) S x.2 (fun _ b => b = e) (fun _ => False) ∧ dAt (d.set e x.2) e = x.2 := by
  obtain ⟨e, he, hem, hd, hc⟩ := h.ids x List.mem_cons_self
  have h0 : 0 ≤ x.2 := by have := h.c0; omega
  have hel : e < d.length := by rw [h.len]; exact hem
  have hset := fun j => dAt_set d e x.2 j hel
  have hmin : ∀ y ∈ S, x.2 ≤ y.2 := by
    intro y hy
    have := (List.pairwise_cons.1 hs).1 y hy
    rw [bef_iff] at this
    omega
  have hne : ∀ y ∈ S, y.1 ≠ (e : Int) := by
    intro y hy
    have := (List.pairwise_cons.1 (show ((x.1) :: S.map (·.1)).Pairwise (· ≠ ·) from hid)).1 y.1 (List.mem_map_of_mem hy)
    rw [← he]; exact fun e2 => this e2.symm
  have up : ∀ b, 0 ≤ dAt d b → b ≠ e := fun b hb e2 => by rw [e2, hd] at hb; omega
  have keepd : ∀ b, 0 ≤ dAt d b → dAt (d.set e x.2) b = dAt d b := fun b hb => by rw [hset, if_neg (up b hb)]
  have mv : ∀ (e' : Nat) (k0 k : Int), ((e' : Int), k) ∈ x :: S → k ≤ k0 → (0 ≤ dAt (d.set e x.2) e' ∧ dAt (d.set e x.2) e' ≤ k0) ∨ ∃ k, ((e' : Int), k) ∈ S ∧ k ≤ k0 := by
    intro e' k0 k hk hle
    rcases List.mem_cons.1 hk with h1 | h1
    · have : e' = e := by have := congrArg Prod.fst h1; simp only at this; omega
      subst this
      have h2 : k = x.2 := by rw [← h1]
      rw [hset, if_pos rfl]; exact .inl ⟨h0, by omega⟩
    · exact .inr ⟨k, h1, hle⟩
  refine ⟨e, he, hem, hd, h0, ⟨by rw [List.length_set]; exact h.len, fun j => ?_, h0, fun y hy => ?_, fun j hj => ?_, fun j k hk => ?_, fun j hs hl _ => ?_, fun j b hr hb hp => ?_, fun y hy => ?_, ?_⟩, by rw [hset, if_pos rfl]⟩
  · rw [hset]
    split
    · omega
    · have := h.low j; omega
  · obtain ⟨j, h1, h2, h3, h4⟩ := h.ids y (List.mem_cons_of_mem _ hy)
    refine ⟨j, h1, h2, ?_, hmin y hy⟩
    rw [hset, if_neg (fun e2 => hne y hy (by rw [h1, e2]))]; exact h3
  · rw [hset] at hj ⊢
    by_cases e2 : j = e
    · subst e2
      rw [if_pos rfl]
      have hx : ((j : Int), x.2) ∈ x :: S := by rw [← he]; exact List.mem_cons_self
      rcases h.whyS j x.2 hx with ⟨h1, h2⟩ | ⟨b, h1, h2, h3⟩
      · exact .inl ⟨h1, h2⟩
      · exact .inr ⟨b, h1, by rw [keepd b h2]; exact h2, by rw [keepd b h2]; exact h3⟩
    · rw [if_neg e2] at hj ⊢
      rcases h.why j hj with h1 | ⟨b, h1, h2, h3⟩
      · exact .inl h1
      · exact .inr ⟨b, h1, by rw [keepd b h2]; exact h2, by rw [keepd b h2]; exact h3⟩
  · rcases h.whyS j k (List.mem_cons_of_mem _ hk) with h1 | ⟨b, h1, h2, h3⟩
    · exact .inl h1
    · exact .inr ⟨b, h1, by rw [keepd b h2]; exact h2, by rw [keepd b h2]; exact h3⟩
  · rcases h.st j hs hl (fun e => e) with h1 | ⟨k, h1, h2⟩
    · rw [keepd j h1.1]; exact .inl h1
    · exact mv j 0 k h1 h2
  · have hbe : b ≠ e := hp
    rw [hset, if_neg hbe] at hb
    rw [keepd b hb]
    rcases h.shut j b hr hb (fun e => e) with h1 | ⟨k, h1, h2⟩
    · rw [keepd j h1.1]; exact .inl h1
    · exact mv j _ k h1 h2
  · have := h.cap y (List.mem_cons_of_mem _ hy); omega
  · have := openN_set d e x.2 hel hd h0
    have h1 := h.top
    have h2 := h.cap x List.mem_cons_self
    omega
theorem Dij.done {X : Web} {d : List Int} {c : Int} (h : Dij X d [] c (fun _ _ => False) (fun _ => False)) : Fix X d := by
  refine ⟨h.len, fun e => (h.low e).1, fun e hs hl => ?_, h.why, fun e b hr hb => ?_⟩
  · rcases h.st e hs hl (fun e => e) with h1 | ⟨k, h1, _⟩
    · omega
    · cases h1
  · rcases h.shut e b hr hb (fun e => e) with h1 | ⟨k, h1, _⟩
    · exact h1
    · cases h1
theorem Dij.said {X : Web} {d : List Int} {S : List It} {c : Int} {pend pend' : Nat → Nat → Prop} {pst pst' : Nat → Prop} (h : Dij X d S c pend pst) (hp : ∀ e b, X.rl e b → 0 ≤ dAt d b → pend e b → pend' e b) (hq : ∀ e, X.st e → e < X.m → pst e → pst' e) : Dij X d S c pend' pst' :=
  ⟨h.len, h.low, h.c0, h.ids, h.why, h.whyS, fun e hs hl hn => h.st e hs hl (fun x => hn (hq e hs hl x)), fun e b hr hb hn => h.shut e b hr hb (fun x => hn (hp e b hr hb x)), h.cap, h.top⟩
theorem nodup_le : ∀ (l r : List Int), l.Nodup → l ⊆ r → l.length ≤ r.length
  | [], _, _, _ => by simp
  | x :: l, r, h, hs => by
    have hx : x ∈ r := hs List.mem_cons_self
    have h2 := List.nodup_cons.1 h
    have := nodup_le l (r.erase x) h2.2 (fun y hy => (List.mem_erase_of_ne (fun e => h2.1 (by rw [← e]; exact hy))).2 (hs (List.mem_cons_of_mem _ hy)))
    rw [List.length_erase_of_mem hx] at this
    have := List.length_pos_of_mem hx
    simp; omega
/-- How many are known; how many there are left. -/
theorem Dij.few {X : Web} {d : List Int} {S : List It} {c : Int} {pend : Nat → Nat → Prop} {pst : Nat → Prop} (h : Dij X d S c pend pst) (hid : Ids S) : S.length ≤ X.m := by
  have h1 : (S.map (·.1)).Nodup := hid
  have h2 : (S.map (·.1)) ⊆ (List.range X.m).map Int.ofNat := by
    intro y hy
    obtain ⟨x, hx, rfl⟩ := List.mem_map.1 hy
    obtain ⟨e, he, hm, _⟩ := h.ids x hx
    exact List.mem_map.2 ⟨e, List.mem_range.2 hm, by rw [he]; rfl⟩
  have := nodup_le _ _ h1 h2
  simpa using this
end Go.Proofs.Ytbjdjafkpldbnaa
namespace Mile
open Go Go.RowKit
variable {P : Program}
/-- How a function that ranges over a function is left: no mark, or the one of its loop. -/
def rfPost (P : Program) (fn : Func) (R : Ending → World → Prop) : Exit → Act → World → Prop
  | .normal, a, w | .ret, a, w => (a.defers = [] ∧ ∃ v, (results fn a.tmps).run P w = .ok v w ∧ R (.returned v) w) ∨
      (∃ D, a.defers = [{ target := .collected D, args := #[] }] ∧ w.heap[D]? = some (.deferred (some [])) ∧ ∃ v, (results fn a.tmps).run P (w.putObj D (.deferred none)) = .ok v (w.putObj D (.deferred none)) ∧ R (.returned v) (w.putObj D (.deferred none)))
  | _, _, _ => False
theorem rfPost_ret {fn : Func} {R : Ending → World → Prop} {a : Act} {w : World} {v : Value} (hr : (results fn a.tmps).run P w = .ok v w) (hd : a.defers = []) (hR : R (.returned v) w) : rfPost P fn R .ret a w := .inl ⟨hd, v, hr, hR⟩
theorem rfPost_end {fn : Func} {R : Ending → World → Prop} {a : Act} {w : World} {v : Value} (hr : (results fn a.tmps).run P w = .ok v w) (hd : a.defers = []) (hR : R (.returned v) w) : rfPost P fn R .normal a w := .inl ⟨hd, v, hr, hR⟩
theorem rfPost_retD {fn : Func} {R : Ending → World → Prop} {a : Act} {w : World} {v : Value} {D : Nat} (hd : a.defers = [{ target := .collected D, args := #[] }]) (hD : w.heap[D]? = some (.deferred (some [])))
    (hr : (results fn a.tmps).run P (w.putObj D (.deferred none)) = .ok v (w.putObj D (.deferred none))) (hR : R (.returned v) (w.putObj D (.deferred none))) : rfPost P fn R .ret a w := .inr ⟨D, hd, hD, v, hr, hR⟩
theorem calls_of_rf {f : FuncId} {fn : Func} {c : Code} {args : Array Value} {w : World} {R : Ending → World → Prop} (hf : P.funcs[f]? = some fn) (hb : fn.body = some c)
    (h : c.wp P (rfPost P fn R) { tmps := args ++ Array.replicate (fn.ntmps - args.size) undef, defers := [] } w) : Calls P f args w R := by
  refine (callsIn_wide (n := 0)).1 (callsIn_of_wp_marks (n := 0) hf hb trivial ?_ rfl)
  refine wpIn_wide.2 (wp_mono h fun e a w hp => ?_)
  have fin : (a.defers = [] ∧ ∃ v, (results fn a.tmps).run P w = .ok v w ∧ R (.returned v) w) ∨
      (∃ D, a.defers = [{ target := .collected D, args := #[] }] ∧ w.heap[D]? = some (.deferred (some [])) ∧ ∃ v, (results fn a.tmps).run P (w.putObj D (.deferred none)) = .ok v (w.putObj D (.deferred none)) ∧ R (.returned v) (w.putObj D (.deferred none))) →
      LeavesInM Fence.wide 0 P fn a.tmps R a.defers .returning w := by
    rintro (⟨hd, v, hr, hR⟩ | ⟨D, hd, hD, v, hr, hR⟩)
    · rw [hd]; exact ⟨v, hr, hR⟩
    · rw [hd]; exact ⟨by simp, .inl ⟨D, _, rfl, run_takeDeferred hD, v, hr, hR⟩⟩
  cases e with
  | normal => exact fin hp
  | ret => exact fin hp
  | _ => exact hp.elim
/-- How the body of a round is left: it goes on. -/
def rdPost (J : World → Prop) (l D : Nat) (R O : Obj) : Exit → Act → World → Prop
  | .normal, _, W' => J W' ∧ W'.heap[l]? = some R ∧ W'.heap[D]? = some O
  | _, _, _ => False
/-- A call of yield in a state Jb x leads to a state Ja x; the loop's two blocks stay. -/
def YieldsTo (P : Program) {α : Type} (encs : α → Array Value) (l D : Nat) (R O : Obj) (Jb Ja : α → World → Prop) : Prop :=
  ∀ x W, Jb x W → W.heap[l]? = some R → W.heap[D]? = some O → YieldAt Fence.wide 0 P l (encs x) W fun e W' => e = .returned (.bool true) ∧ Ja x W' ∧ W'.heap[l]? = some R ∧ W'.heap[D]? = some O
theorem wp_rangeFunc_inv {α : Type} {g : Operand} {ps : Array Tmp} {assign body : Code} {Q : Exit → Act → World → Prop} {a : Act} {w : World}
    {gf : Nat} {la lb : Array Value} (hg : a.eval g = .func (.func gf) la lb) (eg : ∀ args w, (callFunc gf args).run P w = .ok (.enter gf args) w)
    (encs : α → Array Value) (hps : ∀ x, (encs x).size = ps.size) (l D : Nat) (hD : D = w.heap.size) (hl : l = w.heap.size + 1)
    (J : World → Prop) (Jb Ja : α → World → Prop) (Je : World → Prop)
    (kJ : ∀ x W o, Ja x W → Ja x (W.putObj l o)) (kb : ∀ x W o, Jb x W → Jb x (W.putObj l o)) (ke : ∀ W o, Je W → Je (W.putObj l o))
    (h0 : ∀ o o', J ((w.alloc o).alloc o')) (a₁ : α → Act)
    (hassign : ∀ (x : α) (W : World) (K : Act → World → Prop), K (a₁ x) W → assign.wpIn (Fence.wide.inRound l) 0 P (Exit.then K (fun _ _ _ => False)) { tmps := (ps.zip (encs x)).foldl (fun t (p, v) => t.setIfInBounds p v) a.tmps, defers := [] } W)
    (hiter : ∀ (R O : Obj) (W1 : World), J W1 → W1.heap[l]? = some R → W1.heap[D]? = some O → YieldsTo P encs l D R O Jb Ja →
      CallsIn Fence.wide 0 P gf (la ++ #[.func (.yield l) #[] #[]] ++ lb) W1 fun e W' => (∃ v, e = .returned v) ∧ Je W' ∧ W'.heap[l]? = some R ∧ W'.heap[D]? = some O)
    (hbody : ∀ (R O : Obj) (x : α) (W : World), Jb x W → W.heap[l]? = some R → W.heap[D]? = some O → body.wpIn (Fence.wide.inRound l) 0 P (rdPost (Ja x) l D R O) (a₁ x) W)
    (hdone : ∀ (W : World), Je W → W.heap[D]? = some (.deferred (some [])) → Q .normal { a with defers := { target := .collected D, args := #[] } :: a.defers } W) :
    (Code.rangeFunc g ps assign body).wp P Q a w := by
  subst hD hl
  refine (wpIn_wide (n := 0)).1 (wpIn_rangeFunc ?_)
  intro fn _
  obtain ⟨rec, hrec⟩ : ∃ rec : LoopState → Option Code → Loop, rec = fun st pe => { state := st, pending := pe, fn, tmps := a.tmps, params := ps, assign, body, defers := w.heap.size } := ⟨_, rfl⟩
  obtain ⟨W1, hW1⟩ : ∃ W1, (w.alloc (.deferred (some []))).alloc (.loop (rec .ready none)) = W1 := ⟨_, rfl⟩
  have hL1 : W1.heap[w.heap.size + 1]? = some (.loop (rec .ready none)) := by
    rw [← hW1]; have := World.alloc_heap_new (w.alloc (.deferred (some []))) (.loop (rec .ready none)); rwa [World.size_alloc] at this
  have hK1 : W1.heap[w.heap.size]? = some (.deferred (some [])) := by
    rw [← hW1]; exact (Below.heap_alloc _ _ _ (by simp)).trans (World.alloc_heap_new w _)
  have hI1 : J W1 := by rw [← hW1]; exact h0 _ _
  refine ⟨w.heap.size + 1, [{ target := .collected w.heap.size, args := #[] }], W1, { target := .fn (.func gf) lb, args := la ++ #[.func (.yield (w.heap.size + 1)) #[] #[]] }, W1, gf,
    la ++ #[.func (.yield (w.heap.size + 1)) #[] #[]] ++ lb, W1, ?_, ?_, ?_, ?_, fun h => by simp [Fence.wide] at h, ?_⟩
  · rw [← hW1, hrec]; exact run_enterLoop_outer _ _ _ _ _
  · simp only [resolve, hg]
    simp [go_sem]
  · intro f' hf'; trivial
  · simp [invoke, go_sem, eg]
  · refine (hiter (.loop (rec .ready none)) (.deferred (some [])) W1 hI1 hL1 hK1 ?_).mono ?_
    · rintro x W hi hl hk
      have hlt : w.heap.size + 1 < W.heap.size := (Array.getElem?_eq_some_iff.1 hl).1
      have hy := run_yield (P := P) (args := encs x) hl (by rw [hrec]; exact hps x)
      rw [hrec] at hy
      refine ⟨fn, _, assign, body, hy, roundIn_of_wpIn trivial (hassign x W _ ⟨_, run_beginRound hl (by rw [hrec]), ?_⟩)⟩
      have hl2 : (W.putObj (w.heap.size + 1) (.loop { rec .ready none with state := .busy })).heap[w.heap.size + 1]? = some (.loop { rec .ready none with state := .busy }) := World.putObj_heap_same hlt
      have hk2 : (W.putObj (w.heap.size + 1) (.loop { rec .ready none with state := .busy })).heap[w.heap.size]? = some (.deferred (some [])) := (World.putObj_heap_other (by omega)).trans hk
      refine wpIn_mono (hbody _ _ x _ (kb x W _ hi) hl2 hk2) ?_
      rintro e a3 W3 hp
      cases e with
      | normal =>
        obtain ⟨hj, hl3, hk3⟩ := hp
        have hr := run_endRound (P := P) none hl3
        rw [hrec] at hr ⊢
        exact ⟨_, _, hr, rfl, kJ _ _ _ hj, World.putObj_heap_same (Array.getElem?_eq_some_iff.1 hl3).1, (World.putObj_heap_other (by omega)).trans hk3⟩
      | _ => exact hp.elim
    · rintro e W2 ⟨⟨v, rfl⟩, hi, hl, hk⟩
      exact ⟨none, _, by have := run_endLoop (P := P) hl (by rw [hrec]; simp); rw [hrec] at this; exact this, hdone _ (ke _ _ hi) ((World.putObj_heap_other (by omega)).trans hk)⟩
theorem Mod.putObj (w : World) (l : Nat) (o : Obj) : Mod (fun k => k = l) w (w.putObj l o) :=
  ⟨rfl, rfl, rfl, by simp [World.putObj], fun k _ hn => World.putObj_heap_other (fun e => hn e)⟩
theorem Mod.obj {F : Nat → Prop} {w w' : World} (h : Mod F w w') {l : Nat} {o : Obj} (hl : w.heap[l]? = some o) (hn : ¬ F l) : w'.heap[l]? = some o :=
  (h.block l (Array.getElem?_eq_some_iff.1 hl).1 hn).trans hl
end Mile
namespace Go.Proofs.Ytbjdjafkpldbnaa
open Go.RowKit Mile
set_option maxRecDepth 100000
theorem wf_i64 (x : Int) (h : -9223372036854775808 ≤ x ∧ x ≤ 9223372036854775807) : (Lit.int .i64 x).wf = true := by
  show (decide (IntKind.min .i64 ≤ x) && decide (x ≤ IntKind.max .i64)) = true
  rw [show IntKind.min .i64 = -9223372036854775808 by decide, show IntKind.max .i64 = 9223372036854775807 by decide]
  simp; exact h
/-- A search at block p: what is settled in the row at block rb, what is known in its heap, whose blocks are F. -/
structure SrO (w : World) (p rb m : Nat) (d : List Int) (S : List It) (F : Nat → Prop) : Prop where
  hp : DH.HpO w p (.slice (some ⟨rb, 0, none⟩) m m) S F
  row : w.ownsRow 0 3 1 (.slice (some ⟨rb, 0, none⟩) m m) m (d.map (Value.int .i64))
  ap : ¬ F rb
section
variable {w w' : World} {p rb m : Nat} {d : List Int} {S : List It} {F G : Nat → Prop}
theorem SrO.len (h : SrO w p rb m d S F) : d.length = m := by have := h.row.1; simpa using this
theorem SrO.keep (h : SrO w p rb m d S F) (hm : Mod G w w') (hd : ∀ k, F k → ¬ G k) (hr : ¬ G rb) : SrO w' p rb m d S F :=
  ⟨h.hp.keep hm hd, Own.keep h.row hm (fun k hk e => hr (by simp [Value.ownBlock] at hk; rw [hk]; exact e)), h.ap⟩
theorem SrO.rblt (h : SrO w p rb m d S F) (hm : 0 < m) : rb < w.heap.size := by
  obtain ⟨g, c, he, _, hlt⟩ := own_block h.row hm
  cases he; exact hlt
theorem DH.HpO.cells {fv : Value} (h : DH.HpO w p fv S F) : ∃ v mb, Blk w p 99 [fv, v, .map mb] := by
  obtain ⟨v, l, mb, f, h1, _⟩ := h; exact ⟨v, mb, h1.blk⟩
theorem SrO.ids (h : SrO w p rb m d S F) : Srt S ∧ Ids S := ⟨h.hp.ok.1, h.hp.ok.2.1⟩
end
def ReachP (p rb m : Nat) (d : List Int) (S : List It) (F : Nat → Prop) (e : Nat) (k : Int) (w : World) (x : Ending) (w' : World) : Prop :=
  x = .returned (.tuple #[]) ∧ ∃ F', SrO w' p rb m d (reachS d S e k) F' ∧ Aft w w' F F'
set_option maxHeartbeats 2000000 in
theorem reach_any (p rb m : Nat) (w : World) (d : List Int) (S : List It) (F : Nat → Prop) (h : SrO w p rb m d S F) (e : Nat) (he : e < m) (k : Int) (hk : (Lit.int .i64 k).wf = true) (hS : S.length ≤ 1000) (hm : m ≤ 100000) :
    Calls Try.prog 55 #[.pointer (some ⟨p, 0, none⟩), .int .i64 (e : Int), .int .i64 k] w (ReachP p rb m d S F e k w) := by
  obtain ⟨iI, hiI, hzI, hsI, hbI⟩ := info_parts GR.infoI
  have hl := h.len
  obtain ⟨v, mb, hb⟩ := h.hp.cells
  have c0 := hb.cell 0 rfl
  obtain ⟨eb, eo, hpl, e0⟩ := rd1 (Rd.ofOwn h.row) e (by omega)
  have hix := fun wx => run_indexS (P := Try.prog) wx 22 3 iI 1 Try.underlying22 hiI hsI (some ⟨rb, 0, none⟩) m m e he (by simp)
  rw [hpl] at hix
  have hde := dAt_eq d e (by omega)
  obtain ⟨x, hx⟩ : ∃ x, d[e]'(by omega) = x := ⟨_, rfl⟩
  rw [hx] at e0 hde
  have HB := Lib.hid hb
  have H := Lib.hid h
  have hpl2 := fun hr hs => DH.hpush_any p w S F h.hp (by omega) (e : Int) k hr hs
  have HP := Lib.hid hpl2
  have hewf : (Lit.int .i64 (e : Int)).wf = true := wf_i64 _ (by omega)
  clear hx hpl hb hpl2 h
  by_cases hd : dAt d e = -1
  · have hx1 : x = -1 := by rw [← hde]; exact hd
    subst hx1
    have HR : Hid (reachS d S e k = (pushS S e k).2) := Lib.hid (by unfold reachS; rw [if_pos hd])
    clear hd hde
    go_enter Try.func55, Try.ntmps55
    go_wp2_with fail
    refine (HP.out hewf hk).mono ?_
    rintro x w1 ⟨rfl, F', hp', hA⟩
    go_wp2_with fail
    go_end0
    refine ⟨rfl, F', ⟨by rw [HR.out]; exact hp', Own.keep H.out.row hA.1 (fun q hq e2 => H.out.ap (by simp [Value.ownBlock] at hq; rw [hq]; exact e2)), fun e2 => ?_⟩, hA⟩
    rcases hA.2 rb e2 with h1 | h1
    · exact H.out.ap h1
    · have := H.out.rblt (by omega); omega
  · have hx1 : (x == -1) = false := by rw [beq_eq_false_iff_ne]; omega
    have HR : Hid (reachS d S e k = S) := Lib.hid (by unfold reachS; rw [if_neg hd])
    clear hd hde
    go_enter Try.func55, Try.ntmps55
    go_wp2_with fail
    go_end0
    exact ⟨rfl, F, by rw [HR.out]; exact H.out, Aft.refl _ _⟩
/-- Whether an edge is closed. -/
def clB (cl : List Bool) (e : Int) : Bool := decide (0 ≤ e) && cl.getD e.toNat false
theorem rdb {w : World} {n c : Nat} {a : Option Addr} {S : List Bool} (h : Rd w 1 (.slice a n c) n (S.map Value.bool)) (i : Nat) (hi : i < S.length) :
    ∃ b o, elemA a i 1 = ⟨b, o, none⟩ ∧ w.cell? ⟨b, o, none⟩ = some (.bool S[i]) := by
  have hn : n = S.length := by have := h.1; simp at this; omega
  obtain ⟨b, o, hp, _⟩ := h.place (j := i) (by omega)
  refine ⟨b, o, hp, ?_⟩
  have := h.elemN (j := i) (i := 0) (u := .bool S[i]) (by omega) (by simp [hi])
  simpa using this
theorem GR.infoBo : (Try.prog.info? 4).map (fun i => (i.zero, i.size, i.bytes)) = some (some (.bool false), 1, 1) := by kernel_rfl
set_option maxHeartbeats 2000000 in
theorem closed_any (w : World) (a : Option Addr) (n c : Nat) (cl : List Bool) (hn : cl.length = n) (hr : Rd w 1 (.slice a n c) n (cl.map Value.bool)) (e : Int) :
    Calls Try.prog 46 #[.slice a n c, .int .i64 e] w fun x w' => x = .returned (.bool (clB cl e)) ∧ w = w' := by
  obtain ⟨iI, hiI, hzI, hsI, hbI⟩ := info_parts GR.infoBo
  by_cases h0 : 0 ≤ e
  · obtain ⟨k, rfl⟩ := Int.eq_ofNat_of_zero_le h0
    have hc : clB cl (k : Int) = cl.getD k false := by unfold clB; simp
    by_cases hk : k < n
    · obtain ⟨eb, eo, hpl, e0⟩ := rdb hr k (by omega)
      have hix := fun wx => run_indexS (P := Try.prog) wx 32 4 iI 1 Try.underlying32 hiI hsI a n c k hk (hr.some_ (by omega))
      rw [hpl] at hix
      have hg : cl.getD k false = cl[k]'(by omega) := by simp [List.getD, show k < cl.length by omega]
      obtain ⟨x, hx⟩ : ∃ x, cl[k]'(by omega) = x := ⟨_, rfl⟩
      rw [hg, hx] at hc
      rw [hx] at e0
      have z0 : decide ((k : Int) < (n : Int)) = true := by simp; omega
      rw [hc]
      clear hc hg hx hpl
      go_enter Try.func46, Try.ntmps46
      go_wp2_with fail
      go_ret
      exact ⟨by simp, rfl⟩
    · have hg : cl.getD k false = false := by simp [List.getD, show cl.length ≤ k by omega]
      rw [hc, hg]
      have z0 : decide ((k : Int) < (n : Int)) = false := by simp; omega
      clear hc hg
      go_enter Try.func46, Try.ntmps46
      go_wp2_with fail
      go_ret
      exact ⟨by simp, rfl⟩
  · have hc : clB cl e = false := by unfold clB; simp [h0]
    rw [hc]
    have z0 : decide (0 ≤ e) = false := by simpa using h0
    clear hc
    go_enter Try.func46, Try.ntmps46
    go_wp2_with fail
    go_ret
    exact ⟨by simp, rfl⟩
end Go.Proofs.Ytbjdjafkpldbnaa
namespace Go.Proofs.Ytbjdjafkpldbnaa
open Go.RowKit Mile
set_option maxRecDepth 100000
attribute [local go_sem] Oper.semAt_some
/-- The search within a loop over settled: what lies where; wl is the world ahead of the loop, l and D its two blocks. -/
structure Mem (wl : World) (F0 : Nat → Prop) (l D p rb m : Nat) (d : List Int) (S : List It) (F : Nat → Prop) (W : World) : Prop where
  o : SrO W p rb m d S F
  fl : ¬ F l ∧ ¬ F D ∧ rb ≠ l ∧ rb ≠ D
  new : ∀ k, F k → F0 k ∨ wl.heap.size ≤ k
  md : Mod (fun k => F0 k ∨ k = rb) wl W
  hl : wl.heap.size ≤ l ∧ wl.heap.size ≤ D
section
variable {wl W W' : World} {F0 : Nat → Prop} {l D p rb m : Nat} {d d' : List Int} {S S' : List It} {F F' : Nat → Prop}
theorem Mem.put (h : Mem wl F0 l D p rb m d S F W) (o : Obj) : Mem wl F0 l D p rb m d S F (W.putObj l o) :=
  ⟨h.o.keep (Mod.putObj W l o) (fun k hk e => h.fl.1 (by have e2 : k = l := e; rw [← e2]; exact hk)) (fun e => h.fl.2.2.1 e), h.fl, h.new, h.md.trans (Mod.putObj W l o) (fun _ _ e => e) (fun i hi e => by have e2 : i = l := e; have := h.hl.1; omega), h.hl⟩
theorem Mem.keep (h : Mem wl F0 l D p rb m d S F W) (hm : Mod (fun _ => False) W W') : Mem wl F0 l D p rb m d S F W' :=
  ⟨h.o.keep hm (fun _ _ e => e) (fun e => e), h.fl, h.new, h.md.trans hm (fun _ _ e => e) (fun _ _ e => e.elim), h.hl⟩
/-- A call that turns the heap's blocks. -/
theorem Mem.aft (h : Mem wl F0 l D p rb m d S F W) (hs : l < W.heap.size ∧ D < W.heap.size) (ho : SrO W' p rb m d' S' F') (ha : Aft W W' F F') : Mem wl F0 l D p rb m d' S' F' W' :=
  ⟨ho, ⟨fun e => (ha.2 l e).elim h.fl.1 (fun e2 => by omega), fun e => (ha.2 D e).elim h.fl.2.1 (fun e2 => by omega), h.fl.2.2⟩,
   fun k hk => (ha.2 k hk).elim (h.new k) (fun e => .inr (Nat.le_trans h.md.size e)),
   h.md.trans ha.1 (fun _ _ e => e) (fun i hi e => (h.new i e).elim .inl (fun e2 => by omega)), h.hl⟩
end
/-- Rounds of a loop over settled: the edge, how far, how many are left. -/
abbrev Rnd := Nat × Int × Nat
def rndV (x : Rnd) : Array Value := #[.int .i64 (x.1 : Int), .int .i64 x.2.1]
def JSt (X : Web) (wl : World) (F0 : Nat → Prop) (l D p rb : Nat) (W : World) : Prop := ∃ d S F c, Mem wl F0 l D p rb X.m d S F W ∧ Dij X d S c (fun _ _ => False) (fun _ => False)
def JRd (X : Web) (wl : World) (F0 : Nat → Prop) (l D p rb : Nat) (x : Rnd) (W : World) : Prop := ∃ d S F, Mem wl F0 l D p rb X.m d S F W ∧ Dij X d S x.2.1 (fun _ b => b = x.1) (fun _ => False) ∧ dAt d x.1 = x.2.1 ∧ x.1 < X.m ∧ openN d = x.2.2
def JAf (X : Web) (wl : World) (F0 : Nat → Prop) (l D p rb : Nat) (x : Rnd) (W : World) : Prop := ∃ d S F c, Mem wl F0 l D p rb X.m d S F W ∧ Dij X d S c (fun _ _ => False) (fun _ => False) ∧ openN d = x.2.2
def JEn (X : Web) (wl : World) (F0 : Nat → Prop) (l D p rb : Nat) (W : World) : Prop := ∃ d F, Mem wl F0 l D p rb X.m d [] F W ∧ Fix X d
section
variable {X : Web} {wl W : World} {F0 : Nat → Prop} {l D p rb : Nat} {x : Rnd}
theorem JAf.put (o : Obj) (h : JAf X wl F0 l D p rb x W) : JAf X wl F0 l D p rb x (W.putObj l o) := by obtain ⟨d, S, F, c, h1, h2⟩ := h; exact ⟨d, S, F, c, h1.put o, h2⟩
theorem JRd.put (o : Obj) (h : JRd X wl F0 l D p rb x W) : JRd X wl F0 l D p rb x (W.putObj l o) := by obtain ⟨d, S, F, h1, h2⟩ := h; exact ⟨d, S, F, h1.put o, h2⟩
theorem JEn.put (o : Obj) (h : JEn X wl F0 l D p rb W) : JEn X wl F0 l D p rb (W.putObj l o) := by obtain ⟨d, F, h1, h2⟩ := h; exact ⟨d, F, h1.put o, h2⟩
end
def isN : Value → Bool
  | .int _ x => x == -1
  | _ => false
/-- How many of a row are open, read off memory. -/
def farN (rb m : Nat) (W : World) : Nat := match W.heap[rb]? with
  | some (.cells cur _ _) => ((cur.toList.take m).filter isN).length
  | _ => 0
theorem farN_eq {W : World} {rb m : Nat} {d : List Int} (h : W.ownsRow 0 3 1 (.slice (some ⟨rb, 0, none⟩) m m) m (d.map (Value.int .i64))) : farN rb m W = openN d := by
  rcases h.2 with ⟨e, _⟩ | ⟨g, cap, cur, he, hb, hg, hnc, hcm, hcs, htake⟩
  · cases e
  · cases he
    unfold farN
    rw [hg]
    simp only []
    rw [Nat.mul_one] at htake
    rw [htake, List.filter_map]
    unfold openN
    rw [List.length_map]
    rfl
def SetP (X : Web) (wl : World) (F0 : Nat → Prop) (l D p rb : Nat) (R O : Obj) (e : Ending) (W' : World) : Prop := (∃ v, e = .returned v) ∧ JEn X wl F0 l D p rb W' ∧ W'.heap[l]? = some R ∧ W'.heap[D]? = some O
set_option maxHeartbeats 4000000 in
theorem settled_in (X : Web) (wl : World) (F0 : Nat → Prop) (l D p rb : Nat) (hm : X.m ≤ 1000) (_ : wl.heap.size ≤ l ∧ wl.heap.size ≤ D) (R O : Obj) (W1 : World) (hJ : JSt X wl F0 l D p rb W1) (hl : W1.heap[l]? = some R) (hD : W1.heap[D]? = some O)
    (hY : YieldsTo Try.prog rndV l D R O (JRd X wl F0 l D p rb) (JAf X wl F0 l D p rb)) :
    CallsIn Fence.wide 0 Try.prog 54 #[.pointer (some ⟨p, 0, none⟩), .func (.yield l) #[] #[]] W1 (SetP X wl F0 l D p rb R O) := by
  obtain ⟨iI, hiI, hzI, hsI, hbI⟩ := info_parts GR.infoI
  have HY := Lib.hid hY
  have HJ := Lib.hid hJ
  have HL := Lib.hid hl
  have HD := Lib.hid hD
  clear hY hJ hl hD
  refine callsIn_of_wp Try.func54 rfl trivial ?_ rfl
  simp only [Try.ntmps54, List.size_toArray, List.length_cons, List.length_nil, Nat.reduceAdd, Nat.reduceSub, Array.replicate_succ, Array.replicate_zero, List.push_toArray, List.append_toArray, List.nil_append, List.cons_append]
  gi_wp2_with fail
  gi_loopw [4, 5, 6] (fun _ _ _ wr => JSt X wl F0 l D p rb wr ∧ wr.heap[l]? = some R ∧ wr.heap[D]? = some O) (fun _ _ _ wr => farN rb X.m wr)
  case atStart => exact ⟨HJ.out, HL.out, HD.out⟩
  case round =>
    obtain ⟨⟨d, S, F, c, hM, hDj⟩, hl, hD⟩ := hrel
    obtain ⟨v, mb, hb⟩ := hM.o.hp.cells
    have hids := hM.o.ids
    have hfew := hDj.few hids.2
    have hlen := DH.len_any p wr S F hM.o.hp
    have hfn := farN_eq hM.o.row
    have HFN := Lib.hid hfn
    have HM := Lib.hid hM
    have HDj := Lib.hid hDj
    have HL1 := Lib.hid hl
    have HD1 := Lib.hid hD
    have HIDS := Lib.hid hids
    clear hM hDj hl hD hids hb hfn
    cases S with
    | nil =>
      have z0 : decide ((0 : Int) < (([] : List It).length : Int)) = false := by simp
      gi_wp2_with fail
      refine ⟨trivial, rfl, (callsIn_wide.2 hlen).mono ?_⟩
      rintro e w' ⟨rfl, rfl⟩
      clear hlen
      gi_wp2_with fail
      go_end0
      exact ⟨⟨_, rfl⟩, ⟨d, F, HM.out, HDj.out.done⟩, HL1.out, HD1.out⟩
    | cons x S =>
      have z0 : decide ((0 : Int) < ((x :: S).length : Int)) = true := by simp
      have hpop := DH.hpop_any p wr (x :: S) F HM.out.o.hp (by have := hfew; omega)
      have HPO := Lib.hid hpop
      clear hpop
      gi_wp2_with fail
      refine ⟨trivial, rfl, (callsIn_wide.2 hlen).mono ?_⟩
      rintro e w' ⟨rfl, rfl⟩
      clear hlen
      gi_wp2_with fail
      refine ⟨trivial, rfl, (callsIn_wide.2 HPO.out).mono ?_⟩
      rintro e w2 ⟨rfl, hp2, hm2⟩
      obtain ⟨n, hn, hnm, hdn, h0, hD2, hdx⟩ := HDj.out.pop HIDS.out.1 HIDS.out.2
      have hM := HM.out
      have hl2 := hm2.obj HL1.out hM.fl.1
      have hD3 := hm2.obj HD1.out hM.fl.2.1
      have hrow := Own.keep hM.o.row hm2 (fun k hk e => hM.o.ap (by simp [Value.ownBlock] at hk; rw [hk]; exact e))
      have hdl : d.length = X.m := HDj.out.len
      have hroom := Room.ofOwn hrow n (by omega)
      obtain ⟨v0, q0⟩ := hroom.cell
      have q1 := hroom.free
      have hst := (hrow.stored n (.int .i64 x.2)).1
      rw [← List.map_set] at hst
      have hix : ∀ wx, (Instr.indexAt 22 (.slice (some ⟨rb, 0, none⟩) X.m X.m) (.int .i64 (n : Int))).run Try.prog wx = .ok (.pointer (some ⟨rb, n, none⟩)) wx := fun wx => by
        have h := run_indexS (P := Try.prog) wx 22 3 iI 1 Try.underlying22 hiI hsI (some ⟨rb, 0, none⟩) X.m X.m n hnm (by simp)
        have hp := (show elemA (some ⟨rb, 0, none⟩) n 1 = ⟨rb, n, none⟩ by unfold elemA; rw [Option.getD_some, Addr.add_lit, Nat.zero_add, Nat.mul_one])
        rw [hp] at h; exact h
      have hset : Mod (fun k => k = rb) w2 (w2.setCell ⟨rb, n, none⟩ (.int .i64 x.2)) := Mod.setCell _ _ _ rfl
      have hM3 : Mem wl F0 l D p rb X.m (d.set n x.2) S F (w2.setCell ⟨rb, n, none⟩ (.int .i64 x.2)) := by
        refine ⟨⟨hp2.keep hset (fun k hk e => hM.o.ap (by have e2 : k = rb := e; rw [← e2]; exact hk)), hst, hM.o.ap⟩, hM.fl, hM.new, (hM.md.trans hm2 (fun _ _ e => e) (fun i hi e => (hM.new i e).elim .inl (fun e2 => by omega))).trans hset (fun _ _ e => e) (fun i _ e => .inr e), hM.hl⟩
      have hl4 := hset.obj hl2 (fun e => hM.fl.2.2.1 e.symm)
      have hD4 := hset.obj hD3 (fun e => hM.fl.2.2.2 e.symm)
      obtain ⟨v2, mb2, hb2⟩ := hp2.cells
      have c0 := hb2.cell 0 rfl
      obtain ⟨x1, x2⟩ := x
      simp only at hn h0 hdx hD2 hst q0 hset hM3 hl4 hD4
      subst hn
      have HON := Lib.hid (openN_set d n x2 (by omega) hdn h0)
      obtain ⟨fn, tmps, assign, body, hy, hR⟩ := HY.out (n, x2, openN (d.set n x2)) (w2.setCell ⟨rb, n, none⟩ (.int .i64 x2)) ⟨_, _, _, hM3, hD2, hdx, hnm, rfl⟩ hl4 hD4
      have HR := Lib.hid hR
      dsimp only [rndV] at hy
      clear hR hM hl2 hD3 hrow hroom hst hset hM3 hl4 hD4 hb2 hD2 hdx hp2 hm2
      gi_wp2_with fail
      first | refine HR.out.mono ?_ | refine ⟨rfl, HR.out.mono ?_⟩ | refine ⟨trivial, rfl, HR.out.mono ?_⟩
      rintro e W3 ⟨rfl, ⟨d3, S3, F3, c3, hM3, hD3, hn3⟩, hl3, hDD⟩
      gi_wp2_with fail
      go_roundw
      case rel => exact ⟨⟨d3, S3, F3, c3, hM3, hD3⟩, hl3, hDD⟩
      case measure =>
        rw [farN_eq hM3.o.row, hn3, HFN.out]
        have := HON.out
        show openN (d.set n x2) < openN d
        omega
end Go.Proofs.Ytbjdjafkpldbnaa
namespace Go.Proofs.Ytbjdjafkpldbnaa
open Go.RowKit Mile
set_option maxRecDepth 100000
def fillL (m i : Nat) : List Int := List.replicate i (-1) ++ List.replicate (m - i) 0
theorem fillL_zero (m : Nat) : fillL m 0 = List.replicate m 0 := by simp [fillL]
theorem fillL_all (m : Nat) : fillL m m = List.replicate m (-1) := by simp [fillL]
theorem fillL_len (m i : Nat) (h : i ≤ m) : (fillL m i).length = m := by simp [fillL]; omega
theorem fillL_set (m i : Nat) (h : i < m) : (fillL m i).set i (-1) = fillL m (i + 1) := by
  unfold fillL
  rw [List.set_append_right _ _ (by simp)]
  obtain ⟨k, hk⟩ : ∃ k, m - i = k + 1 := ⟨m - i - 1, by omega⟩
  rw [hk, show m - (i + 1) = k by omega, List.replicate_succ, List.length_replicate, Nat.sub_self, List.set_cons_zero, List.replicate_succ', List.append_assoc]
  rfl
/-- Where it begins, of what is handed in. -/
structure Begins (X : Web) (rs : List Int) : Prop where
  ok : ∀ r ∈ rs, ∃ e : Nat, r = e ∧ e < X.m ∧ X.st e
  all : ∀ e, X.st e → e < X.m → (e : Int) ∈ rs
/-- A search that has begun, in blocks from B0 on. -/
def BegV (X : Web) (B0 : Nat) : Value → World → Prop := fun v W => ∃ p rb S F, v = .pointer (some ⟨p, 0, none⟩) ∧ SrO W p rb X.m (List.replicate X.m (-1)) S F ∧ Dij X (List.replicate X.m (-1)) S 0 (fun _ _ => False) (fun _ => False) ∧ (∀ k, F k → B0 ≤ k) ∧ B0 ≤ rb ∧ rb < W.heap.size
theorem BegV.st {X : Web} {B0 : Nat} : ∀ v w w', BegV X B0 v w → Mod (fun _ => False) w w' → BegV X B0 v w' := fun _ _ _ ⟨p, rb, S, F, h1, h2, h3, h4, h5, h6⟩ m => ⟨p, rb, S, F, h1, h2.keep m (fun _ _ e => e) (fun e => e), h3, h4, h5, Nat.lt_of_lt_of_le h6 m.size⟩
theorem BegV.low {X : Web} {B B0 : Nat} {v : Value} {w : World} (h : BegV X B v w) (hb : B0 ≤ B) : BegV X B0 v w := by
  obtain ⟨p, rb, S, F, h1, h2, h3, h4, h5, h6⟩ := h
  exact ⟨p, rb, S, F, h1, h2, h3, fun k hk => Nat.le_trans hb (h4 k hk), Nat.le_trans hb h5, h6⟩
def BegP (X : Web) (w : World) (e : Ending) (w' : World) : Prop := ∃ v, e = .returned v ∧ BegV X w.heap.size v w' ∧ Mod (fun _ => False) w w'
set_option maxHeartbeats 4000000 in
theorem begin_any (X : Web) (hm : X.m ≤ 1000) (w : World) (a : Option Addr) (n c : Nat) (rs : List Int) (hn : rs.length = n) (hn1 : n ≤ 100000) (hr : Rd w 1 (.slice a n c) n (rs.map (Value.int .i64))) (hB : Begins X rs) :
    Calls Try.prog 53 #[.int .i64 (X.m : Int), .slice a n c] w (BegP X w) := by
  obtain ⟨iI, hiI, hzI, hsI, hbI⟩ := info_parts GR.infoI
  obtain ⟨m, hmm⟩ : ∃ m, X.m = m := ⟨_, rfl⟩
  rw [hmm] at hm ⊢
  have hmk := fun wx => run_makeS (P := Try.prog) 22 3 iI (.int .i64 0) Try.underlying22 hiI hzI rfl hsI m (by rw [hbI]; omega) (by omega) wx
  have ho0 := own_zrow w 3 (.int .i64 0) m w.heap.size rfl (by omega)
  obtain ⟨rb, hrb⟩ : ∃ b, w.heap.size = b := ⟨_, rfl⟩
  obtain ⟨w1, hw1⟩ : ∃ W, w.alloc (.cells (zrow (.int .i64 0) m) 3) = W := ⟨_, rfl⟩
  have hm1 : Mod (fun _ => False) w w1 := by rw [← hw1]; exact Mod.alloc _ _ _
  have hz1 : w1.heap.size = rb + 1 := by rw [← hw1, ← hrb]; exact heap_size_alloc _ _
  rw [hw1, hrb] at ho0
  have hmk2 := hmk w
  rw [hw1, hrb] at hmk2
  have hHp := DH.HpO.new (fv := .slice (some ⟨rb, 0, none⟩) m m) w1 (rb + 1) hz1.symm
  obtain ⟨w2, hw2⟩ : ∃ W, w1.alloc (.cells #[.slice (some ⟨rb, 0, none⟩) m m, .slice none 0 0, .map none] 99) = W := ⟨_, rfl⟩
  rw [hw2] at hHp
  have hm2 : Mod (fun _ => False) w1 w2 := by rw [← hw2]; exact Mod.alloc _ _ _
  have ho2 := Own.keep ho0 hm2 (fun _ _ e => e)
  have hS : SrO w2 (rb + 1) rb m (fillL m 0) [] (fun k => k = rb + 1) := ⟨hHp, by rw [fillL_zero, List.map_replicate]; exact ho2, by omega⟩
  obtain ⟨p, hp⟩ : ∃ p, rb + 1 = p := ⟨_, rfl⟩
  rw [hp] at hS hz1
  obtain ⟨v9, mb9, hb9⟩ := hS.hp.cells
  have c0 := hb9.cell 0 rfl
  have HS := Lib.hid hS
  have HM2 := Lib.hid (hm1.of2 hm2)
  have HR := Lib.hid hr
  have HN := Lib.hid hn
  have HX := Lib.hid hmm
  have HRB := Lib.hid (And.intro hrb hp)
  have HBg := Lib.hid hB
  clear hmk ho0 hHp hm2 ho2 hS hm1 hr hn hmm hB
  go_enter Try.func53, Try.ntmps53
  go_wp2_with fail
  clear hw2 hz1 hmk2 hw1 hrb hp c0 hb9
  go_loopw [18] (fun i wr => ∃ k : Nat, k ≤ m ∧ i = .int .i64 k ∧ SrO wr p rb m (fillL m k) [] (fun k => k = p) ∧ Mod (fun _ => False) w wr) (fun i _ => m - (intOf i).toNat)
  case atStart => exact ⟨0, by omega, rfl, HS.out, HM2.out⟩
  case round =>
    obtain ⟨k, hk, rfl, hS, hM⟩ := hrel
    obtain ⟨v9, mb9, hb9⟩ := hS.hp.cells
    have c0 := hb9.cell 0 rfl
    have HS1 := Lib.hid hS
    have HM := Lib.hid hM
    clear hS hM hb9
    by_cases hlt : k < m
    case pos =>
      have z0 : decide ((k : Int) < (m : Int)) = true := by simp; omega
      have hrow := HS1.out.row
      have hroom := Room.ofOwn hrow k (by omega)
      obtain ⟨v0, q0⟩ := hroom.cell
      have q1 := hroom.free
      have hst := (hrow.stored k (.int .i64 (-1))).1
      rw [← List.map_set, fillL_set m k hlt] at hst
      have hix : ∀ wx, (Instr.indexAt 22 (.slice (some ⟨rb, 0, none⟩) m m) (.int .i64 (k : Int))).run Try.prog wx = .ok (.pointer (some ⟨rb, k, none⟩)) wx := fun wx => by
        have h := run_indexS (P := Try.prog) wx 22 3 iI 1 Try.underlying22 hiI hsI (some ⟨rb, 0, none⟩) m m k hlt (by simp)
        have hp := (show elemA (some ⟨rb, 0, none⟩) k 1 = ⟨rb, k, none⟩ by unfold elemA; rw [Option.getD_some, Addr.add_lit, Nat.zero_add, Nat.mul_one])
        rw [hp] at h; exact h
      have HST := Lib.hid hst
      clear hst hrow hroom
      go_wp2_with fail
      go_roundw
      case rel =>
        have hset : ∀ wx, Mod (fun k => k = rb) wx (wx.setCell ⟨rb, k, none⟩ (.int .i64 (-1))) := fun wx => Mod.setCell _ _ _ rfl
        exact ⟨k + 1, hlt, by go_num, ⟨HS1.out.hp.keep (hset _) (fun q hq e => by have h1 := HRB.out; have h2 : q = p := hq; have h3 : q = rb := e; omega), HST.out, HS1.out.ap⟩, HM.out.old (hset _) (fun i hi => by have h1 := HRB.out.1; have h2 : i = rb := hi; omega)⟩
      case measure => simp [intOf]; omega
    case neg =>
      obtain rfl : k = m := by omega
      have z0 : decide ((k : Int) < (k : Int)) = false := by simp
      go_wp2_with fail
      clear z0 c0 hlt hk
      have hD0 := Dij.begin X (fun e => (e : Int) ∈ rs.drop 0) (fun e h1 h2 => by simpa using HBg.out.all e h1 h2)
      have hS0 := HS1.out
      rw [fillL_all] at hS0
      go_loopw [30] (fun i wr => ∃ (j : Nat) (S : List It) (F : Nat → Prop), j ≤ n ∧ i = .int .i64 j ∧ SrO wr p rb k (List.replicate k (-1)) S F ∧ Dij X (List.replicate X.m (-1)) S 0 (fun _ _ => False) (fun e => (e : Int) ∈ rs.drop j) ∧ (∀ q, F q → w.heap.size ≤ q) ∧ Mod (fun _ => False) w wr) (fun i _ => n - (intOf i).toNat)
      case atStart => exact ⟨0, [], _, by omega, rfl, hS0, hD0, fun q hq => by have h1 := HRB.out; have h2 : q = p := hq; omega, HM.out⟩
      case round =>
        clear hS0 hD0
        obtain ⟨j, S, F, hj, rfl, hS, hD, hF, hM⟩ := hrel
        obtain ⟨wo, hwo⟩ : ∃ x : World, x = wr := ⟨_, rfl⟩
        subst hwo
        have HSS := Lib.hid hS
        have HDD := Lib.hid hD
        have HF := Lib.hid hF
        have HMM := Lib.hid hM
        clear hS hD hF hM
        by_cases hlt : j < n
        case pos =>
          have z0 : decide ((j : Int) < (n : Int)) = true := by simp; omega
          have hjl : j < rs.length := by rw [HN.out]; exact hlt
          have hr1 := HR.out.keep HMM.out (fun _ _ e => e)
          obtain ⟨eb, eo, hpl, e0⟩ := rd1 hr1 j hjl
          have hix := fun wx => run_indexS (P := Try.prog) wx 22 3 iI 1 Try.underlying22 hiI hsI a n c j hlt (hr1.some_ (by omega))
          rw [hpl] at hix
          obtain ⟨e, he, hem, hst⟩ := HBg.out.ok _ (List.getElem_mem hjl)
          rw [he] at e0
          have HE := Lib.hid he
          have hek : e < k := by rw [← HX.out]; exact hem
          have hids := HSS.out.ids
          have hfew := HDD.out.few hids.2
          have hreach := reach_any p rb k wo _ S F HSS.out e hek 0 (wf_i64 _ (by omega)) (by have := HX.out; omega) (by omega)
          have hD2 := HDD.out.start (pst' := fun e => (e : Int) ∈ rs.drop (j + 1)) hids.2 hst hem (dAt_rep _ _) (fun e' h => by
            rw [List.drop_eq_getElem_cons hjl] at h
            rcases List.mem_cons.1 h with h | h
            · rw [HE.out] at h; exact .inr (by omega)
            · exact .inl h)
          have HD2 := Lib.hid hD2
          have HRe := Lib.hid hreach
          clear hr1 hpl he hst hem hids hfew hreach hD2
          go_wp2_with fail
          refine HRe.out.mono ?_
          rintro x w3 ⟨rfl, F', hS3, hA⟩
          go_wp2_with fail
          go_roundw
          case rel => exact ⟨j + 1, _, F', hlt, by go_num, hS3, by have := HD2.out; rw [HX.out] at this ⊢; exact this, fun q hq => (hA.2 q hq).elim (HF.out q) (fun e2 => Nat.le_trans HMM.out.size e2), HMM.out.old hA.1 HF.out⟩
          case measure => simp [intOf]; omega
        case neg =>
          obtain rfl : j = n := by omega
          have z0 : decide ((j : Int) < (j : Int)) = false := by simp
          go_wp2_with fail
          go_ret
          refine ⟨_, rfl, ⟨p, rb, S, F, rfl, by rw [HX.out]; exact HSS.out, HDD.out.said (fun _ _ _ _ h => h) (fun e _ _ h => by rw [List.drop_of_length_le (by rw [HN.out]; exact Nat.le_refl _)] at h; cases h), HF.out, by have := HRB.out.1; omega, ?_⟩, HMM.out⟩
          have := HSS.out.hp.lt p HSS.out.hp.self
          have := HRB.out.2
          omega
end Go.Proofs.Ytbjdjafkpldbnaa
namespace Go.Proofs.Ytbjdjafkpldbnaa
open Go.RowKit Mile
set_option maxRecDepth 100000
theorem edgeW (G : GD) (hm : May G) (b : Int) (h : 0 ≤ b ∧ b < (G.E.length : Int)) : 1 ≤ (eAt G b).2.2 ∧ (eAt G b).2.2 ≤ 65535 := by
  obtain ⟨k, rfl⟩ := Int.eq_ofNat_of_zero_le h.1
  have hk : k < G.E.length := by omega
  rw [eAt_eq G k hk]
  have := hm.2.2.1 _ (List.getElem_mem hk)
  unfold EdgeOk at this
  omega
theorem turnB_in {G : GD} {a b : Int} (h : turnB G a b = true) : (0 ≤ a ∧ a < (G.E.length : Int)) ∧ (0 ≤ b ∧ b < (G.E.length : Int)) := by
  have := of_decide_eq_true h
  exact ⟨this.1, this.2.1⟩
/-- How far it is to a node. -/
def webTo (G : GD) (hm : May G) (v : Int) (cl : List Bool) : Web where
  m := G.E.length
  st := fun e => (eAt G (e : Int)).2.1 = v
  rl := fun e b => turnB G (e : Int) (b : Int) = true ∧ clB cl (b : Int) = false
  wt := fun _ b => (eAt G (b : Int)).2.2
  one := fun e b h => by
    have h1 := turnB_in h.1
    have := edgeW G hm (b : Int) h1.2
    exact ⟨this.1, this.2, by omega, by omega⟩
/-- How far it is from an edge. -/
def webFrom (G : GD) (hm : May G) (a : Int) (cl : List Bool) : Web where
  m := G.E.length
  st := fun e => (e : Int) = a
  rl := fun e b => turnB G (b : Int) (e : Int) = true ∧ clB cl (e : Int) = false
  wt := fun e _ => (eAt G (e : Int)).2.2
  one := fun e b h => by
    have h1 := turnB_in h.1
    have := edgeW G hm (e : Int) h1.2
    exact ⟨this.1, this.2, by omega, by omega⟩
/-- A row of how far each is. -/
def DRow (X : Web) (B0 : Nat) (v : Value) (w : World) : Prop := ∃ rb d, v = .slice (some ⟨rb, 0, none⟩) X.m X.m ∧ w.ownsRow B0 3 1 v X.m (d.map (Value.int .i64)) ∧ Fix X d
theorem DRow.st {X : Web} {B0 : Nat} : ∀ v w w', DRow X B0 v w → Mod (fun _ => False) w w' → DRow X B0 v w' := fun _ _ _ ⟨rb, d, h, o, f⟩ m => ⟨rb, d, h, Own.keep o m (fun _ _ e => e), f⟩
theorem blk_type {w : World} {b : Nat} {T T' : TypeId} {cs cs' : List Value} (h : Blk w b T cs) (h' : Blk w b T' cs') : T = T' := by
  unfold Blk at h h'; rw [h] at h'; simp at h'; exact h'.2
theorem own_type {w : World} {b base size n c m : Nat} {T T' : TypeId} {cs xs : List Value} (h : Blk w b T cs) (h' : w.ownsRow base T' size (.slice (some ⟨b, 0, none⟩) n c) m xs) : T = T' := by
  rcases h'.2 with ⟨e, _⟩ | ⟨g, cap, cur, he, hb, hg, _⟩
  · cases e
  · cases he
    unfold Blk at h; rw [h] at hg; simp at hg; exact hg.2
/-- A block of another type is none of the search's own. -/
theorem SrO.trim {w : World} {p rb m : Nat} {d : List Int} {S : List It} {F : Nat → Prop} (h : SrO w p rb m d S F) {b : Nat} {T : TypeId} {cs : List Value} (hb : Blk w b T cs) (h1 : T ≠ 99) (h2 : T ≠ 110) (h3 : T ≠ 3) :
    SrO w p rb m d S (fun k => F k ∧ k ≠ b) ∧ rb ≠ b := by
  refine ⟨⟨?_, h.row, fun e => h.ap e.1⟩, fun e => h3 ?_⟩
  · obtain ⟨v, l, mb, f, hr, rest⟩ := h.hp
    refine ⟨v, l, mb, f, ⟨hr.blk, hr.own, hr.place, ⟨hr.self, fun e => h1 ?_⟩, fun k hk => ⟨⟨(hr.row k hk).1, fun e => h2 ?_⟩, (hr.row k hk).2⟩, fun k hk => ⟨⟨(hr.map k hk).1, fun e => ?_⟩, (hr.map k hk).2⟩, fun k hk => hr.lt k hk.1, hr.ok⟩, rest⟩
    · subst e; exact blk_type hb hr.blk
    · subst e
      rcases hr.own.2 with ⟨e, _⟩ | ⟨g, cap, cur, he, _⟩
      · rw [e] at hk; cases hk
      · subst he
        obtain rfl : g = k := by simpa [Value.ownBlock] using hk
        exact own_type hb hr.own
    · subst e
      subst hk
      obtain ⟨n, D, ho, _⟩ := (show IMap Try.prog 3 3 w k f from hr.place)
      obtain ⟨es, clock, he, _⟩ := ho
      unfold Blk at hb; rw [hb] at he; cases he
  · subst e; exact own_type hb h.row
theorem edge_ok (p B C : Nat) (G : GD) (w : World) (h : GO w p B C G) (k : Nat) (hk : k < G.E.length) (x y z : Int) (hx : (eAt G (k : Int)).1 = x) (hy : (eAt G (k : Int)).2.1 = y) (hz : (eAt G (k : Int)).2.2 = z) :
    Calls Try.prog 23 #[.pointer (some ⟨p, 0, none⟩), .int .i64 (k : Int)] w fun e w' => e = .returned (.tuple #[.agg #[.int .i64 x, .int .i64 y, .int .i64 z], .bool true]) ∧ Mod (fun _ => False) w w' := by
  refine (edge_any p B C w G h (k : Int)).mono ?_
  rintro e w' ⟨he, hm⟩
  have hc : 0 ≤ (k : Int) ∧ (k : Int) < (G.E.length : Int) := by omega
  rw [if_pos hc, decide_eq_true hc, hx, hy, hz] at he
  exact ⟨he, hm⟩
theorem edge_out (p B C : Nat) (G : GD) (w : World) (h : GO w p B C G) (v : Int) (hv : ¬ (0 ≤ v ∧ v < (G.E.length : Int))) :
    Calls Try.prog 23 #[.pointer (some ⟨p, 0, none⟩), .int .i64 v] w fun e w' => e = .returned (.tuple #[.agg #[.int .i64 0, .int .i64 0, .int .i64 0], .bool false]) ∧ Mod (fun _ => False) w w' := by
  refine (edge_any p B C w G h v).mono ?_
  rintro e w' ⟨he, hm⟩
  rw [if_neg hv, decide_eq_false hv] at he
  exact ⟨he, hm⟩
theorem node_ok (p B C : Nat) (G : GD) (w : World) (h : GO w p B C G) (v : Int) (hv : 0 ≤ v ∧ v < (G.N.length : Int)) (x y : Int) (hx : (nAt G v).1 = x) (hy : (nAt G v).2 = y) :
    Calls Try.prog 56 #[.pointer (some ⟨p, 0, none⟩), .int .i64 v] w fun e w' => e = .returned (.tuple #[.agg #[.int .i64 x, .int .i64 y], .bool true]) ∧ Mod (fun _ => False) w w' := by
  refine (node_any p B C w G h v).mono ?_
  rintro e w' ⟨he, hm⟩
  rw [if_pos hv, decide_eq_true hv, hx, hy] at he
  exact ⟨he, hm⟩
theorem node_out (p B C : Nat) (G : GD) (w : World) (h : GO w p B C G) (v : Int) (hv : ¬ (0 ≤ v ∧ v < (G.N.length : Int))) :
    Calls Try.prog 56 #[.pointer (some ⟨p, 0, none⟩), .int .i64 v] w fun e w' => e = .returned (.tuple #[.agg #[.int .i64 0, .int .i64 0], .bool false]) ∧ Mod (fun _ => False) w w' := by
  refine (node_any p B C w G h v).mono ?_
  rintro e w' ⟨he, hm⟩
  rw [if_neg hv, decide_eq_false hv] at he
  exact ⟨he, hm⟩
/-- The edges that come to a node, as a row. -/
theorem in_at (p B C : Nat) (G : GD) (w : World) (h : GO w p B C G) (v : Int) (hv : 0 ≤ v ∧ v < (G.N.length : Int)) :
    Calls Try.prog 26 #[.pointer (some ⟨p, 0, none⟩), .int .i64 v] w fun e w' => ∃ x, e = .returned x ∧ IRow (idx (G.E.map (·.2.1)) v) x w' ∧ Mod (fun _ => False) w w' := by
  refine (in_any p B C w G h v).mono ?_
  rintro e w' ⟨a, c, he, ho, hm⟩
  rw [if_pos hv] at he ho
  rw [if_pos hv] at ho
  exact ⟨_, he, ⟨a, c, rfl, Rd.ofOwn ho⟩, hm⟩
theorem to_begins (G : GD) (hm : May G) (v : Int) (cl : List Bool) : Begins (webTo G hm v cl) (idx (G.E.map (·.2.1)) v) := by
  refine ⟨fun r hr => ?_, fun e hs he => ?_⟩
  · unfold idx at hr
    obtain ⟨e, h1, h2⟩ := List.mem_map.1 hr
    obtain ⟨h3, h4⟩ := List.mem_filter.1 h1
    have he : e < G.E.length := by simpa using h3
    refine ⟨e, h2.symm, he, ?_⟩
    show (eAt G (e : Int)).2.1 = v
    rw [← eAt_map2 G e he]; simpa using h4
  · unfold idx
    replace he : e < G.E.length := he
    replace hs : (eAt G (e : Int)).2.1 = v := hs
    refine List.mem_map.2 ⟨e, List.mem_filter.2 ⟨by simpa using he, ?_⟩, rfl⟩
    have := eAt_map2 G e he
    rw [this]
    simpa using hs
theorem from_begins (G : GD) (hm : May G) (a : Nat) (ha : a < G.E.length) (cl : List Bool) : Begins (webFrom G hm (a : Int) cl) [(a : Int)] :=
  ⟨fun r hr => ⟨a, by simpa using hr, ha, rfl⟩, fun e hs _ => by have : (e : Int) = (a : Int) := hs; simp [this]⟩
theorem mem_prv {G : GD} {e x : Nat} (h : turnB G (x : Int) (e : Int) = true) : (x : Int) ∈ prvR G (e : Int) := by
  unfold prvR
  exact List.mem_map.2 ⟨x, List.mem_filter.2 ⟨List.mem_range.2 (by have := (turnB_in h).1; omega), h⟩, rfl⟩
theorem mem_nxt {G : GD} {e x : Nat} (h : turnB G (e : Int) (x : Int) = true) : (x : Int) ∈ nxtR G (e : Int) := by
  unfold nxtR
  exact List.mem_map.2 ⟨x, List.mem_filter.2 ⟨List.mem_range.2 (by have := (turnB_in h).2; omega), h⟩, rfl⟩
theorem prvR_at (G : GD) (e : Int) (i : Nat) (h : i < (prvR G e).length) : ∃ k : Nat, (prvR G e)[i] = (k : Int) ∧ k < G.E.length ∧ turnB G (k : Int) e = true := by
  have hm : (prvR G e)[i] ∈ prvR G e := List.getElem_mem h
  unfold prvR at hm
  obtain ⟨k, hk, he⟩ := List.mem_map.1 hm
  obtain ⟨h1, h2⟩ := List.mem_filter.1 hk
  exact ⟨k, he.symm, List.mem_range.1 h1, h2⟩
theorem Rd.ofBlk1 {w : World} {b : Nat} {T : TypeId} {x : Value} (h : Blk w b T [x]) : Rd w 1 (.slice (some ⟨b, 0, none⟩) 1 1) 1 [x] := by
  refine ⟨rfl, some ⟨b, 0, none⟩, 1, rfl, Nat.le_refl _, by decide, fun h => (by cases h), fun ad had => ?_⟩
  cases had
  refine ⟨fun _ => rfl, fun j u hj => ?_⟩
  rw [Addr.add_lit, Nat.zero_add]
  exact h.cell j hj
theorem begin_to (G : GD) (hm : May G) (v : Int) (cl : List Bool) (w : World) (a : Option Addr) (c : Nat) (hr : Rd w 1 (.slice a (idx (G.E.map (·.2.1)) v).length c) (idx (G.E.map (·.2.1)) v).length ((idx (G.E.map (·.2.1)) v).map (Value.int .i64))) :
    Calls Try.prog 53 #[.int .i64 (G.E.length : Int), .slice a (idx (G.E.map (·.2.1)) v).length c] w (BegP (webTo G hm v cl) w) := by
  have hes : G.E.length ≤ 512 := hm.1.2.1
  have hl : (idx (G.E.map (·.2.1)) v).length ≤ 100000 := by unfold idx; rw [List.length_map]; exact Nat.le_trans (List.length_filter_le _ _) (by simp; omega)
  have hx : (webTo G hm v cl).m = G.E.length := rfl
  have h := begin_any (webTo G hm v cl) (by rw [hx]; omega) w a _ c _ rfl hl hr (to_begins G hm v cl)
  rw [hx] at h
  exact h
theorem begin_from (G : GD) (hm : May G) (k : Nat) (hk : k < G.E.length) (cl : List Bool) (w : World) (a : Option Addr) (c : Nat) (hr : Rd w 1 (.slice a 1 c) 1 [.int .i64 (k : Int)]) :
    Calls Try.prog 53 #[.int .i64 (G.E.length : Int), .slice a 1 c] w (BegP (webFrom G hm (k : Int) cl) w) := by
  have hes : G.E.length ≤ 512 := hm.1.2.1
  have hx : (webFrom G hm (k : Int) cl).m = G.E.length := rfl
  have h := begin_any (webFrom G hm (k : Int) cl) (by rw [hx]; omega) w a 1 c [(k : Int)] rfl (by decide) hr (from_begins G hm k hk cl)
  rw [hx] at h
  exact h
def VarV (B0 : Nat) : Value → World → Prop := fun v W => ∃ b, v = .pointer (some ⟨b, 0, none⟩) ∧ Blk W b 95 [.pointer none] ∧ B0 ≤ b
theorem VarV.st {B0 : Nat} : ∀ v w w', VarV B0 v w → Mod (fun _ => False) w w' → VarV B0 v w' := fun _ _ _ ⟨b, h1, h2, h3⟩ m => ⟨b, h1, h2.keep m (fun e => e), h3⟩
end Go.Proofs.Ytbjdjafkpldbnaa
