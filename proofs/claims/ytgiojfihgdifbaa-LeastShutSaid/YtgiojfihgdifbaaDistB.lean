/- How far it is, by relaxing all arcs till nothing changes, as plain lists. -/
import Derived.Test.YtgiojfihgdifbaaKDist
namespace Go.Proofs.Ytgiojfihgdifbaa
open Go.RowKit Mile
def sumf (f : Int → Nat) : List Int → Nat
  | [] => 0
  | x :: d => f x + sumf f d
theorem sumf_set (f : Int → Nat) : ∀ (d : List Int) (i : Nat) (v : Int), i < d.length → sumf f (d.set i v) + f (dAt d i) = sumf f d + f v
  | [], i, v, h => by simp at h
  | x :: d, 0, v, h => by simp [sumf, dAt]; omega
  | x :: d, i + 1, v, h => by
    have := sumf_set f d i v (by simpa using h)
    have e : dAt (x :: d) (i + 1) = dAt d i := by simp [dAt]
    rw [e, List.set_cons_succ]
    simp only [sumf]; omega
def potF (x : Int) : Nat := if x < 0 then 40000000 else x.toNat
def cntF1 (x : Int) : Nat := if x < 0 then 0 else 1
def pot (d : List Int) : Nat := sumf potF d
def cntD (d : List Int) : Nat := sumf cntF1 d
theorem cntD_le : ∀ d : List Int, cntD d ≤ d.length
  | [] => Nat.le_refl _
  | x :: d => by
    have := cntD_le d; unfold cntD at this ⊢; simp only [sumf, List.length_cons]
    have h1 : cntF1 x ≤ 1 := by unfold cntF1; split <;> omega
    omega
theorem cntD_lt : ∀ (d : List Int) (i : Nat), i < d.length → dAt d i < 0 → cntD d + 1 ≤ d.length
  | [], i, h, _ => by simp at h
  | x :: d, 0, _, hx => by
    have hx : x < 0 := by simpa [dAt] using hx
    have h1 : cntF1 x = 0 := by unfold cntF1; rw [if_pos hx]
    have := cntD_le d; unfold cntD at this ⊢; simp only [sumf, List.length_cons]; omega
  | x :: d, i + 1, h, hx => by
    have := cntD_lt d i (by simpa using h) (by simpa [dAt] using hx)
    unfold cntD at this ⊢; simp only [sumf, List.length_cons]
    have : cntF1 x ≤ 1 := by unfold cntF1; split <;> omega
    omega
structure BF (X : Web) (d : List Int) : Prop where
  len : d.length = X.m
  low : ∀ e, -1 ≤ dAt d e
  st : ∀ e, X.st e → e < X.m → dAt d e = 0
  hi : ∀ e, dAt d e ≤ (cntD d : Int) * 65535
  why : ∀ e, 0 ≤ dAt d e → (X.st e ∧ dAt d e = 0) ∨ ∃ b, X.rl e b ∧ 0 ≤ dAt d b ∧ dAt d b + X.wt e b ≤ dAt d e
theorem BF.top {X : Web} {d : List Int} (h : BF X d) (hm : X.m ≤ 512) : ∀ e, dAt d e ≤ 33553920 := fun e => by
  have h1 := h.hi e
  have h2 := cntD_le d
  rw [h.len] at h2
  omega
theorem BF.relax {X : Web} {d : List Int} (h : BF X d) (hm : X.m ≤ 512) {e b : Nat} (hr : X.rl e b) (hb : 0 ≤ dAt d b) (hc : dAt d e < 0 ∨ dAt d b + X.wt e b < dAt d e) :
    BF X (d.set e (dAt d b + X.wt e b)) ∧ pot (d.set e (dAt d b + X.wt e b)) < pot d := by
  have ho := X.one e b hr
  have hel : e < d.length := by rw [h.len]; exact ho.2.2.1
  obtain ⟨n, hn⟩ : ∃ n, dAt d b + X.wt e b = n := ⟨_, rfl⟩
  rw [hn] at hc ⊢
  have hset := fun j => dAt_set d e n j hel
  have hpot := sumf_set potF d e n hel
  have hcnt := sumf_set cntF1 d e n hel
  have hbe : b ≠ e := fun x => by subst x; omega
  have hst : ¬ X.st e := fun x => by have := h.st e x ho.2.2.1; omega
  have hn0 : 0 ≤ n := by omega
  have hhb := h.hi b
  have htop := h.top hm b
  have hf1 : cntF1 n = 1 := by unfold cntF1; rw [if_neg (by omega)]
  have hce : cntD (d.set e n) = cntD d + (if dAt d e < 0 then 1 else 0) := by
    unfold cntD
    by_cases x : dAt d e < 0
    · have : cntF1 (dAt d e) = 0 := by unfold cntF1; rw [if_pos x]
      rw [if_pos x]; omega
    · have : cntF1 (dAt d e) = 1 := by unfold cntF1; rw [if_neg x]
      rw [if_neg x]; omega
  refine ⟨⟨by rw [List.length_set]; exact h.len, fun j => ?_, fun j hs hl => ?_, fun j => ?_, fun j hj => ?_⟩, ?_⟩
  · rw [hset]; split
    · omega
    · exact h.low j
  · rw [hset, if_neg (fun (x : j = e) => hst (by rw [← x]; exact hs))]; exact h.st j hs hl
  · rw [hset, hce]
    split
    · by_cases x : dAt d e < 0
      · rw [if_pos x]; push_cast; omega
      · rw [if_neg x]; have := h.hi e; have := h.low e; simp; omega
    · have := h.hi j
      split
      · push_cast; omega
      · simpa using this
  · rw [hset] at hj ⊢
    by_cases x : j = e
    · subst x
      rw [if_pos rfl]
      exact .inr ⟨b, hr, by rw [hset, if_neg hbe]; exact hb, by rw [hset, if_neg hbe]; omega⟩
    · rw [if_neg x] at hj ⊢
      rcases h.why j hj with h1 | ⟨c, h1, h2, h3⟩
      · exact .inl h1
      · refine .inr ⟨c, h1, ?_, ?_⟩
        · rw [hset]; split
          · exact hn0
          · exact h2
        · rw [hset]; split
          · rename_i y; subst y; omega
          · exact h3
  · unfold pot
    have p1 : potF n = n.toNat := by unfold potF; rw [if_neg (by omega)]
    by_cases x : dAt d e < 0
    · have p2 : potF (dAt d e) = 40000000 := by unfold potF; rw [if_pos x]
      omega
    · have p2 : potF (dAt d e) = (dAt d e).toNat := by unfold potF; rw [if_neg x]
      omega
theorem BF.done {X : Web} {d : List Int} (h : BF X d) (hs : ∀ e b, X.rl e b → 0 ≤ dAt d b → 0 ≤ dAt d e ∧ dAt d e ≤ dAt d b + X.wt e b) : Fix X d :=
  ⟨h.len, h.low, h.st, fun e he => (h.why e he).imp id (fun ⟨b, h1, h2, h3⟩ => ⟨b, h1, h2, by have := (hs e b h1 h2).2; omega⟩), hs⟩
/-- Where it begins: nothing; all else: none yet. -/
def inL (s : Nat → Bool) (m k : Nat) : List Int := (List.range k).map (fun i => if s i then 0 else -1) ++ List.replicate (m - k) 0
theorem inL_len (s : Nat → Bool) (m k : Nat) (h : k ≤ m) : (inL s m k).length = m := by simp [inL]; omega
theorem inL_set (s : Nat → Bool) (m k : Nat) (h : k < m) : (inL s m k).set k (if s k then 0 else -1) = inL s m (k + 1) := by
  unfold inL
  rw [List.set_append_right _ _ (by simp)]
  obtain ⟨j, hj⟩ : ∃ j, m - k = j + 1 := ⟨m - k - 1, by omega⟩
  rw [hj, show m - (k + 1) = j by omega, List.replicate_succ, List.length_map, List.length_range, Nat.sub_self, List.set_cons_zero, List.range_succ, List.map_append, List.append_assoc]
  rfl
theorem inL_at (s : Nat → Bool) (m e : Nat) (h : e < m) : dAt (inL s m m) e = if s e then 0 else -1 := by
  have hl := inL_len s m m (Nat.le_refl _)
  rw [dAt_eq _ _ (by omega)]
  unfold inL
  simp
theorem BF.begin (X : Web) (s : Nat → Bool) (hs : ∀ e, X.st e ↔ s e = true) : BF X (inL s X.m X.m) := by
  have hl := inL_len s X.m X.m (Nat.le_refl _)
  have hat : ∀ e, dAt (inL s X.m X.m) e = 0 ∧ s e = true ∧ e < X.m ∨ dAt (inL s X.m X.m) e = -1 := by
    intro e
    by_cases he : e < X.m
    · rw [inL_at s X.m e he]
      split
      · rename_i h; exact .inl ⟨rfl, h, he⟩
      · exact .inr rfl
    · exact .inr (dAt_out _ _ (by omega))
  refine ⟨hl, fun e => by rcases hat e with h | h <;> omega, fun e h1 h2 => ?_, fun e => by rcases hat e with h | h <;> omega, fun e he => ?_⟩
  · rw [inL_at s X.m e h2, if_pos ((hs e).1 h1)]
  · rcases hat e with h | h
    · exact .inl ⟨(hs e).2 h.2.1, h.1⟩
    · omega
/-- A row of numbers, read off memory. -/
def rowW (rb m : Nat) (W : World) : List Int := match W.heap[rb]? with
  | some (.cells cur _ _) => (cur.toList.take m).map (fun v => match v with | .int _ x => x | _ => 0)
  | _ => []
theorem rowW_eq {W : World} {B rb m c : Nat} {d : List Int} (h : W.ownsRow B 3 1 (.slice (some ⟨rb, 0, none⟩) m c) m (d.map (Value.int .i64))) : rowW rb m W = d := by
  rcases h.2 with ⟨e, _⟩ | ⟨g, cap, cur, he, hb, hg, hnc, hcm, hcs, htake⟩
  · cases e
  · cases he
    unfold rowW
    rw [hg]
    simp only []
    rw [Nat.mul_one] at htake
    rw [htake, List.map_map]
    exact List.map_id' _
theorem turnB_in1 {G : GD} {a b : Int} (h : turnB G a b = true) : (0 ≤ a ∧ a < (G.E.length : Int)) ∧ (0 ≤ b ∧ b < (G.E.length : Int)) := ⟨(of_decide_eq_true h).1, (of_decide_eq_true h).2.1⟩
/-- The arcs of a graph. -/
theorem arcs_mem {G : GD} {a b : Nat} (h : turnB G (a : Int) (b : Int) = true) : ((a : Int), (b : Int), (eAt G (b : Int)).2.2, (-1 : Int)) ∈ arcsR G := by
  have h1 := turnB_in1 h
  unfold arcsR
  refine List.mem_flatMap.2 ⟨a, List.mem_range.2 (by omega), ?_⟩
  unfold arcsOf
  refine List.mem_map.2 ⟨(b : Int), ?_, rfl⟩
  unfold nxtR
  exact List.mem_map.2 ⟨b, List.mem_filter.2 ⟨List.mem_range.2 (by omega), h⟩, rfl⟩
theorem arcs_at {G : GD} {i : Nat} (h : i < (arcsR G).length) : ∃ a b : Nat, (arcsR G)[i] = ((a : Int), (b : Int), (eAt G (b : Int)).2.2, (-1 : Int)) ∧ a < G.E.length ∧ b < G.E.length ∧ turnB G (a : Int) (b : Int) = true := by
  have hm : (arcsR G)[i] ∈ arcsR G := List.getElem_mem h
  unfold arcsR at hm
  obtain ⟨a, ha, hm⟩ := List.mem_flatMap.1 hm
  unfold arcsOf at hm
  obtain ⟨b, hb, he⟩ := List.mem_map.1 hm
  unfold nxtR at hb
  obtain ⟨c, hc, hbc⟩ := List.mem_map.1 hb
  obtain ⟨h1, h2⟩ := List.mem_filter.1 hc
  subst hbc
  exact ⟨a, c, he.symm, List.mem_range.1 ha, List.mem_range.1 h1, h2⟩
end Go.Proofs.Ytgiojfihgdifbaa
