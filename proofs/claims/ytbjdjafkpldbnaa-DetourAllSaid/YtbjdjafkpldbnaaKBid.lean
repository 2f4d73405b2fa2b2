/- How far it is, by relaxing all arcs till nothing changes, as plain lists. -/
import Derived.Test.YtbjdjafkpldbnaaKDist
namespace Go.Proofs.Ytbjdjafkpldbnaa
open Go.RowKit Mile
def sumf (f : Int → Nat) : List Int → Nat
  | [] => 0
  | x :: d => f x + sumf f d
theorem sumf_set (f : Int → Nat) : ∀ (d : List Int) (i : Nat) (v : Int), i < d.length → sumf f (d.set i v) + f (dAt d i) = sumf f d + f v
  | [], i, v, h => by simp at h
  | x :: d, 0, v, h => by simp [sumf, dAt]; omega
  | x :: d, i + 1, v, h => by
    have := sumf_set f d i v (by simpa using h)
    have e : dAt (x :: d) (i + 1) = dAt d i := by simp [dAt]
    rw [e, List.set_cons_succ]
    simp only [sumf]; omega
def potF (x : Int) : Nat := if x < 0 then 40000000 else x.toNat
def cntF1 (x : Int) : Nat := if x < 0 then 0 else 1
def pot (d : List Int) : Nat := sumf potF d
def cntD (d : List Int) : Nat := sumf cntF1 d
theorem cntD_le : ∀ d : List Int, cntD d ≤ d.length
  | [] => Nat.le_refl _
  | x :: d => by
    have := cntD_le d; unfold cntD at this ⊢; simp only [sumf, List.length_cons]
    have h1 : cntF1 x ≤ 1 := by unfold cntF1; split <;> omega
    omega
theorem cntD_lt : ∀ (d : List Int) (i : Nat), i < d.length → dAt d i < 0 → cntD d + 1 ≤ d.length
  | [], i, h, _ => by simp at h
  | x :: d, 0, _, hx => by
    have hx : x < 0 := by simpa [dAt] using hx
    have h1 : cntF1 x = 0 := by unfold cntF1; rw [if_pos hx]
    have := cntD_le d; unfold cntD at this ⊢; simp only [sumf, List.length_cons]; omega
  | x :: d, i + 1, h, hx => by
    have := cntD_lt d i (by simpa using h) (by simpa [dAt] using hx)
    unfold cntD at this ⊢; simp only [sumf, List.length_cons]
    have : cntF1 x ≤ 1 := by unfold cntF1; split <;> omega
    omega
structure BF (X : Web) (d : List Int) : Prop where
  len : d.length = X.m
  low : ∀ e, -1 ≤ dAt d e
  st : ∀ e, X.st e → e < X.m → dAt d e = 0
  hi : ∀ e, dAt d e ≤ (cntD d : Int) * 65535
  why : ∀ e, 0 ≤ dAt d e → (X.st e ∧ dAt d e = 0) ∨ ∃ b, X.rl e b ∧ 0 ≤ dAt d b ∧ dAt d b + X.wt e b ≤ dAt d e
theorem BF.top {X : Web} {d : List Int} (h : BF X d) (hm : X.m ≤ 512) : ∀ e, dAt d e ≤ 33553920 := fun e => by
  have h1 := h.hi e
  have h2 := cntD_le d
  rw [h.len] at h2
  omega
theorem BF.relax {X : Web} {d : List Int} (h : BF X d) (hm : X.m ≤ 512) {e b : Nat} (hr : X.rl e b) (hb : 0 ≤ dAt d b) (hc : dAt d e < 0 ∨ dAt d b + X.wt e b < dAt d e) :
    BF X (d.set e (dAt d b + X.wt e b)) ∧ pot (d.set e (dAt d b + X.wt e b)) < pot d := by
  have ho := X.one e b hr
  have hel : e < d.length := by rw [h.len]; exact ho.2.2.1
  obtain ⟨n, hn⟩ : ∃ n, dAt d b + X.wt e b = n := ⟨_, rfl⟩
  rw [hn] at hc ⊢
  have hset := fun j => dAt_set d e n j hel
  have hpot := sumf_set potF d e n hel
  have hcnt := sumf_set cntF1 d e n hel
  have hbe : b ≠ e := fun x => by subst x; omega
  have hst : ¬ X.st e := fun x => by have := h.st e x ho.2.2.1; omega
  have hn0 : 0 ≤ n := by omega
  have hhb := h.hi b
  have htop := h.top hm b
  have hf1 : cntF1 n = 1 := by unfold cntF1; rw [if_neg (by omega)]
  have hce : cntD (d.set e n) = cntD d + (if dAt d e < 0 then 1 else 0) := by
    unfold cntD
    by_cases x : dAt d e < 0
    · have : cntF1 (dAt d e) = 0 := by unfold cntF1; rw [if_pos x]
      rw [if_pos x]; omega
    · have : cntF1 (dAt d e) = 1 := by unfold cntF1; rw [if_neg x]
      rw [if_neg x]; omega
  refine ⟨⟨by rw [List.length_set]; exact h.len, fun j => ?_, fun j hs hl => ?_, fun j => ?_, fun j hj => ?_⟩, ?_⟩
  · rw [hset]; split
    · omega
    · exact h.low j
  · rw [hset, if_neg (fun (x : j = e) => hst (by rw [← x]; exact hs))]; exact h.st j hs hl
  · rw [hset, hce]
    split
    · by_cases x : dAt d e < 0
      · rw [if_pos x]; push_cast; omega
      · rw [if_neg x]; have := h.hi e; have := h.low e; simp; omega
    · have := h.hi j
      split
      · push_cast; omega
      · simpa using this
  · rw [hset] at hj ⊢
    by_cases x : j = e
    · subst x
      rw [if_pos rfl]
      exact .inr ⟨b, hr, by rw [hset, if_neg hbe]; exact hb, by rw [hset, if_neg hbe]; omega⟩
    · rw [if_neg x] at hj ⊢
      rcases h.why j hj with h1 | ⟨c, h1, h2, h3⟩
      · exact .inl h1
      · refine .inr ⟨c, h1, ?_, ?_⟩
        · rw [hset]; split
          · exact hn0
          · exact h2
        · rw [hset]; split
          · rename_i y; subst y; omega
          · exact h3
  · unfold pot
    have p1 : potF n = n.toNat := by unfold potF; rw [if_neg (by omega)]
    by_cases x : dAt d e < 0
    · have p2 : potF (dAt d e) = 40000000 := by unfold potF; rw [if_pos x]
      omega
    · have p2 : potF (dAt d e) = (dAt d e).toNat := by unfold potF; rw [if_neg x]
      omega
theorem BF.done {X : Web} {d : List Int} (h : BF X d) (hs : ∀ e b, X.rl e b → 0 ≤ dAt d b → 0 ≤ dAt d e ∧ dAt d e ≤ dAt d b + X.wt e b) : Fix X d :=
  ⟨h.len, h.low, h.st, fun e he => (h.why e he).imp id (fun ⟨b, h1, h2, h3⟩ => ⟨b, h1, h2, by have := (hs e b h1 h2).2; omega⟩), hs⟩
/-- Where it begins: nothing; all else: none yet. -/
def inL (s : Nat → Bool) (m k : Nat) : List Int := (List.range k).map (fun i => if s i then 0 else -1) ++ List.replicate (m - k) 0
theorem inL_len (s : Nat → Bool) (m k : Nat) (h : k ≤ m) : (inL s m k).length = m := by simp [inL]; omega
theorem inL_set (s : Nat → Bool) (m k : Nat) (h : k < m) : (inL s m k).set k (if s k then 0 else -1) = inL s m (k + 1) := by
  unfold inL
  rw [List.set_append_right _ _ (by simp)]
  obtain ⟨j, hj⟩ : ∃ j, m - k = j + 1 := ⟨m - k - 1, by omega⟩
  rw [hj, show m - (k + 1) = j by omega, List.replicate_succ, List.length_map, List.length_range, Nat.sub_self, List.set_cons_zero, List.range_succ, List.map_append, List.append_assoc]
  rfl
theorem inL_at (s : Nat → Bool) (m e : Nat) (h : e < m) : dAt (inL s m m) e = if s e then 0 else -1 := by
  have hl := inL_len s m m (Nat.le_refl _)
  rw [dAt_eq _ _ (by omega)]
  unfold inL
  simp
theorem BF.begin (X : Web) (s : Nat → Bool) (hs : ∀ e, X.st e ↔ s e = true) : BF X (inL s X.m X.m) := by
  have hl := inL_len s X.m X.m (Nat.le_refl _)
  have hat : ∀ e, dAt (inL s X.m X.m) e = 0 ∧ s e = true ∧ e < X.m ∨ dAt (inL s X.m X.m) e = -1 := by
    intro e
    by_cases he : e < X.m
    · rw [inL_at s X.m e he]
      split
      · rename_i h; exact .inl ⟨rfl, h, he⟩
      · exact .inr rfl
    · exact .inr (dAt_out _ _ (by omega))
  refine ⟨hl, fun e => by rcases hat e with h | h <;> omega, fun e h1 h2 => ?_, fun e => by rcases hat e with h | h <;> omega, fun e he => ?_⟩
  · rw [inL_at s X.m e h2, if_pos ((hs e).1 h1)]
  · rcases hat e with h | h
    · exact .inl ⟨(hs e).2 h.2.1, h.1⟩
    · omega
/-- A row of numbers, read off memory. -/
def rowW (rb m : Nat) (W : World) : List Int := match W.heap[rb]? with
  | some (.cells cur _ _) => (cur.toList.take m).map (fun v => match v with | .int _ x => x | _ => 0)
  | _ => []
theorem rowW_eq {W : World} {B rb m c : Nat} {d : List Int} (h : W.ownsRow B 3 1 (.slice (some ⟨rb, 0, none⟩) m c) m (d.map (Value.int .i64))) : rowW rb m W = d := by
  rcases h.2 with ⟨e, _⟩ | ⟨g, cap, cur, he, hb, hg, hnc, hcm, hcs, htake⟩
  · cases e
  · cases he
    unfold rowW
    rw [hg]
    simp only []
    rw [Nat.mul_one] at htake
    rw [htake, List.map_map]
    exact List.map_id' _
theorem turnB_in1 {G : GD} {a b : Int} (h : turnB G a b = true) : (0 ≤ a ∧ a < (G.E.length : Int)) ∧ (0 ≤ b ∧ b < (G.E.length : Int)) := ⟨(of_decide_eq_true h).1, (of_decide_eq_true h).2.1⟩
/-- The arcs of a graph. -/
theorem arcs_mem {G : GD} {a b : Nat} (h : turnB G (a : Int) (b : Int) = true) : ((a : Int), (b : Int), (eAt G (b : Int)).2.2, (-1 : Int)) ∈ arcsR G := by
  have h1 := turnB_in1 h
  unfold arcsR
  refine List.mem_flatMap.2 ⟨a, List.mem_range.2 (by omega), ?_⟩
  unfold arcsOf
  refine List.mem_map.2 ⟨(b : Int), ?_, rfl⟩
  unfold nxtR
  exact List.mem_map.2 ⟨b, List.mem_filter.2 ⟨List.mem_range.2 (by omega), h⟩, rfl⟩
theorem arcs_at {G : GD} {i : Nat} (h : i < (arcsR G).length) : ∃ a b : Nat, (arcsR G)[i] = ((a : Int), (b : Int), (eAt G (b : Int)).2.2, (-1 : Int)) ∧ a < G.E.length ∧ b < G.E.length ∧ turnB G (a : Int) (b : Int) = true := by
  have hm : (arcsR G)[i] ∈ arcsR G := List.getElem_mem h
  unfold arcsR at hm
  obtain ⟨a, ha, hm⟩ := List.mem_flatMap.1 hm
  unfold arcsOf at hm
  obtain ⟨b, hb, he⟩ := List.mem_map.1 hm
  unfold nxtR at hb
  obtain ⟨c, hc, hbc⟩ := List.mem_map.1 hb
  obtain ⟨h1, h2⟩ := List.mem_filter.1 hc
  subst hbc
  exact ⟨a, c, he.symm, List.mem_range.1 ha, List.mem_range.1 h1, h2⟩
end Go.Proofs.Ytbjdjafkpldbnaa
namespace Go.Proofs.Ytbjdjafkpldbnaa
open Go.RowKit Mile
/-- Distances there are. -/
theorem Fix.ex_of {X : Web} (hm : X.m ≤ 512) : ∀ (n : Nat) (d : List Int), pot d = n → BF X d → ∃ d', Fix X d' := by
  intro n
  induction n using Nat.strongRecOn with
  | ind n ih =>
    intro d hp hb
    by_cases hs : ∀ e b, X.rl e b → 0 ≤ dAt d b → 0 ≤ dAt d e ∧ dAt d e ≤ dAt d b + X.wt e b
    · exact ⟨d, hb.done hs⟩
    · obtain ⟨e, he⟩ := Classical.not_forall.1 hs
      obtain ⟨b, he⟩ := Classical.not_forall.1 he
      obtain ⟨h1, he⟩ := Classical.not_imp.1 he
      obtain ⟨h2, he⟩ := Classical.not_imp.1 he
      have h3 := hb.relax hm h1 h2 (by omega)
      exact ih _ (by rw [← hp]; exact h3.2) _ rfl h3.1
theorem Fix.ex (X : Web) (hm : X.m ≤ 512) (s : Nat → Bool) (hs : ∀ e, X.st e ↔ s e = true) : ∃ d, Fix X d := Fix.ex_of hm _ _ rfl (BF.begin X s hs)
/-- Ahead: nearer, or as near and of a less number. -/
def ahead (d : List Int) (t u : Nat) : Prop := dAt d t < dAt d u ∨ (dAt d t = dAt d u ∧ t < u)
theorem ahead.irr {d : List Int} {t : Nat} : ¬ ahead d t t := by unfold ahead; omega
/-- A search: T is settled, S known; mo: no sum above it is kept; pend: arcs that are still to be looked at. -/
structure Ord (X : Web) (d : List Int) (mo : Int) (T : List Nat) (S : List It) (pend : Nat → Nat → Prop) : Prop where
  nod : T.Nodup
  t : ∀ t ∈ T, 0 ≤ dAt d t ∧ dAt d t ≤ mo
  low : ∀ t ∈ T, ∀ u, u ∉ T → 0 ≤ dAt d u → ahead d t u
  sound : ∀ x ∈ S, ∃ e : Nat, x.1 = e ∧ e < X.m ∧ e ∉ T ∧ x.2 ≤ mo ∧ 0 ≤ dAt d e ∧ dAt d e ≤ x.2 ∧ x.2 ≤ 33553920 + 65535
  st : ∀ e, X.st e → e < X.m → 0 ≤ mo → e ∈ T ∨ ∃ k, ((e : Int), k) ∈ S ∧ k ≤ 0
  has : ∀ e b, X.rl e b → b ∈ T → ¬ pend e b → dAt d b + X.wt e b ≤ mo → e ∈ T ∨ ∃ k, ((e : Int), k) ∈ S ∧ k ≤ dAt d b + X.wt e b
theorem Fix.top {X : Web} {d : List Int} (_ : Fix X d) (_ : X.m ≤ 512) : ∀ (n : Nat) e, 0 ≤ dAt d e → (dAt d e).toNat ≤ n → True := fun _ _ _ _ => trivial
/-- Somebody on the way to a number that is not settled is known, and no farther. -/
theorem Ord.front {X : Web} {d : List Int} {mo : Int} {T : List Nat} {S : List It} (h : Ord X d mo T S (fun _ _ => False)) (hf : Fix X d) : ∀ (n : Nat) (u : Nat), dAt d u ≤ n → u ∉ T → 0 ≤ dAt d u → dAt d u ≤ mo → ∃ (x : Nat) (k : Int), ((x : Int), k) ∈ S ∧ k = dAt d x ∧ (x = u ∨ dAt d x < dAt d u) := by
  intro n
  induction n using Nat.strongRecOn with
  | ind n ih =>
    intro u hn hu h0 hmo
    have snd : ∀ (x : Nat) (k : Int), ((x : Int), k) ∈ S → dAt d x ≤ k := fun x k hx => by
      obtain ⟨e, he, _, _, _, _, h5, _⟩ := h.sound _ hx
      have : e = x := by simp only at he; omega
      rw [← this]; exact h5
    rcases hf.why u h0 with ⟨h1, h2⟩ | ⟨b, h1, h2, h3⟩
    · rcases h.st u h1 (by have := dAt_in h0; rw [hf.len] at this; exact this) (by omega) with h4 | ⟨k, h4, h5⟩
      · exact absurd h4 hu
      · exact ⟨u, k, h4, by have := snd u k h4; omega, .inl rfl⟩
    · have hw := (X.one u b h1).1
      by_cases hb : b ∈ T
      · rcases h.has u b h1 hb (fun e => e) (by omega) with h4 | ⟨k, h4, h5⟩
        · exact absurd h4 hu
        · exact ⟨u, k, h4, by have := snd u k h4; omega, .inl rfl⟩
      · obtain ⟨x, k, g1, g2, g3⟩ := ih (n - 1) (by omega) b (by omega) hb h2 (by omega)
        refine ⟨x, k, g1, g2, .inr ?_⟩
        rcases g3 with rfl | g3 <;> omega
/-- The next one. -/
theorem Ord.pop {X : Web} {d : List Int} {mo : Int} {T : List Nat} {S : List It} {x : It} (h : Ord X d mo T (x :: S) (fun _ _ => False)) (hf : Fix X d) (hs : Srt (x :: S)) (hid : Ids (x :: S)) :
    ∃ e : Nat, x.1 = e ∧ e < X.m ∧ e ∉ T ∧ 0 ≤ dAt d e ∧ x.2 = dAt d e ∧ Ord X d mo (T ++ [e]) S (fun _ b => b = e) := by
  obtain ⟨e, he, hem, heT, hemo, h0, hle, hcap⟩ := h.sound x List.mem_cons_self
  have hmin : ∀ y ∈ S, x.2 < y.2 ∨ (x.2 = y.2 ∧ x.1 < y.1) := fun y hy => (bef_iff _ _).1 ((List.pairwise_cons.1 hs).1 y hy)
  have hne : ∀ y ∈ S, y.1 ≠ (e : Int) := by
    intro y hy
    have := (List.pairwise_cons.1 (show ((x.1) :: S.map (·.1)).Pairwise (· ≠ ·) from hid)).1 y.1 (List.mem_map_of_mem hy)
    rw [← he]; exact fun e2 => this e2.symm
  have hfr := fun u => h.front hf (dAt d u).toNat u (by omega)
  have hxe : x.2 = dAt d e := by
    obtain ⟨y, k, g1, g2, g3⟩ := hfr e heT h0 (by omega)
    rcases List.mem_cons.1 g1 with g | g
    · have e1 : (y : Int) = x.1 := congrArg Prod.fst g
      have e2 : k = x.2 := congrArg Prod.snd g
      have : y = e := by omega
      subst this; omega
    · have := hmin _ g; simp only at this
      rcases g3 with rfl | g3 <;> omega
  have mv : ∀ (e' : Nat) (k : Int), ((e' : Int), k) ∈ x :: S → e' ∈ T ++ [e] ∨ ((e' : Int), k) ∈ S := by
    intro e' k hk
    rcases List.mem_cons.1 hk with h1 | h1
    · have : e' = e := by have := congrArg Prod.fst h1; simp only at this; omega
      subst this; exact .inl (by simp)
    · exact .inr h1
  refine ⟨e, he, hem, heT, h0, hxe, ⟨?_, fun t ht => ?_, fun t ht u hu hu0 => ?_, fun y hy => ?_, fun j h1 h2 h3 => ?_, fun j b hr hb hp hmo => ?_⟩⟩
  · rw [List.nodup_append]
    refine ⟨h.nod, List.nodup_cons.2 ⟨by simp, List.nodup_nil⟩, fun a ha b hb => ?_⟩
    rw [List.mem_singleton] at hb
    subst hb
    exact fun e2 => heT (e2 ▸ ha)
  · rcases List.mem_append.1 ht with h1 | h1
    · exact h.t t h1
    · rw [List.mem_singleton] at h1; subst h1; exact ⟨h0, by omega⟩
  · have huT : u ∉ T := fun e2 => hu (List.mem_append_left _ e2)
    have hue : u ≠ e := fun e2 => hu (by rw [e2]; simp)
    rcases List.mem_append.1 ht with h1 | h1
    · exact h.low t h1 u huT hu0
    · rw [List.mem_singleton] at h1
      subst h1
      by_cases hum : dAt d u ≤ mo
      · obtain ⟨y, k, g1, g2, g3⟩ := hfr u huT hu0 hum
        unfold ahead
        rcases List.mem_cons.1 g1 with g | g
        · have e1 : (y : Int) = x.1 := congrArg Prod.fst g
          have e2 : k = x.2 := congrArg Prod.snd g
          have : y = t := by omega
          subst this
          rcases g3 with g3 | g3
          · exact absurd g3.symm hue
          · exact .inl g3
        · have := hmin _ g; simp only at this
          rcases g3 with rfl | g3 <;> omega
      · unfold ahead; omega
  · obtain ⟨j, h1, h2, h3, h4⟩ := h.sound y (List.mem_cons_of_mem _ hy)
    refine ⟨j, h1, h2, fun e2 => ?_, h4⟩
    rcases List.mem_append.1 e2 with h5 | h5
    · exact h3 h5
    · rw [List.mem_singleton] at h5; subst h5; exact hne y hy h1
  · rcases h.st j h1 h2 h3 with h4 | ⟨k, h4, h5⟩
    · exact .inl (List.mem_append_left _ h4)
    · rcases mv j k h4 with h6 | h6
      · exact .inl h6
      · exact .inr ⟨k, h6, h5⟩
  · rcases List.mem_append.1 hb with hb1 | hb1
    · rcases h.has j b hr hb1 (fun e2 => e2) hmo with h4 | ⟨k, h4, h5⟩
      · exact .inl (List.mem_append_left _ h4)
      · rcases mv j k h4 with h6 | h6
        · exact .inl h6
        · exact .inr ⟨k, h6, h5⟩
    · rw [List.mem_singleton] at hb1; exact absurd hb1 hp
/-- A number is reached. -/
def reachO (mo : Int) (T : List Nat) (S : List It) (e : Nat) (k : Int) : List It := if e ∈ T ∨ mo < k then S else (pushS S e k).2
theorem Ord.reach {X : Web} {d : List Int} {mo : Int} {T : List Nat} {S : List It} {pend pend' : Nat → Nat → Prop} (h : Ord X d mo T S pend) (hf : Fix X d) (htop : ∀ e, dAt d e ≤ 33553920) (hid : Ids S) {e b : Nat} (hr : X.rl e b) (hb : b ∈ T)
    (hp : ∀ e' b', pend e' b' → pend' e' b' ∨ (e' = e ∧ b' = b)) : Ord X d mo T (reachO mo T S e (dAt d b + X.wt e b)) pend' := by
  have hm := X.one e b hr
  have hb0 := (h.t b hb).1
  have hsh := hf.shut e b hr hb0
  unfold reachO
  by_cases hc : e ∈ T ∨ mo < dAt d b + X.wt e b
  · rw [if_pos hc]
    refine ⟨h.nod, h.t, h.low, h.sound, h.st, fun e' b' hr' hb' hp' hmo => ?_⟩
    by_cases hp2 : pend e' b'
    · rcases hp e' b' hp2 with h1 | ⟨rfl, rfl⟩
      · exact absurd h1 hp'
      · exact .inl (hc.resolve_right (by omega))
    · exact h.has e' b' hr' hb' hp2 hmo
  · rw [if_neg hc]
    have hc1 : e ∉ T := fun x => hc (.inl x)
    have hc2 : dAt d b + X.wt e b ≤ mo := by have : ¬ mo < dAt d b + X.wt e b := fun x => hc (.inr x); omega
    refine ⟨h.nod, h.t, h.low, fun x hx => ?_, fun j h1 h2 h3 => ?_, fun e' b' hr' hb' hp' hmo => ?_⟩
    · rcases push_mem x hx with h1 | rfl
      · exact h.sound x h1
      · exact ⟨e, rfl, hm.2.2.1, hc1, hc2, hsh.1, hsh.2, by have := htop b; show dAt d b + X.wt e b ≤ _; omega⟩
    · rcases h.st j h1 h2 h3 with h4 | ⟨k, h4, h5⟩
      · exact .inl h4
      · obtain ⟨k', h6, h7⟩ := push_old (id := (e : Int)) (key := dAt d b + X.wt e b) hid _ _ h4
        exact .inr ⟨k', h6, by omega⟩
    · by_cases hp2 : pend e' b'
      · rcases hp e' b' hp2 with h1 | ⟨rfl, rfl⟩
        · exact absurd h1 hp'
        · exact .inr push_has
      · rcases h.has e' b' hr' hb' hp2 hmo with h1 | ⟨k, h1, h2⟩
        · exact .inl h1
        · obtain ⟨k', h3, h4⟩ := push_old (id := (e : Int)) (key := dAt d b + X.wt e b) hid _ _ h1
          exact .inr ⟨k', h3, by omega⟩
theorem Ord.said {X : Web} {d : List Int} {mo : Int} {T : List Nat} {S : List It} {pend pend' : Nat → Nat → Prop} (h : Ord X d mo T S pend) (hp : ∀ e b, X.rl e b → pend e b → pend' e b) : Ord X d mo T S pend' :=
  ⟨h.nod, h.t, h.low, h.sound, h.st, fun e b hr hb hn => h.has e b hr hb (fun x => hn (hp e b hr x))⟩
/-- Where it begins. -/
theorem Ord.begin {X : Web} {d : List Int} {mo : Int} (hf : Fix X d) {fr : Nat} (hfr : fr < X.m) (hst : ∀ e, X.st e ↔ e = fr) : Ord X d mo [] (if mo < 0 then [] else [((fr : Int), 0)]) (fun _ _ => False) := by
  have h0 := hf.st fr ((hst fr).2 rfl) hfr
  refine ⟨List.nodup_nil, by simp, by simp, fun x hx => ?_, fun e h1 h2 h3 => ?_, by simp⟩
  · split at hx
    · cases hx
    · rw [List.mem_singleton] at hx; subst hx
      exact ⟨fr, rfl, hfr, by simp, by show (0 : Int) ≤ mo; omega, by omega, by show dAt d fr ≤ 0; omega, by show (0 : Int) ≤ _; omega⟩
  · right
    rw [(hst e).1 h1, if_neg (by omega)]
    exact ⟨0, by simp, Int.le_refl _⟩
/-- Nobody is left whom one could come to. -/
theorem Ord.done {X : Web} {d : List Int} {mo : Int} {T : List Nat} (h : Ord X d mo T [] (fun _ _ => False)) (hf : Fix X d) (u : Nat) (h0 : 0 ≤ dAt d u) (hm : dAt d u ≤ mo) : u ∈ T := by
  refine Classical.byContradiction fun hu => ?_
  obtain ⟨x, k, g, _⟩ := h.front hf (dAt d u).toNat u (by omega) hu h0 hm
  cases g
/-- How many are ahead of a number. -/
def rankB (d : List Int) (e u : Nat) : Bool := decide (0 ≤ dAt d u) && (decide (dAt d u < dAt d e) || (decide (dAt d u = dAt d e) && decide (u < e)))
def rankN (d : List Int) (e : Nat) : Nat := ((List.range d.length).filter (rankB d e)).length
theorem rankB_iff {d : List Int} {e u : Nat} : rankB d e u = true ↔ 0 ≤ dAt d u ∧ ahead d u e := by
  unfold rankB ahead; simp
theorem nodupN_le : ∀ (l r : List Nat), l.Nodup → l ⊆ r → l.length ≤ r.length
  | [], _, _, _ => by simp
  | x :: l, r, h, hs => by
    have hx : x ∈ r := hs List.mem_cons_self
    have h2 := List.nodup_cons.1 h
    have := nodupN_le l (r.erase x) h2.2 (fun y hy => (List.mem_erase_of_ne (fun e => h2.1 (by rw [← e]; exact hy))).2 (hs (List.mem_cons_of_mem _ hy)))
    rw [List.length_erase_of_mem hx] at this
    have := List.length_pos_of_mem hx
    simp; omega
/-- All that are settled ahead of e are ahead of it. -/
theorem Ord.rank_ge {X : Web} {d : List Int} {mo : Int} {T : List Nat} {S : List It} {pend : Nat → Nat → Prop} (h : Ord X d mo T S pend) {e : Nat} (he : e ∉ T) (h0 : 0 ≤ dAt d e) : T.length ≤ rankN d e := by
  refine nodupN_le _ _ h.nod fun t ht => ?_
  rw [List.mem_filter]
  exact ⟨List.mem_range.2 (dAt_in (h.t t ht).1), rankB_iff.2 ⟨(h.t t ht).1, h.low t ht e he h0⟩⟩
/-- The next one has just the settled ones ahead. -/
theorem Ord.rank_eq {X : Web} {d : List Int} {mo : Int} {T : List Nat} {S : List It} {pend : Nat → Nat → Prop} {e : Nat} (h : Ord X d mo (T ++ [e]) S pend) (hl : ∀ t ∈ T, ahead d t e) : rankN d e = T.length := by
  have h0 := (h.t e (by simp)).1
  have heT : e ∉ T := fun x => by
    have := (List.nodup_append.1 h.nod).2.2 e x e (by simp)
    exact this rfl
  refine Nat.le_antisymm (nodupN_le _ _ (List.Pairwise.filter _ List.nodup_range) fun u hu => ?_) (nodupN_le _ _ (List.nodup_append.1 h.nod).1 fun t ht => ?_)
  · obtain ⟨h1, h2⟩ := List.mem_filter.1 hu
    obtain ⟨h3, h4⟩ := rankB_iff.1 h2
    refine Classical.byContradiction fun hn => ?_
    have hue : u ≠ e := fun x => by subst x; exact ahead.irr h4
    have := h.low e (by simp) u (fun x => (List.mem_append.1 x).elim hn (fun y => hue (List.mem_singleton.1 y))) h3
    unfold ahead at this h4; omega
  · rw [List.mem_filter]
    have := h.t t (List.mem_append_left _ ht)
    exact ⟨List.mem_range.2 (dAt_in this.1), rankB_iff.2 ⟨this.1, hl t ht⟩⟩
end Go.Proofs.Ytbjdjafkpldbnaa
namespace Go.Proofs.Ytbjdjafkpldbnaa
open Go.RowKit Mile
def dP (ps : List Int) (e : Nat) : Int := ps.getD e 0
theorem dP_eq (ps : List Int) (e : Nat) (h : e < ps.length) : dP ps e = ps[e] := by simp [dP, List.getD, h]
theorem dP_set (ps : List Int) (i : Nat) (x : Int) (j : Nat) (h : i < ps.length) : dP (ps.set i x) j = if j = i then x else dP ps j := by
  unfold dP
  rw [List.getD, List.getD, List.getElem?_set]
  by_cases e : i = j
  · subst e; simp [h]
  · rw [if_neg e, if_neg (Ne.symm e)]
def lessB (ps : List Int) (wo mo : Int) (e : Nat) (k : Int) : Bool := (decide (dP ps e = 0) || decide (k < dP ps e - 1)) && (decide (k ≤ mo) && decide ((e : Int) ≠ wo))
/-- No distance is great. -/
theorem Fix.top' {X : Web} {d : List Int} (h : Fix X d) (hm : X.m ≤ 512) (s : Nat → Bool) (hs : ∀ e, X.st e ↔ s e = true) : ∀ e, dAt d e ≤ 33553920 := by
  have key : ∀ (n : Nat) (d0 : List Int), pot d0 = n → BF X d0 → ∃ d', Fix X d' ∧ ∀ e, dAt d' e ≤ 33553920 := by
    intro n
    induction n using Nat.strongRecOn with
    | ind n ih =>
      intro d0 hp hb
      by_cases hs : ∀ e b, X.rl e b → 0 ≤ dAt d0 b → 0 ≤ dAt d0 e ∧ dAt d0 e ≤ dAt d0 b + X.wt e b
      · exact ⟨d0, hb.done hs, hb.top hm⟩
      · obtain ⟨e, he⟩ := Classical.not_forall.1 hs
        obtain ⟨b, he⟩ := Classical.not_forall.1 he
        obtain ⟨h1, he⟩ := Classical.not_imp.1 he
        obtain ⟨h2, he⟩ := Classical.not_imp.1 he
        have h3 := hb.relax hm h1 h2 (by omega)
        exact ih _ (by rw [← hp]; exact h3.2) _ rfl h3.1
  obtain ⟨d', h1, h2⟩ := key _ _ rfl (BF.begin X s hs)
  rw [h.uniq h1]; exact h2
/-- What stands in a heap behind a push. -/
theorem push_iff {S : List It} (hid : Ids S) {id key x k : Int} : (x, k) ∈ (pushS S id key).2 ↔ (x ≠ id ∧ (x, k) ∈ S) ∨ (x = id ∧ ((k = key ∧ ∀ k', (id, k') ∈ S → key < k') ∨ ((id, k) ∈ S ∧ k ≤ key))) := by
  unfold pushS
  cases hk : keyS S id with
  | none =>
    have hn := keyS_none_inv hk
    simp only []
    rw [(insS_perm S (id, key)).mem_iff, List.mem_cons]
    constructor
    · rintro (h | h)
      · obtain ⟨rfl, rfl⟩ := Prod.mk.inj h
        exact .inr ⟨rfl, .inl ⟨rfl, fun k' h' => absurd rfl (hn _ h')⟩⟩
      · exact .inl ⟨fun e => hn _ h e, h⟩
    · rintro (⟨_, h⟩ | ⟨rfl, ⟨rfl, _⟩ | ⟨h, _⟩⟩)
      · exact .inr h
      · exact .inl rfl
      · exact absurd rfl (hn _ h)
  | some k0 =>
    have h0 := keyS_inv hk
    have huniq : ∀ k', (id, k') ∈ S → k' = k0 := fun k' h' => by
      have := keyS_some hid h' rfl
      rw [hk] at this; exact (Option.some.inj this).symm
    simp only []
    split
    · rename_i hle
      constructor
      · intro h
        by_cases e : x = id
        · subst e
          exact .inr ⟨rfl, .inr ⟨h, by rw [huniq k h]; exact hle⟩⟩
        · exact .inl ⟨e, h⟩
      · rintro (⟨_, h⟩ | ⟨rfl, ⟨rfl, h⟩ | ⟨h, _⟩⟩)
        · exact h
        · have := h k0 h0; omega
        · exact h
    · rename_i hle
      rw [(insS_perm _ (id, key)).mem_iff, List.mem_cons, mem_dropS]
      constructor
      · rintro (h | ⟨h, h2⟩)
        · obtain ⟨rfl, rfl⟩ := Prod.mk.inj h
          exact .inr ⟨rfl, .inl ⟨rfl, fun k' h' => by rw [huniq k' h']; omega⟩⟩
        · exact .inl ⟨h2, h⟩
      · rintro (⟨h2, h⟩ | ⟨rfl, ⟨rfl, _⟩ | ⟨h, h2⟩⟩)
        · exact .inr ⟨h, h2⟩
        · exact .inl rfl
        · have := huniq k h; omega
/-- What a front's row holds: one more than what a number was settled, or is known, at. -/
structure PIn (d : List Int) (T : List Nat) (S : List It) (ps : List Int) (n : Nat) : Prop where
  len : ps.length = n
  set : ∀ e ∈ T, dP ps e = dAt d e + 1
  kn : ∀ (e : Nat) k, e ∉ T → ((e : Int), k) ∈ S → dP ps e = k + 1
  no : ∀ e : Nat, e ∉ T → (∀ k, ((e : Int), k) ∉ S) → dP ps e = 0
theorem PIn.bound {X : Web} {d : List Int} {mo : Int} {T : List Nat} {S : List It} {ps : List Int} {n : Nat} {pend : Nat → Nat → Prop} (h : PIn d T S ps n) (ho : Ord X d mo T S pend) (htop : ∀ e, dAt d e ≤ 33553920) (e : Nat) : 0 ≤ dP ps e ∧ dP ps e ≤ 1000000001 := by
  by_cases h1 : e ∈ T
  · rw [h.set e h1]; have := (ho.t e h1).1; have := htop e; omega
  · by_cases h2 : ∃ k, ((e : Int), k) ∈ S
    · obtain ⟨k, h2⟩ := h2
      rw [h.kn e k h1 h2]
      obtain ⟨e', _, _, _, _, h3, h4, h5⟩ := ho.sound _ h2
      simp only at h4 h5; omega
    · rw [h.no e h1 (fun k hk => h2 ⟨k, hk⟩)]; omega
/-- An arc is looked at. -/
theorem reach_step {X : Web} {d : List Int} {mo wo : Int} {T : List Nat} {S : List It} {ps : List Int} {n : Nat} {pend pend' : Nat → Nat → Prop} (hx : X.m = n) (h : PIn d T S ps n) (ho : Ord X d mo T S pend) (hf : Fix X d) (htop : ∀ e, dAt d e ≤ 33553920) (hid : Ids S) {e b : Nat} (hr : X.rl e b) (hwo : (e : Int) ≠ wo) (hb : b ∈ T)
    (hp : ∀ e' b', pend e' b' → pend' e' b' ∨ (e' = e ∧ b' = b)) (k : Int) (hk : k = dAt d b + X.wt e b) :
    Ord X d mo T (if lessB ps wo mo e k then (pushS S e k).2 else S) pend' ∧ PIn d T (if lessB ps wo mo e k then (pushS S e k).2 else S) (if lessB ps wo mo e k then ps.set e (k + 1) else ps) n := by
  have hm := X.one e b hr
  have he : e < ps.length := by rw [h.len, ← hx]; exact hm.2.2.1
  have hb0 := (ho.t b hb).1
  have hsh := hf.shut e b hr hb0
  rw [← hk] at hsh
  have hk0 : 0 ≤ k := by omega
  have hor := ho.reach hf htop hid hr hb hp
  rw [← hk] at hor
  have hless : lessB ps wo mo e k = ((decide (dP ps e = 0) || decide (k < dP ps e - 1)) && decide (k ≤ mo)) := by
    unfold lessB; rw [decide_eq_true hwo, Bool.and_true]
  unfold reachO at hor
  by_cases hT : e ∈ T
  · have h1 := h.set e hT
    have hl : lessB ps wo mo e k = false := by
      rw [hless, decide_eq_false (by omega), decide_eq_false (by omega)]; rfl
    rw [hl]
    rw [if_pos (.inl hT)] at hor
    exact ⟨hor, h⟩
  · by_cases hmo : mo < k
    · have hl : lessB ps wo mo e k = false := by rw [hless, decide_eq_false (by omega : ¬ k ≤ mo), Bool.and_false]
      rw [hl]
      rw [if_pos (.inr hmo)] at hor
      exact ⟨hor, h⟩
    · rw [if_neg (fun x => x.elim hT hmo)] at hor
      have hless2 : lessB ps wo mo e k = (decide (dP ps e = 0) || decide (k < dP ps e - 1)) := by rw [hless, decide_eq_true (by omega : k ≤ mo), Bool.and_true]
      have pin : (∀ k', ((e : Int), k') ∈ S → k < k') → PIn d T (pushS S e k).2 (ps.set e (k + 1)) n := fun hlt => by
        refine ⟨by rw [List.length_set]; exact h.len, fun u hu => ?_, fun u k' hu hk' => ?_, fun u hu hno => ?_⟩
        · rw [dP_set _ _ _ _ he, if_neg (fun (x : u = e) => hT (x ▸ hu))]; exact h.set u hu
        · rw [dP_set _ _ _ _ he]
          rcases (push_iff hid).1 hk' with ⟨h1, h2⟩ | ⟨h1, ⟨h2, _⟩ | ⟨h2, h3⟩⟩
          · rw [if_neg (fun x => h1 (by rw [x]))]; exact h.kn u k' hu h2
          · have : u = e := by omega
            subst this
            rw [if_pos rfl, h2]
          · have := hlt k' h2; omega
        · rw [dP_set _ _ _ _ he]
          by_cases hue : u = e
          · subst hue
            exact absurd ((push_iff hid).2 (.inr ⟨rfl, .inl ⟨rfl, hlt⟩⟩)) (hno k)
          · rw [if_neg hue]
            exact h.no u hu (fun k' hk' => hno k' ((push_iff hid).2 (.inl ⟨by omega, hk'⟩)))
      by_cases hs : ∃ k0, ((e : Int), k0) ∈ S
      · obtain ⟨k0, hs⟩ := hs
        have h1 := h.kn e k0 hT hs
        have huniq : ∀ k', ((e : Int), k') ∈ S → k' = k0 := fun k' h' => by
          have a1 := keyS_some hid h' rfl
          have a2 := keyS_some hid hs rfl
          rw [a1] at a2; exact Option.some.inj a2
        obtain ⟨_, _, _, _, _, h5, h6, _⟩ := ho.sound _ hs
        simp only at h6
        by_cases hlt : k < k0
        · have hl : lessB ps wo mo e k = true := by rw [hless2, decide_eq_true (by omega : k < dP ps e - 1), Bool.or_true]
          rw [hl]
          exact ⟨hor, pin (fun k' h' => by rw [huniq k' h']; exact hlt)⟩
        · have hl : lessB ps wo mo e k = false := by rw [hless2, decide_eq_false (by omega), decide_eq_false (by omega)]; rfl
          rw [hl]
          have hsame : (pushS S (e : Int) k).2 = S := by
            unfold pushS
            rw [keyS_some hid hs rfl]
            simp only []
            rw [if_pos (by show k0 ≤ k; omega)]
          rw [hsame] at hor
          exact ⟨hor, h⟩
      · have h1 := h.no e hT (fun k' hk' => hs ⟨k', hk'⟩)
        have hl : lessB ps wo mo e k = true := by rw [hless2, decide_eq_true h1, Bool.true_or]
        rw [hl]
        exact ⟨hor, pin (fun k' h' => absurd ⟨k', h'⟩ hs)⟩
theorem PIn.pop {d : List Int} {T : List Nat} {S : List It} {x : It} {ps : List Int} {n : Nat} (h : PIn d T (x :: S) ps n) {e : Nat} (he : x.1 = e) (hd : x.2 = dAt d e) (heT : e ∉ T) (hid : Ids (x :: S)) : PIn d (T ++ [e]) S ps n := by
  obtain ⟨x1, x2⟩ := x
  simp only at he hd
  subst he hd
  refine ⟨h.len, fun u hu => ?_, fun u k hu hk => ?_, fun u hu hno => ?_⟩
  · rcases List.mem_append.1 hu with h1 | h1
    · exact h.set u h1
    · rw [List.mem_singleton] at h1; subst h1
      exact h.kn u _ heT List.mem_cons_self
  · exact h.kn u k (fun x => hu (List.mem_append_left _ x)) (List.mem_cons_of_mem _ hk)
  · refine h.no u (fun x => hu (List.mem_append_left _ x)) (fun k hk => ?_)
    rcases List.mem_cons.1 hk with h1 | h1
    · have : u = e := by have := congrArg Prod.fst h1; simp only at this; omega
      exact hu (by rw [this]; simp)
    · exact hno k h1
theorem PIn.begin (d : List Int) (n : Nat) : PIn d [] [] (List.replicate n 0) n :=
  ⟨by simp, by simp, by simp, fun e _ _ => by unfold dP; rw [List.getD, List.getElem?_replicate]; split <;> rfl⟩
end Go.Proofs.Ytbjdjafkpldbnaa
namespace Go.Proofs.Ytbjdjafkpldbnaa
open Go.RowKit Mile
set_option maxRecDepth 100000
/-- What stands in a side's row: the least sum met of each, -1 if it was not. -/
abbrev farP (ds : List Int) : List Int := ds.map (· + 1)
theorem dP_far (ds : List Int) (e : Nat) (h : e < ds.length) : dP (farP ds) e = dAt ds e + 1 := by
  rw [dP_eq _ _ (by simpa using h), dAt_eq _ _ h]; simp
theorem farP_set (ds : List Int) (e : Nat) (k : Int) : farP (ds.set e k) = (farP ds).set e (k + 1) := by simp [farP, List.map_set]
theorem farP_rep (m : Nat) : farP (List.replicate m (-1)) = List.replicate m 0 := by simp [farP]
/-- More than any sum. -/
def bigM : Int := 4611686018427387904
/-- A side: T are settled, the last of them at c; ds is its row, S its heap. -/
structure Sde (X : Web) (d : List Int) (T : List Nat) (ds : List Int) (S : List It) (c : Int) (pend : Nat → Nat → Prop) : Prop where
  o : Ord X d bigM T S pend
  i : PIn d T S (farP ds) X.m
  cs : ∀ t ∈ T, dAt d t ≤ c
  c0 : 0 ≤ c
  cl : c = 0 ∨ ∃ t ∈ T, dAt d t = c
section
variable {X : Web} {d : List Int} {T : List Nat} {ds : List Int} {S : List It} {c : Int} {pend : Nat → Nat → Prop}
theorem Sde.len (h : Sde X d T ds S c pend) : ds.length = X.m := by have := h.i.len; simpa [farP] using this
theorem Sde.said {pend' : Nat → Nat → Prop} (h : Sde X d T ds S c pend) (hp : ∀ e b, X.rl e b → pend e b → pend' e b) : Sde X d T ds S c pend' := ⟨h.o.said hp, h.i, h.cs, h.c0, h.cl⟩
/-- What the row says is no less than it is. -/
theorem Sde.sound (h : Sde X d T ds S c pend) {e : Nat} (he : dAt ds e ≠ -1) : 0 ≤ dAt d e ∧ dAt d e ≤ dAt ds e ∧ dAt ds e ≤ 33553920 + 65535 ∨ e ∈ T ∧ dAt ds e = dAt d e := by
  by_cases hl : e < ds.length
  · have h1 := dP_far ds e hl
    by_cases hT : e ∈ T
    · right
      have := h.i.set e hT
      exact ⟨hT, by omega⟩
    · by_cases hs : ∃ k, ((e : Int), k) ∈ S
      · obtain ⟨k, hs⟩ := hs
        have h2 := h.i.kn e k hT hs
        obtain ⟨j, hj, _, _, _, h3, h4, h5⟩ := h.o.sound _ hs
        simp only at hj h4 h5
        have : j = e := by omega
        subst this
        left
        omega
      · have := h.i.no e hT (fun k hk => hs ⟨k, hk⟩)
        omega
  · rw [dAt_out ds e (by omega)] at he; exact absurd rfl he
theorem Sde.settled (h : Sde X d T ds S c pend) {e : Nat} (he : e ∈ T) : dAt ds e = dAt d e := by
  have h0 := (h.o.t e he).1
  by_cases hl : e < ds.length
  · have h1 := dP_far ds e hl
    have h2 := h.i.set e he
    omega
  · have h2 := h.i.set e he
    have h3 : dP (farP ds) e = 0 := by unfold dP; rw [List.getD, List.getElem?_eq_none (by simp [farP]; omega)]; rfl
    omega
/-- Who was looked at from a settled one stands in the row. -/
theorem Sde.looked (h : Sde X d T ds S c (fun _ _ => False)) (hf : Fix X d) (htop : ∀ e, dAt d e ≤ 33553920) {e b : Nat} (hr : X.rl e b) (hb : b ∈ T) : dAt ds e ≠ -1 ∧ dAt ds e ≤ dAt d b + X.wt e b := by
  have h0 := (h.o.t b hb).1
  have hw := X.one e b hr
  have hb2 := htop b
  have hl : e < ds.length := by rw [h.len]; exact hw.2.2.1
  have h1 := dP_far ds e hl
  rcases h.o.has e b hr hb (fun x => x) (by unfold bigM; omega) with h2 | ⟨k, h2, h3⟩
  · have h4 := h.settled h2
    have h5 := (h.o.t e h2).1
    have h6 := hf.shut e b hr h0
    omega
  · by_cases hT : e ∈ T
    · have h4 := h.settled hT
      have h5 := (h.o.t e hT).1
      have h6 := hf.shut e b hr h0
      omega
    · have h4 := h.i.kn e k hT h2
      obtain ⟨j, hj, _, _, _, h5, h6, _⟩ := h.o.sound _ h2
      simp only at hj h6
      omega
/-- Where one begins stands in the row, at nothing. -/
theorem Sde.starts (h : Sde X d T ds S c pend) (hf : Fix X d) {e : Nat} (hs : X.st e) (he : e < X.m) : dAt ds e = 0 := by
  have h0 := hf.st e hs he
  have hl : e < ds.length := by rw [h.len]; exact he
  have h1 := dP_far ds e hl
  rcases h.o.st e hs he (by unfold bigM; omega) with h2 | ⟨k, h2, h3⟩
  · rw [h.settled h2, h0]
  · by_cases hT : e ∈ T
    · rw [h.settled hT, h0]
    · have h4 := h.i.kn e k hT h2
      obtain ⟨j, hj, _, _, _, h5, h6, _⟩ := h.o.sound _ h2
      simp only at hj h6
      have : j = e := by omega
      subst this
      omega
/-- Who is nearer than the last one is settled. -/
theorem Sde.near (h : Sde X d T ds S c pend) {e : Nat} (h0 : 0 ≤ dAt d e) (hc : dAt d e < c) : e ∈ T := Classical.byContradiction fun hn => by
  rcases h.cl with h1 | ⟨t, ht, h1⟩
  · omega
  · have h2 := h.o.low t ht e hn h0
    unfold ahead at h2
    omega
end
/-- Two webs, one the other way round, between one start and some ends: what both sides' distances are together. -/
structure Bid (A B : Web) (dA dB : List Int) (W : Nat → Int) : Prop where
  fa : Fix A dA
  fb : Fix B dB
  m : B.m = A.m
  ra : ∀ e b, A.rl e b → B.rl b e ∧ A.wt e b = W e
  rb : ∀ b e, B.rl b e → A.rl e b ∧ B.wt b e = W e
/-- The least sum of both, of all that are on a way: what it is. -/
def LeastAt (A : Web) (dA dB : List Int) (D : Int) : Prop := (∃ x, A.st x ∧ x < A.m ∧ dAt dB x = D ∧ 0 ≤ D) ∧ ∀ x, A.st x → x < A.m → 0 ≤ dAt dB x → D ≤ dAt dB x
section
variable {A B : Web} {dA dB : List Int} {W : Nat → Int}
theorem Bid.back (h : Bid A B dA dB W) {x y : Nat} (hr : A.rl y x) (h0 : 0 ≤ dAt dB y) : 0 ≤ dAt dB x ∧ dAt dB x ≤ dAt dB y + W y := by
  have h1 := h.ra y x hr
  have h2 := h.fb.shut x y h1.1 h0
  have h3 := h.rb x y h1.1
  rw [h3.2] at h2
  exact h2
/-- Whatever is on both sides is no nearer than the whole. -/
theorem Bid.no_less (h : Bid A B dA dB W) {a : Nat} (hst : ∀ x, A.st x ↔ x = a) (ha : a < A.m) : ∀ (k : Nat) (x : Nat), dAt dA x ≤ k → 0 ≤ dAt dA x → 0 ≤ dAt dB x → 0 ≤ dAt dB a ∧ dAt dB a ≤ dAt dA x + dAt dB x := by
  intro k
  induction k using Nat.strongRecOn with
  | ind k ih =>
    intro x hk h0 h1
    rcases h.fa.why x h0 with ⟨h2, h3⟩ | ⟨b, h2, h3, h4⟩
    · have := (hst x).1 h2
      subst this
      omega
    · have hw := A.one x b h2
      have hb := h.back h2 h1
      have hwt := (h.ra x b h2).2
      have := ih (k - 1) (by omega) b (by omega) h3 hb.1
      omega
/-- A way all along which both are together the whole: from a on, up to where the other side begins. -/
theorem Bid.on (h : Bid A B dA dB W) {a : Nat} (hst : ∀ x, A.st x ↔ x = a) (ha : a < A.m) (h0 : 0 ≤ dAt dB a) {P : Nat → Prop}
    (hP0 : P a) (hstep : ∀ x y, P x → A.rl y x → 0 ≤ dAt dA x → 0 ≤ dAt dB y → dAt dA x + W y + dAt dB y = dAt dB a → dAt dA y = dAt dA x + W y → P y) :
    ∃ x, P x ∧ 0 ≤ dAt dA x ∧ B.st x ∧ dAt dB x = 0 ∧ dAt dA x = dAt dB a := by
  have key : ∀ (k : Nat) (x : Nat), dAt dB x ≤ k → P x → 0 ≤ dAt dA x → 0 ≤ dAt dB x → dAt dA x + dAt dB x = dAt dB a → ∃ x, P x ∧ 0 ≤ dAt dA x ∧ B.st x ∧ dAt dB x = 0 ∧ dAt dA x = dAt dB a := by
    intro k
    induction k using Nat.strongRecOn with
    | ind k ih =>
      intro x hk hp h1 h2 h3
      rcases h.fb.why x h2 with ⟨h4, h5⟩ | ⟨y, h4, h5, h6⟩
      · exact ⟨x, hp, h1, h4, h5, by omega⟩
      · have h7 := h.rb x y h4
        have hw := B.one x y h4
        rw [h7.2] at h6 hw
        have hs := h.fa.shut y x h7.1 h1
        rw [(h.ra y x h7.1).2] at hs
        have hn := h.no_less hst ha (dAt dA y).toNat y (by omega) hs.1 h5
        have he : dAt dA y = dAt dA x + W y := by omega
        exact ih (k - 1) (by omega) y (by omega) (hstep x y hp h7.1 h1 h5 (by omega) he) hs.1 h5 (by omega)
  have hA := h.fa.st a ((hst a).2 rfl) ha
  exact key (dAt dB a).toNat a (by omega) hP0 (by omega) h0 (by omega)
/-- What the two searches keep: whoever both have come to, the way over that is known. -/
structure Mtg (A B : Web) (dA dB : List Int) (W : Nat → Int) (a : Nat) (TA TB : List Nat) (least : Int) : Prop where
  lo : ∀ D : Int, dAt dB a = D → 0 ≤ D → D ≤ least
  hi : least < 9223372036854775807 → 0 ≤ dAt dB a
  arc : ∀ x y, A.rl y x → x ∈ TA → y ∈ TB → least ≤ dAt dA x + W y + dAt dB y
  ends : ∀ x, B.st x → x < B.m → x ∈ TA → least ≤ dAt dA x
  here : a ∈ TB → least ≤ dAt dB a
/-- Who comes to the end of one side, or of all that could be less, knows it. -/
theorem Mtg.done {dsA dsB : List Int} {SA SB : List It} {TA TB : List Nat} {cA cB least : Int} (h : Bid A B dA dB W) {a : Nat} (hst : ∀ x, A.st x ↔ x = a) (ha : a < A.m) (m : Mtg A B dA dB W a TA TB least) (hA : Sde A dA TA dsA SA cA (fun _ _ => False)) (hB : Sde B dB TB dsB SB cB (fun _ _ => False))
    (hend : SA = [] ∨ SB = [] ∨ least ≤ cA + cB) (h0 : 0 ≤ dAt dB a) (htA : ∀ e, dAt dA e ≤ 33553920) (htB : ∀ e, dAt dB e ≤ 33553920) : least = dAt dB a := by
  have hlo := m.lo _ rfl h0
  refine Classical.byContradiction fun hne => ?_
  have hgt : dAt dB a < least := by omega
  have hAa := h.fa.st a ((hst a).2 rfl) ha
  rcases hend with hs | hs | hs
  · subst hs
    obtain ⟨x, _, h1, h2, h3, h4⟩ := h.on hst ha h0 (P := fun _ => True) trivial (fun _ _ _ _ _ _ _ _ => trivial)
    have hx := hA.o.done h.fa x h1 (by have := htA x; unfold bigM; omega)
    have := m.ends x h2 (by have := dAt_in (show 0 ≤ dAt dB x by omega); rw [h.fb.len] at this; exact this) hx
    omega
  · subst hs
    have hx := hB.o.done h.fb a h0 (by have := htB a; unfold bigM; omega)
    have := m.here hx
    omega
  · by_cases hcA : cA = 0
    · have hna : a ∈ TB := hB.near h0 (by omega)
      have := m.here hna
      omega
    · have haT : a ∈ TA := hA.near (by omega) (by have := hA.c0; omega)
      obtain ⟨x, hx, h1, h2, h3, h4⟩ := h.on hst ha h0 (P := fun x => x ∈ TA) haT (fun x y hx hr g1 g2 g3 g4 => by
        refine Classical.byContradiction fun hy => ?_
        have hyA : cA ≤ dAt dA y := Classical.byContradiction fun hn => hy (hA.near (by have := A.one y x hr; rw [(h.ra y x hr).2] at this; omega) (by omega))
        have hyB := hB.near g2 (by omega)
        have := m.arc x y hr hx hyB
        omega)
      have := m.ends x h2 (by have := dAt_in (show 0 ≤ dAt dB x by omega); rw [h.fb.len] at this; exact this) hx
      omega
theorem Mtg.begin (a : Nat) (htB : ∀ e, dAt dB e ≤ 33553920) : Mtg A B dA dB W a [] [] 9223372036854775807 :=
  ⟨fun D h _ => by have := htB a; omega, fun h => by omega, fun _ _ _ h => (by cases h), fun _ _ _ h => (by cases h), fun h => (by cases h)⟩
/-- What a step tells. -/
def stepV (w : Int) (ds : List Int) (x : Nat) : Int := if dAt ds x = -1 then 9223372036854775807 else w + dAt ds x
theorem Mtg.stepA {dsB : List Int} {SB : List It} {TA TB : List Nat} {cB least l2 : Int} (h : Bid A B dA dB W) {a : Nat} (hst : ∀ x, A.st x ↔ x = a) (ha : a < A.m) (m : Mtg A B dA dB W a TA TB least) (hB : Sde B dB TB dsB SB cB (fun _ _ => False)) (htB : ∀ e, dAt dB e ≤ 33553920) {x : Nat} (hx : 0 ≤ dAt dA x)
    (hl : l2 ≤ least ∧ l2 ≤ stepV (dAt dA x) dsB x ∧ (l2 = least ∨ l2 = stepV (dAt dA x) dsB x)) : Mtg A B dA dB W a (TA ++ [x]) TB l2 := by
  have hv : dAt dsB x ≠ -1 → stepV (dAt dA x) dsB x = dAt dA x + dAt dsB x := fun e => if_neg e
  have hv1 : dAt dsB x = -1 → stepV (dAt dA x) dsB x = 9223372036854775807 := fun e => if_pos e
  have hso : dAt dsB x ≠ -1 → 0 ≤ dAt dB x ∧ dAt dB x ≤ dAt dsB x := fun e => by
    rcases hB.sound e with h1 | ⟨h1, h2⟩
    · omega
    · have := (hB.o.t x h1).1; omega
  refine ⟨fun D hD h0 => ?_, fun hlt => ?_, fun x' y hr hx' hy => ?_, fun x' hs hm hx' => ?_, fun hh => by have := m.here hh; omega⟩
  · have h1 := m.lo D hD h0
    rcases hl.2.2 with e | e
    · omega
    · by_cases hn : dAt dsB x = -1
      · have := htB a; rw [e, hv1 hn]; omega
      · have h2 := hso hn
        have h3 := h.no_less hst ha (dAt dA x).toNat x (by omega) hx h2.1
        rw [e, hv hn]; omega
  · rcases hl.2.2 with e | e
    · exact m.hi (by omega)
    · by_cases hn : dAt dsB x = -1
      · rw [e, hv1 hn] at hlt; omega
      · exact (h.no_less hst ha (dAt dA x).toNat x (by omega) hx (hso hn).1).1
  · rcases List.mem_append.1 hx' with hx' | hx'
    · have := m.arc x' y hr hx' hy; omega
    · rw [List.mem_singleton] at hx'
      subst hx'
      have h1 := h.ra y x' hr
      have h2 := h.rb x' y h1.1
      have h3 := hB.looked h.fb htB h1.1 hy
      rw [h2.2] at h3
      have := hv h3.1
      omega
  · rcases List.mem_append.1 hx' with hx' | hx'
    · have := m.ends x' hs hm hx'; omega
    · rw [List.mem_singleton] at hx'
      subst hx'
      have h1 := hB.starts h.fb hs hm
      have := hv (by omega)
      omega
theorem Mtg.stepB {dsA : List Int} {SA : List It} {TA TB : List Nat} {cA least l2 : Int} (h : Bid A B dA dB W) {a : Nat} (hst : ∀ x, A.st x ↔ x = a) (ha : a < A.m) (m : Mtg A B dA dB W a TA TB least) (hA : Sde A dA TA dsA SA cA (fun _ _ => False)) (htA : ∀ e, dAt dA e ≤ 33553920) (htB : ∀ e, dAt dB e ≤ 33553920) {y : Nat} (hy : 0 ≤ dAt dB y)
    (hl : l2 ≤ least ∧ l2 ≤ stepV (dAt dB y) dsA y ∧ (l2 = least ∨ l2 = stepV (dAt dB y) dsA y)) : Mtg A B dA dB W a TA (TB ++ [y]) l2 := by
  have hv : dAt dsA y ≠ -1 → stepV (dAt dB y) dsA y = dAt dB y + dAt dsA y := fun e => if_neg e
  have hv1 : dAt dsA y = -1 → stepV (dAt dB y) dsA y = 9223372036854775807 := fun e => if_pos e
  have hso : dAt dsA y ≠ -1 → 0 ≤ dAt dA y ∧ dAt dA y ≤ dAt dsA y := fun e => by
    rcases hA.sound e with h1 | ⟨h1, h2⟩
    · omega
    · have := (hA.o.t y h1).1; omega
  refine ⟨fun D hD h0 => ?_, fun hlt => ?_, fun x y' hr hx hy' => ?_, fun x hs hm hx => by have := m.ends x hs hm hx; omega, fun hh => ?_⟩
  · have h1 := m.lo D hD h0
    rcases hl.2.2 with e | e
    · omega
    · by_cases hn : dAt dsA y = -1
      · have := htB a; rw [e, hv1 hn]; omega
      · have h2 := hso hn
        have h3 := h.no_less hst ha (dAt dA y).toNat y (by omega) h2.1 hy
        rw [e, hv hn]; omega
  · rcases hl.2.2 with e | e
    · exact m.hi (by omega)
    · by_cases hn : dAt dsA y = -1
      · rw [e, hv1 hn] at hlt; omega
      · exact (h.no_less hst ha (dAt dA y).toNat y (by omega) (hso hn).1 hy).1
  · rcases List.mem_append.1 hy' with hy' | hy'
    · have := m.arc x y' hr hx hy'; omega
    · rw [List.mem_singleton] at hy'
      subst hy'
      have h3 := hA.looked h.fa htA hr hx
      rw [(h.ra y' x hr).2] at h3
      have := hv h3.1
      omega
  · rcases List.mem_append.1 hh with hh | hh
    · have := m.here hh; omega
    · rw [List.mem_singleton] at hh
      subst hh
      have h1 := hA.starts h.fa ((hst a).2 rfl) ha
      have := hv (by omega)
      omega
end
end Go.Proofs.Ytbjdjafkpldbnaa
