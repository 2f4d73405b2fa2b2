/- Turns, as plain lists. -/
import Derived.Test.YtbjdjafkpldbnaaIdx
import Derived.Test.YtbjdjafkpldbnaaDelP
namespace Go.Proofs.Ytbjdjafkpldbnaa
open Go.RowKit Mile
/-- Whether edge b may come behind edge a. -/
def turnB (G : GD) (a b : Int) : Bool := decide ((0 ≤ a ∧ a < (G.E.length : Int)) ∧ (0 ≤ b ∧ b < (G.E.length : Int)) ∧ (eAt G a).2.1 = (eAt G b).1 ∧ (a, b) ∉ G.B)
def nxtR (G : GD) (e : Int) : List Int := ((List.range G.E.length).filter (fun i : Nat => turnB G e (i : Int))).map Int.ofNat
def prvR (G : GD) (e : Int) : List Int := ((List.range G.E.length).filter (fun i : Nat => turnB G (i : Int) e)).map Int.ofNat
theorem nxtR_len (G : GD) (e : Int) : (nxtR G e).length ≤ G.E.length := by
  unfold nxtR; rw [List.length_map]; exact Nat.le_trans (List.length_filter_le _ _) (by simp)
theorem prvR_len (G : GD) (e : Int) : (prvR G e).length ≤ G.E.length := by
  unfold prvR; rw [List.length_map]; exact Nat.le_trans (List.length_filter_le _ _) (by simp)
theorem kept_map (p : Int → Bool) (l : List Nat) : kept p (l.map Int.ofNat) = (l.filter (fun i : Nat => !p (i : Int))).map Int.ofNat := by
  unfold kept; rw [List.filter_map]; rfl
theorem eAt_map1 (G : GD) (i : Nat) (h : i < G.E.length) : (G.E.map (·.1)).getD i (-1) = (eAt G i).1 := by rw [getD_map_eq _ _ _ h, eAt_eq G i h]
theorem eAt_map2 (G : GD) (i : Nat) (h : i < G.E.length) : (G.E.map (·.2.1)).getD i (-1) = (eAt G i).2.1 := by rw [getD_map_eq _ _ _ h, eAt_eq G i h]
theorem nxt_of (G : GD) (hm : May G) (e : Int) (he : 0 ≤ e ∧ e < (G.E.length : Int)) : kept (fun b => decide ((e, b) ∈ G.B)) (gOut G (eAt G e).2.1) = nxtR G e := by
  obtain ⟨k, rfl⟩ := Int.eq_ofNat_of_zero_le he.1
  have hk : k < G.E.length := by omega
  have hb := (hm.2.2.1 _ (List.getElem_mem hk)).2.1
  unfold gOut
  rw [if_pos (by rw [eAt_eq G k hk]; omega)]
  unfold idx nxtR
  rw [kept_map, List.filter_filter, List.length_map]
  congr 1
  refine List.filter_congr fun i hi => ?_
  have hi' : i < G.E.length := List.mem_range.1 hi
  rw [eAt_map1 G i hi']
  unfold turnB
  have h0 : (0 : Int) ≤ (k : Int) ∧ (k : Int) < (G.E.length : Int) := by omega
  have h1 : (0 : Int) ≤ (i : Int) ∧ (i : Int) < (G.E.length : Int) := by omega
  by_cases a : ((k : Int), (i : Int)) ∈ G.B <;> by_cases c : (eAt G (i : Int)).1 = (eAt G (k : Int)).2.1 <;> simp [a, c, h0, h1]
  · rw [beq_eq_false_iff_ne.2 c]; exact (decide_eq_false (fun h => c h.symm)).symm
theorem prv_of (G : GD) (hm : May G) (e : Int) (he : 0 ≤ e ∧ e < (G.E.length : Int)) : kept (fun a => decide ((a, e) ∈ G.B)) (gIn G (eAt G e).1) = prvR G e := by
  obtain ⟨k, rfl⟩ := Int.eq_ofNat_of_zero_le he.1
  have hk : k < G.E.length := by omega
  have hb := (hm.2.2.1 _ (List.getElem_mem hk)).1
  unfold gIn
  rw [if_pos (by rw [eAt_eq G k hk]; omega)]
  unfold idx prvR
  rw [kept_map, List.filter_filter, List.length_map]
  congr 1
  refine List.filter_congr fun i hi => ?_
  have hi' : i < G.E.length := List.mem_range.1 hi
  rw [eAt_map2 G i hi']
  unfold turnB
  have h0 : (0 : Int) ≤ (k : Int) ∧ (k : Int) < (G.E.length : Int) := by omega
  have h1 : (0 : Int) ≤ (i : Int) ∧ (i : Int) < (G.E.length : Int) := by omega
  by_cases a : ((i : Int), (k : Int)) ∈ G.B <;> by_cases c : (eAt G (i : Int)).2.1 = (eAt G (k : Int)).1 <;> simp [a, c, h0, h1]
theorem turnB_no1 (G : GD) (a b : Int) (h : ¬ (0 ≤ a ∧ a < (G.E.length : Int))) : turnB G a b = false := decide_eq_false fun k => h k.1
theorem turnB_no2 (G : GD) (a b : Int) (h : ¬ (0 ≤ b ∧ b < (G.E.length : Int))) : turnB G a b = false := decide_eq_false fun k => h k.2.1
theorem nxtR_no (G : GD) (e : Int) (h : ¬ (0 ≤ e ∧ e < (G.E.length : Int))) : nxtR G e = [] := by
  unfold nxtR; simp only [List.map_eq_nil_iff, List.filter_eq_nil_iff]; intro i _; simp [turnB_no1 G e i h]
theorem prvR_no (G : GD) (e : Int) (h : ¬ (0 ≤ e ∧ e < (G.E.length : Int))) : prvR G e = [] := by
  unfold prvR; simp only [List.map_eq_nil_iff, List.filter_eq_nil_iff]; intro i _; simp [turnB_no2 G i e h]
theorem nxtR_at (G : GD) (e : Int) (i : Nat) (h : i < (nxtR G e).length) : ∃ k : Nat, (nxtR G e)[i] = (k : Int) ∧ k < G.E.length ∧ turnB G e (k : Int) = true := by
  have hm : (nxtR G e)[i] ∈ nxtR G e := List.getElem_mem h
  unfold nxtR at hm
  obtain ⟨k, hk, he⟩ := List.mem_map.1 hm
  obtain ⟨h1, h2⟩ := List.mem_filter.1 hk
  exact ⟨k, he.symm, List.mem_range.1 h1, h2⟩
/-- An arc: from, to, weight, mid. -/
abbrev P4 := Int × Int × Int × Int
def c4 (x : P4) : List Value := [.int .i64 x.1, .int .i64 x.2.1, .int .i64 x.2.2.1, .int .i64 x.2.2.2]
def arcOf (G : GD) (a b : Int) : P4 := (a, b, (eAt G b).2.2, -1)
def arcsOf (G : GD) (a : Int) : List P4 := (nxtR G a).map (arcOf G a)
def arcsR (G : GD) : List P4 := (List.range G.E.length).flatMap (fun a : Nat => arcsOf G (a : Int))
def arcsTo (G : GD) (n : Nat) : List P4 := (List.range n).flatMap (fun a : Nat => arcsOf G (a : Int))
theorem arcsTo_succ (G : GD) (n : Nat) : arcsTo G (n + 1) = arcsTo G n ++ arcsOf G (n : Int) := by simp [arcsTo, List.range_succ]
theorem arcsTo_len (G : GD) : ∀ n, (arcsTo G n).length ≤ n * G.E.length
  | 0 => by simp [arcsTo]
  | n + 1 => by
    rw [arcsTo_succ, List.length_append, Nat.succ_mul]
    have h1 := arcsTo_len G n
    have h2 : (arcsOf G (n : Int)).length ≤ G.E.length := by unfold arcsOf; rw [List.length_map]; exact nxtR_len G n
    omega
theorem c4_snoc (l : List P4) (x : P4) : (l ++ [x]).flatMap c4 = l.flatMap c4 ++ c4 x := by simp
theorem c4_len : ∀ l : List P4, (l.flatMap c4).length = l.length * 4
  | [] => rfl
  | x :: l => by rw [List.flatMap_cons, List.length_append, c4_len l, List.length_cons]; simp [c4]; omega
theorem c4_at : ∀ (l : List P4) (i : Nat) (hi : i < l.length), (l.flatMap c4)[i * 4 + 0]? = some (.int .i64 l[i].1) ∧ (l.flatMap c4)[i * 4 + 1]? = some (.int .i64 l[i].2.1) ∧ (l.flatMap c4)[i * 4 + 2]? = some (.int .i64 l[i].2.2.1) ∧ (l.flatMap c4)[i * 4 + 3]? = some (.int .i64 l[i].2.2.2)
  | [], i, hi => by simp at hi
  | x :: l, 0, _ => by simp [c4]
  | x :: l, i + 1, hi => by
    have := c4_at l i (by simpa using hi)
    simp only [List.flatMap_cons, List.getElem_cons_succ]
    rw [show (i + 1) * 4 + 0 = 4 + (i * 4 + 0) by omega, show (i + 1) * 4 + 1 = 4 + (i * 4 + 1) by omega, show (i + 1) * 4 + 2 = 4 + (i * 4 + 2) by omega, show (i + 1) * 4 + 3 = 4 + (i * 4 + 3) by omega]
    rw [List.getElem?_append_right (by simp [c4]), List.getElem?_append_right (by simp [c4]), List.getElem?_append_right (by simp [c4]), List.getElem?_append_right (by simp [c4])]
    simpa [c4] using this
theorem rd4 {w : World} {n c : Nat} {a : Option Addr} {S : List P4} (h : Rd w 4 (.slice a n c) n (S.flatMap c4)) (i : Nat) (hi : i < S.length) :
    ∃ b o, elemA a i 4 = ⟨b, o, none⟩ ∧ w.cell? ⟨b, o, none⟩ = some (.int .i64 S[i].1) ∧ w.cell? ⟨b, o + 1, none⟩ = some (.int .i64 S[i].2.1) ∧ w.cell? ⟨b, o + 2, none⟩ = some (.int .i64 S[i].2.2.1) ∧ w.cell? ⟨b, o + 3, none⟩ = some (.int .i64 S[i].2.2.2) := by
  obtain ⟨k1, k2, k3, k4⟩ := c4_at S i hi
  have hn : n = S.length := by have := h.1; rw [c4_len] at this; omega
  obtain ⟨b, o, hp, _⟩ := h.place (j := i) (by omega)
  exact ⟨b, o, hp, by simpa using h.elemN hp 0 k1, h.elemN hp 1 k2, h.elemN hp 2 k3, h.elemN hp 3 k4⟩
end Go.Proofs.Ytbjdjafkpldbnaa
