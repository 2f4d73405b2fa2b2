/- How many turns there are. -/
import Derived.Test.YtagmnkobigecnaaTurnP
import Derived.Test.YtagmnkobigecnaaBan
import Derived.Test.YtagmnkobigecnaaSum
namespace Go.Proofs.Ytagmnkobigecnaa
open Go.RowKit Mile
theorem nodup_of_rising {B : List P2} (h : Rising B) : B.Nodup := by
  unfold List.Nodup
  rw [List.pairwise_iff_getElem]
  intro i j hi hj hij e
  have := rising_any h hj hij
  rw [e] at this
  exact blt_irrefl _ this
/-- Whether edge b begins where edge a ends. -/
def meetB (G : GD) (a b : Nat) : Bool := (eAt G b).1 == (eAt G a).2.1
theorem nxt_len (G : GD) (a : Int) : (nxtR G a).length = sumN (fun b => if turnB G a (b : Int) = true then 1 else 0) G.E.length := by
  unfold nxtR; rw [List.length_map]; exact filter_len _ _
theorem meet_split (G : GD) (h : May G) (a : Nat) (ha : a < G.E.length) :
    sumN (fun b => if meetB G a b = true then 1 else 0) G.E.length = sumN (fun b => if turnB G (a : Int) (b : Int) = true then 1 else 0) G.E.length + sumN (fun b => if ((a : Int), (b : Int)) ∈ G.B then 1 else 0) G.E.length := by
  rw [← sumN_add]
  refine sumN_congr fun b hb => ?_
  have h0 : (0 : Int) ≤ (a : Int) ∧ (a : Int) < (G.E.length : Int) := by omega
  have h1 : (0 : Int) ≤ (b : Int) ∧ (b : Int) < (G.E.length : Int) := by omega
  by_cases hB : ((a : Int), (b : Int)) ∈ G.B
  · obtain ⟨i, hi, he⟩ := List.getElem_of_mem hB
    have hk := (h.2.2.2 i hi).1.2.2
    rw [he] at hk
    have hm : meetB G a b = true := by unfold meetB; rw [beq_iff_eq]; exact hk.symm
    have ht : turnB G (a : Int) (b : Int) = false := decide_eq_false fun k => k.2.2.2 hB
    rw [hm, ht, if_pos hB]; rfl
  · rw [if_neg hB]
    by_cases hm : (eAt G (a : Int)).2.1 = (eAt G (b : Int)).1
    · have h2 : meetB G a b = true := by unfold meetB; rw [beq_iff_eq]; exact hm.symm
      have h3 : turnB G (a : Int) (b : Int) = true := decide_eq_true ⟨h0, h1, hm, hB⟩
      rw [h2, h3]; rfl
    · have h2 : meetB G a b = false := by unfold meetB; rw [beq_eq_false_iff_ne]; exact fun e => hm e.symm
      have h3 : turnB G (a : Int) (b : Int) = false := decide_eq_false fun k => hm k.2.2.1
      rw [h2, h3]; rfl
theorem out_len (G : GD) (h : May G) (a : Nat) (ha : a < G.E.length) : (gOut G (eAt G (a : Int)).2.1).length = sumN (fun b => if meetB G a b = true then 1 else 0) G.E.length := by
  have hb := (h.2.2.1 _ (List.getElem_mem ha)).2.1
  unfold gOut
  rw [if_pos (by rw [eAt_eq G a ha]; omega)]
  unfold idx
  rw [List.length_map, List.length_map, filter_len]
  refine sumN_congr fun b hb' => ?_
  rw [eAt_map1 G b hb']; rfl
theorem turns_count (G : GD) (h : May G) : sumN (fun a => (nxtR G (a : Int)).length) G.E.length + G.B.length = sumN (fun v => (gIn G (v : Int)).length * (gOut G (v : Int)).length) G.N.length := by
  have hB := pairs_sum G.E.length G.B (nodup_of_rising (may_rising h)) (fun x hx => by
    obtain ⟨i, hi, he⟩ := List.getElem_of_mem hx
    have := (h.2.2.2 i hi).1
    rw [he] at this
    exact ⟨this.1, this.2.1⟩)
  rw [← hB, ← sumN_add]
  have e1 : sumN (fun a => (nxtR G (a : Int)).length + sumN (fun b => if ((a : Int), (b : Int)) ∈ G.B then 1 else 0) G.E.length) G.E.length = sumN (fun a => (gOut G ((((eAt G (a : Int)).2.1.toNat : Nat)) : Int)).length) G.E.length := by
    refine sumN_congr fun a ha => ?_
    have hb := (h.2.2.1 _ (List.getElem_mem ha)).2.1
    have hk : ((((eAt G (a : Int)).2.1.toNat : Nat)) : Int) = (eAt G (a : Int)).2.1 := by rw [eAt_eq G a ha]; omega
    rw [hk, out_len G h a ha, meet_split G h a ha, nxt_len]
  rw [e1, sum_keys (fun a => (eAt G (a : Int)).2.1.toNat) (fun v => (gOut G (v : Int)).length) G.N.length G.E.length (fun a ha => by
    have hb := (h.2.2.1 _ (List.getElem_mem ha)).2.1
    rw [eAt_eq G a ha]; omega)]
  refine sumN_congr fun v hv => ?_
  congr 1
  rw [gIn_of G v hv]
  unfold idx
  rw [List.length_map, List.length_map]
  congr 1
  refine List.filter_congr fun i hi => ?_
  have hi' : i < G.E.length := List.mem_range.1 hi
  have hb := (h.2.2.1 _ (List.getElem_mem hi')).2.1
  rw [eAt_map2 G i hi', eAt_eq G i hi']
  rw [Bool.eq_iff_iff, beq_iff_eq, beq_iff_eq]
  omega
theorem arcs_count (G : GD) : (arcsR G).length = sumN (fun a => (nxtR G (a : Int)).length) G.E.length := by
  have key : ∀ n, (arcsTo G n).length = sumN (fun a => (nxtR G (a : Int)).length) n := fun n => by
    induction n with
    | zero => rfl
    | succ n ih => rw [arcsTo_succ, List.length_append, ih, sumN_succ]; simp [arcsOf]
  exact key G.E.length
theorem sumN_le {f : Nat → Nat} {c : Nat} : ∀ {n : Nat}, (∀ i, i < n → f i ≤ c) → sumN f n ≤ n * c
  | 0, _ => by simp [sumN]
  | n + 1, h => by
    rw [sumN_succ, Nat.succ_mul]
    have h1 := sumN_le (n := n) fun i hi => h i (by omega)
    have h2 := h n (by omega)
    omega
end Go.Proofs.Ytagmnkobigecnaa
