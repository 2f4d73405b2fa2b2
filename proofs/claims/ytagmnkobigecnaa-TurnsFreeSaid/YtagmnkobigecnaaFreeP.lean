/- One ban more, as plain lists. -/
import Derived.Test.YtagmnkobigecnaaOnlyP
import Derived.Test.YtagmnkobigecnaaSum
namespace Go.Proofs.Ytagmnkobigecnaa
open Go.RowKit Mile
def noBans (G : GD) : GD := ⟨G.N, G.E, []⟩
def oneBan (G : GD) (i b : Int) : GD := ⟨G.N, G.E, [(i, b)]⟩
theorem turn_one (G : GD) (i b x y : Int) : turnB (oneBan G i b) x y = (turnB (noBans G) x y && !decide (x = i ∧ y = b)) := by
  unfold turnB oneBan noBans eAt
  by_cases h : x = i ∧ y = b <;> simp [h]
theorem pw_filter_ne : ∀ (l : List Int), l.Pairwise (· < ·) → ∀ (k : Nat) (hk : k < l.length), l.filter (fun y => !decide (y = l[k])) = l.take k ++ l.drop (k + 1)
  | x :: l, hp, 0, _ => by
    rw [List.pairwise_cons] at hp
    simp only [List.getElem_cons_zero, List.take_zero, List.nil_append, Nat.zero_add, List.drop_succ_cons, List.drop_zero]
    rw [List.filter_cons_of_neg (by simp)]
    exact List.filter_eq_self.2 fun y hy => by have := hp.1 y hy; simp; omega
  | x :: l, hp, k + 1, hk => by
    rw [List.pairwise_cons] at hp
    have hkl : k < l.length := by simpa using hk
    have h1 := hp.1 _ (List.getElem_mem hkl)
    simp only [List.getElem_cons_succ, List.take_succ_cons, List.drop_succ_cons, List.cons_append]
    rw [List.filter_cons_of_pos (by simp; omega), pw_filter_ne l hp.2 k hkl]
theorem nxt_pw (G : GD) (e : Int) : (nxtR G e).Pairwise (· < ·) := by
  unfold nxtR
  rw [List.pairwise_map]
  exact (List.Pairwise.filter _ List.pairwise_lt_range).imp (fun h => by simpa using h)
theorem nxt_one (G : GD) (i : Int) (k : Nat) (hk : k < (nxtR (noBans G) i).length) : nxtR (oneBan G i (nxtR (noBans G) i)[k]) i = (nxtR (noBans G) i).take k ++ (nxtR (noBans G) i).drop (k + 1) := by
  rw [← pw_filter_ne _ (nxt_pw _ _) k hk]
  generalize (nxtR (noBans G) i)[k] = b
  unfold nxtR
  rw [List.filter_map, List.filter_filter]
  show List.map Int.ofNat (List.filter _ (List.range G.E.length)) = List.map Int.ofNat (List.filter _ (List.range G.E.length))
  congr 1
  refine List.filter_congr fun x _ => ?_
  rw [turn_one]
  simp [Bool.and_comm]
theorem nxt_other (G : GD) (i b e : Int) (h : e ≠ i) : nxtR (oneBan G i b) e = nxtR (noBans G) e := by
  unfold nxtR
  show List.map Int.ofNat (List.filter _ (List.range G.E.length)) = List.map Int.ofNat (List.filter _ (List.range G.E.length))
  congr 1
  refine List.filter_congr fun x _ => ?_
  rw [turn_one]
  simp [h]
theorem sumN_less {f g : Nat → Nat} {i : Nat} (hi : g i + 1 = f i) (ho : ∀ a, a ≠ i → g a = f a) : ∀ n, i < n → sumN g n + 1 = sumN f n
  | 0, h => by omega
  | n + 1, h => by
    rw [sumN_succ, sumN_succ]
    by_cases e : n = i
    · have : ∀ m, m ≤ i → sumN g m = sumN f m := by
        intro m
        induction m with
        | zero => intro _; rfl
        | succ m ih => intro hm; rw [sumN_succ, sumN_succ, ih (by omega), ho m (by omega)]
      rw [e, this i (Nat.le_refl _)]; omega
    · have := sumN_less hi ho n (by omega)
      rw [ho n e]; omega
theorem arcs_one (G : GD) (i k : Nat) (hi : i < G.E.length) (hk : k < (nxtR (noBans G) (i : Int)).length) : (arcsR (oneBan G (i : Int) (nxtR (noBans G) (i : Int))[k])).length + 1 = (arcsR (noBans G)).length := by
  rw [arcs_count, arcs_count]
  show sumN _ G.E.length + 1 = sumN _ G.E.length
  refine sumN_less (i := i) ?_ (fun a ha => ?_) _ hi
  · show (nxtR (oneBan G (i : Int) _) (i : Int)).length + 1 = (nxtR (noBans G) (i : Int)).length
    rw [nxt_one G (i : Int) k hk, List.length_append, List.length_take, List.length_drop]; omega
  · show (nxtR (oneBan G (i : Int) _) (a : Int)).length = _
    rw [nxt_other G _ _ _ (by omega)]
theorem nxt_free (G : GD) (h : May (noBans G)) (e : Int) (he : 0 ≤ e ∧ e < (G.E.length : Int)) : nxtR (noBans G) e = gOut (noBans G) (eAt (noBans G) e).2.1 := by
  rw [← nxt_of (noBans G) h e he]
  unfold kept
  exact List.filter_eq_self.2 fun x _ => by show (!decide ((e, x) ∈ ([] : List P2))) = true; simp
theorem may_free {G : GD} (h : May G) : May (noBans G) := ⟨⟨h.1.1, h.1.2.1, by simp [noBans]⟩, h.2.1, h.2.2.1, fun i hi => by simp [noBans] at hi⟩
theorem may_one {G : GD} (h : May G) {i b : Int} (ht : turnB (noBans G) i b = true) : May (oneBan G i b) := by
  refine ⟨⟨h.1.1, h.1.2.1, by simp [oneBan]⟩, h.2.1, h.2.2.1, fun j hj => ?_⟩
  have hj' : j < 1 := hj
  obtain rfl : j = 0 := by omega
  have k := of_decide_eq_true ht
  exact ⟨⟨k.1, k.2.1, k.2.2.1⟩, fun h => by omega⟩
end Go.Proofs.Ytagmnkobigecnaa
