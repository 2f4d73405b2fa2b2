/- The rows of a graph's nodes, as plain lists. -/
import Derived.Test.YtbjdjafkpldbnaaLawN
import Derived.Test.YtbjdjafkpldbnaaKRow
namespace Go.Proofs.Ytbjdjafkpldbnaa
open Go.RowKit Mile
theorem getD_map_eq {α : Type} (f : α → Int) (l : List α) (i : Nat) (h : i < l.length) : (l.map f).getD i (-1) = f l[i] := by simp [List.getD, h]
theorem idx_at (ks : List Int) (v : Int) (i : Nat) (h : i < (idx ks v).length) : ∃ k : Nat, (idx ks v)[i] = (k : Int) ∧ ∃ hk : k < ks.length, ks[k] = v := by
  have hm : (idx ks v)[i] ∈ idx ks v := List.getElem_mem h
  unfold idx at hm
  rw [List.mem_map] at hm
  obtain ⟨k, hk, he⟩ := hm
  rw [List.mem_filter, List.mem_range] at hk
  refine ⟨k, he.symm, hk.1, ?_⟩
  have := hk.2
  simp [List.getD, hk.1] at this
  exact this
theorem range_filter_pw (p : Nat → Bool) (n : Nat) : ((List.range n).filter p).Pairwise (· < ·) := List.Pairwise.filter p List.pairwise_lt_range
theorem idx_pw (ks : List Int) (v : Int) : (idx ks v).Pairwise (· < ·) := by
  unfold idx
  rw [List.pairwise_map]
  exact (range_filter_pw _ _).imp (fun h => by simpa using h)
theorem idx_rise (ks : List Int) (v : Int) (i : Nat) (h : i + 1 < (idx ks v).length) : (idx ks v)[i] < (idx ks v)[i + 1] :=
  List.pairwise_iff_getElem.1 (idx_pw ks v) i (i + 1) (by omega) h (by omega)
theorem keysF {G : GD} (h : May G) : KeysOk (G.E.map (·.1)) G.N.length := fun i hi => by
  have hi' : i < G.E.length := by simpa using hi
  rw [getD_map_eq _ _ _ hi']
  have := (h.2.2.1 _ (List.getElem_mem hi')).1
  omega
theorem keysT {G : GD} (h : May G) : KeysOk (G.E.map (·.2.1)) G.N.length := fun i hi => by
  have hi' : i < G.E.length := by simpa using hi
  rw [getD_map_eq _ _ _ hi']
  have := (h.2.2.1 _ (List.getElem_mem hi')).2.1
  omega
theorem below_next (ks : List Int) (k : Int) : belowI ks (k + 1) = belowI ks k + (idx ks k).length := by rw [below_succ, idx_eq, List.length_map]
theorem gOut_of (G : GD) (v : Nat) (h : v < G.N.length) : gOut G v = idx (G.E.map (·.1)) v := by unfold gOut; rw [if_pos (by omega)]
theorem gIn_of (G : GD) (v : Nat) (h : v < G.N.length) : gIn G v = idx (G.E.map (·.2.1)) v := by unfold gIn; rw [if_pos (by omega)]
theorem gOut_no (G : GD) (v : Int) (h : ¬ (0 ≤ v ∧ v < (G.N.length : Int))) : gOut G v = [] := by unfold gOut; rw [if_neg h]
theorem gIn_no (G : GD) (v : Int) (h : ¬ (0 ≤ v ∧ v < (G.N.length : Int))) : gIn G v = [] := by unfold gIn; rw [if_neg h]
/-- An edge that goes from a node, by its place in the row. -/
theorem gOut_at (G : GD) (v : Nat) (i : Nat) (h : i < (gOut G v).length) : ∃ k : Nat, (gOut G v)[i] = (k : Int) ∧ ∃ hk : k < G.E.length, (G.E[k]).1 = v := by
  by_cases hv : v < G.N.length
  · have e := gOut_of G v hv
    simp only [e] at h ⊢
    obtain ⟨k, h1, h2, h3⟩ := idx_at _ _ i h
    exact ⟨k, h1, by simpa using h2, by simpa using h3⟩
  · rw [gOut_no G v (by omega)] at h; simp at h
theorem gIn_at (G : GD) (v : Nat) (i : Nat) (h : i < (gIn G v).length) : ∃ k : Nat, (gIn G v)[i] = (k : Int) ∧ ∃ hk : k < G.E.length, (G.E[k]).2.1 = v := by
  by_cases hv : v < G.N.length
  · have e := gIn_of G v hv
    simp only [e] at h ⊢
    obtain ⟨k, h1, h2, h3⟩ := idx_at _ _ i h
    exact ⟨k, h1, by simpa using h2, by simpa using h3⟩
  · rw [gIn_no G v (by omega)] at h; simp at h
theorem gOut_rise (G : GD) (v : Nat) (i : Nat) (h : i + 1 < (gOut G v).length) : (gOut G v)[i] < (gOut G v)[i + 1] := by
  by_cases hv : v < G.N.length
  · have e := gOut_of G v hv
    simp only [e] at h ⊢
    exact idx_rise _ _ i h
  · rw [gOut_no G v (by omega)] at h; simp at h
theorem gIn_rise (G : GD) (v : Nat) (i : Nat) (h : i + 1 < (gIn G v).length) : (gIn G v)[i] < (gIn G v)[i + 1] := by
  by_cases hv : v < G.N.length
  · have e := gIn_of G v hv
    simp only [e] at h ⊢
    exact idx_rise _ _ i h
  · rw [gIn_no G v (by omega)] at h; simp at h
theorem gOut_first (G : GD) (h : May G) (h0 : 0 < G.E.length) : 0 < (gOut G (G.E[0]).1).length := by
  have hb := (h.2.2.1 _ (List.getElem_mem h0)).1
  unfold gOut
  rw [if_pos (by omega)]
  unfold idx
  rw [List.length_map, List.length_pos_iff_exists_mem]
  exact ⟨0, List.mem_filter.2 ⟨List.mem_range.2 (by simpa using h0), by simp [List.getD, h0]⟩⟩
end Go.Proofs.Ytbjdjafkpldbnaa
