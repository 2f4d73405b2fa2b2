/- One edge at a time, as plain lists. -/
import Derived.Test.YthlpednakhjmhaaSet7
import Derived.Test.YthlpednakhjmhaaRound
import Derived.Test.YthlpednakhjmhaaOpens
namespace Mile
open Go Go.RowKit
theorem turn_open (us : List Int) (e : Nat) (he : e < us.length) : turnL 0 us [(e : Int)] = if us[e] = 0 then [] else [(e : Int)] := by
  simp only [turnL, show ((e : Int)).toNat = e from rfl]
  by_cases h : us[e] = 0 <;> simp [List.getD, he, h]
theorem turn_close (us : List Int) (e : Nat) (he : e < us.length) (u : Int) (hu : u ≠ 0) : turnL u us [(e : Int), (e : Int)] = if us[e] = 0 then [(e : Int)] else [] := by
  simp only [turnL, show ((e : Int)).toNat = e from rfl]
  by_cases h : us[e] = 0 <;> first | (simp [List.getD, he, h, hu]; done) | (simp [List.getD, he, h, hu, beq_eq_false_iff_ne.2 h, beq_eq_false_iff_ne.2 hu]; done)
theorem putU_close (us : List Int) (e : Nat) (u : Int) : putU u us [(e : Int), (e : Int)] = us.set e u := by
  simp only [putU, show ((e : Int)).toNat = e from rfl]; simp
theorem putU_one (us : List Int) (e : Nat) (u : Int) : putU u us [(e : Int)] = us.set e u := rfl
def Low (us : List Int) : Prop := ∀ t, 0 ≤ us.getD t 0 ∧ us.getD t 0 ≤ 100
theorem Low.zero (n : Nat) : Low (List.replicate n 0) := fun t => by
  by_cases h : t < n <;> simp [List.getD, List.getElem?_replicate, h]
theorem ne_pos {x : Int} (h : 0 ≤ x) : (x != 0) = decide (0 < x) := by
  by_cases e : x = 0
  · subst e; rfl
  · have h2 : 0 < x := by omega
    simp [e, h2]
theorem getD_zero (n k : Nat) : (List.replicate n (0 : Int)).getD k 0 = 0 := by
  by_cases h : k < n <;> simp [List.getD, List.getElem?_replicate, h]
theorem Low.set {us : List Int} (h : Low us) (e : Nat) (u : Int) (h1 : 0 ≤ u) (h2 : u ≤ 100) : Low (us.set e u) := fun t => by
  have := h t
  unfold List.getD at this ⊢
  rw [List.getElem?_set]
  split
  · split <;> simp <;> omega
  · exact this
theorem getD_set_self {us : List Int} {e : Nat} (he : e < us.length) (u : Int) : (us.set e u).getD e 0 = u := by simp [List.getD, he]
theorem getD_set_other {us : List Int} {e k : Nat} (h : e ≠ k) (u : Int) : (us.set e u).getD k 0 = us.getD k 0 := by simp [List.getD, List.getElem?_set, h]
theorem allK_at (us : List Int) (n i : Nat) (h : i < (allK us n).length) : ∃ t : Nat, (allK us n)[i] = ((t : Int), us.getD t 0) ∧ t < n := by
  have hm : (allK us n)[i] ∈ allK us n := List.getElem_mem h
  unfold allK at hm
  obtain ⟨t, ht, he⟩ := List.mem_map.1 hm
  exact ⟨t, he.symm, List.mem_range.1 (List.mem_filter.1 ht).1⟩
theorem allK_rise (us : List Int) (n i : Nat) (h : i + 1 < (allK us n).length) : ((allK us n)[i]'(by omega)).1 < ((allK us n)[i + 1]).1 := by
  have hp : (allK us n).Pairwise (fun x y => x.1 < y.1) := by
    unfold allK
    rw [List.pairwise_map]
    exact (List.Pairwise.filter _ List.pairwise_lt_range).imp (fun h => by simpa using h)
  exact List.pairwise_iff_getElem.1 hp i (i + 1) (by omega) h (by omega)
end Mile
namespace Go.Proofs.Ythlpednakhjmhaa
open Go.RowKit Mile
set_option maxRecDepth 100000
theorem srtI_one (x : Int) : srtI [x] = [x] := srtI_eq (List.Perm.refl _) (by simp)
theorem srtI_nil : srtI [] = [] := List.eq_nil_of_length_eq_zero (by rw [srtI_len]; rfl)
theorem closedB_at (us : List Int) (n e : Nat) (he : e < us.length) (hn : e < n) : closedB us n (e : Int) = (us[e] != 0) := by
  unfold closedB
  rw [show edge1 n (e : Int) = true from decide_eq_true ⟨by omega, by omega⟩, show ((e : Int)).toNat = e from rfl]; simp [List.getD, he]
theorem EvP.rdA {p : Nat} {w : World} {size : Nat} {v : Value} {n : Nat} {xs : List Value} (h : Rd w size v n xs) (hb : ∀ k, v.ownBlock = some k → k = p → xs = []) : EvP p (fun W => Rd W size v n xs) w := fun _ m => h.keepA m hb
theorem opens_pairs : Opens Try.prog 47 (encSlice (encPair (encInt .i64) (encInt .i64))) :=
  opens_slice Try.underlying47 (by kernel_rfl) (opens_array2 Try.underlying50 (by kernel_rfl) (by kernel_rfl) (opens_int Try.underlying3)) (by decide)
theorem ok_pairs {w : World} {a : Option Addr} {n c : Nat} {L : List (Int × Int)} (ok : (encSlice (encPair (encInt .i64) (encInt .i64))).ok w (.slice a n c, L)) :
    L.length = n ∧ Rd w 2 (.slice a n c) n (L.flatMap c2s) := by
  obtain ⟨hr, _⟩ := ok
  have hr : Rd w 2 (.slice a n c) L.length (L.flatMap c2s) := hr
  have hn := hr.len_eq
  subst hn
  exact ⟨rfl, hr⟩
theorem infoP : (Try.prog.info? 50).map (fun i => (i.zero, i.size, i.bytes)) = some (some (.agg #[.int .i64 0, .int .i64 0]), 2, 16) := by kernel_rfl
theorem snew_as (n : Nat) (hn : n ≤ 512) (w : World) : Calls Try.prog 8 #[.int .i64 n] w fun e w' => ∃ p, e = .returned (.pointer (some ⟨p, 0, none⟩)) ∧ w.heap.size ≤ p ∧ SO w' p n (List.replicate 512 0) ∧ Mod (fun _ => False) w w' := snew_any n hn w
end Go.Proofs.Ythlpednakhjmhaa
