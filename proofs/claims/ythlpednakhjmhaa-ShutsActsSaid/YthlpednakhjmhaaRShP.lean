/- What the reference's Shuts turns, as plain lists; that it is what shuts.Set turns. -/
import Derived.Test.YthlpednakhjmhaaRSh1
namespace Mile
open Go Go.RowKit
theorem allK_mem (us : List Int) (k : Nat) (x : Int × Int) : x ∈ allK us k ↔ ∃ i : Nat, i < k ∧ us.getD i 0 ≠ 0 ∧ x = ((i : Int), us.getD i 0) := by
  unfold allK; simp only [List.mem_map, List.mem_filter, List.mem_range, bne_iff_ne, ne_eq]
  constructor
  · rintro ⟨i, ⟨h1, h2⟩, rfl⟩; exact ⟨i, h1, h2, rfl⟩
  · rintro ⟨i, h1, h2, rfl⟩; exact ⟨i, ⟨h1, h2⟩, rfl⟩
/-- Those whose time is over are none any more: the first k of them. -/
def lapU (t : Int) (us : List Int) (k : Nat) : List Int := (List.range us.length).map fun i : Nat => if i < k ∧ us.getD i 0 ≠ 0 ∧ us.getD i 0 ≤ t then 0 else us.getD i 0
theorem lapU_len (t : Int) (us : List Int) (k : Nat) : (lapU t us k).length = us.length := by simp [lapU]
theorem lapU_zero (t : Int) (us : List Int) : lapU t us 0 = us := by
  refine List.ext_getElem (by simp [lapU]) fun i h1 h2 => by simp [lapU, List.getD, h2]
theorem lapU_at (t : Int) (us : List Int) (k : Nat) (hk : k < us.length) (h : k < (lapU t us k).length) : (lapU t us k)[k] = us[k] := by simp [lapU, List.getD, hk]
theorem lapU_yes (t : Int) (us : List Int) (k : Nat) (hk : k < us.length) (h1 : us[k] ≠ 0) (h2 : us[k] ≤ t) : (lapU t us k).set k 0 = lapU t us (k + 1) := by
  refine List.ext_getElem (by simp [lapU]) fun i a b => ?_
  rw [List.getElem_set]
  split
  · rename_i e; subst e; simp [lapU, List.getD, hk, h1, h2]
  · rename_i e
    simp only [lapU, List.getElem_map, List.getElem_range]
    have : i < k ↔ i < k + 1 := by omega
    simp only [this]
theorem lapU_no (t : Int) (us : List Int) (k : Nat) (hk : k < us.length) (h : ¬ (us[k] ≠ 0 ∧ us[k] ≤ t)) : lapU t us (k + 1) = lapU t us k := by
  refine List.ext_getElem (by simp [lapU]) fun i a b => ?_
  simp only [lapU, List.getElem_map, List.getElem_range]
  by_cases e : i = k
  · subst e
    have h3 : us.getD i 0 = us[i] := by simp [List.getD, hk]
    rw [h3, if_neg (fun q => h q.2), if_neg (fun q => h q.2)]
  · have : i < k + 1 ↔ i < k := by omega
    simp only [this]
theorem over_succ (t : Int) (us : List Int) (k : Nat) (hk : k < us.length) : overL t (allK us (k + 1)) = overL t (allK us k) ++ (if us[k] ≠ 0 ∧ us[k] ≤ t then [(k : Int)] else []) := by
  rw [allK_succ us k hk]
  by_cases h : us[k] = 0
  · simp [h]
  · rw [if_pos (by simpa using h), overL_snoc]
    by_cases h2 : us[k] ≤ t <;> simp [h, h2]
/-- What a call turns. -/
def turnF (u z : Int) : Bool := (z == 0) != (u == 0)
theorem turnF_self (u : Int) : turnF u u = false := by simp [turnF]
theorem putU_at (u : Int) : ∀ (xs : List Int) (us : List Int) (i : Nat), (∀ x ∈ xs, 0 ≤ x) → i < us.length → (putU u us xs).getD i 0 = if (i : Int) ∈ xs then u else us.getD i 0
  | [], us, i, _, _ => by simp [putU]
  | x :: xs, us, i, h, hi => by
    have hx := h x (by simp)
    rw [putU, putU_at u xs (us.set x.toNat u) i (fun y hy => h y (by simp [hy])) (by simpa using hi)]
    by_cases h1 : (i : Int) ∈ xs
    · rw [if_pos h1, if_pos (by simp [h1])]
    · rw [if_neg h1]
      by_cases h2 : (i : Int) = x
      · rw [if_pos (by simp [h2])]
        have : x.toNat = i := by omega
        simp [List.getD, this, hi]
      · rw [if_neg (by simp [h1, h2])]
        have : x.toNat ≠ i := by omega
        simp [List.getD, List.getElem?_set, this]
theorem mem_turnL (u : Int) : ∀ (xs us : List Int) (y : Int), (∀ x ∈ xs, 0 ≤ x ∧ x.toNat < us.length) → (y ∈ turnL u us xs ↔ y ∈ xs ∧ turnF u (us.getD y.toNat 0) = true)
  | [], us, y, _ => by simp [turnL]
  | x :: xs, us, y, h => by
    have hx := h x (by simp)
    have ih := mem_turnL u xs (us.set x.toNat u) y (fun z hz => by have := h z (by simp [hz]); exact ⟨this.1, by simpa using this.2⟩)
    have hg : y ∈ xs → (us.set x.toNat u).getD y.toNat 0 = if y = x then u else us.getD y.toNat 0 := fun hy => by
      have hy0 := h y (by simp [hy])
      by_cases e : y = x
      · subst e; rw [if_pos rfl]; simp [List.getD, hy0.2]
      · rw [if_neg e]
        have : x.toNat ≠ y.toNat := by omega
        simp [List.getD, List.getElem?_set, this]
    have hmain : y ∈ turnL u (us.set x.toNat u) xs ↔ y ∈ xs ∧ y ≠ x ∧ turnF u (us.getD y.toNat 0) = true := by
      rw [ih]
      constructor
      · rintro ⟨h1, h2⟩
        rw [hg h1] at h2
        by_cases e : y = x
        · rw [if_pos e, turnF_self] at h2; cases h2
        · rw [if_neg e] at h2; exact ⟨h1, e, h2⟩
      · rintro ⟨h1, h2, h3⟩
        exact ⟨h1, by rw [hg h1, if_neg h2]; exact h3⟩
    have hc : ((us.getD x.toNat 0 == 0) != (u == 0)) = turnF u (us.getD x.toNat 0) := rfl
    rw [turnL, hc]
    cases hf : turnF u (us.getD x.toNat 0) with
    | true =>
      simp only [if_true, List.mem_cons, hmain]
      constructor
      · rintro (rfl | ⟨h1, _, h3⟩)
        · exact ⟨.inl rfl, hf⟩
        · exact ⟨.inr h1, h3⟩
      · rintro ⟨rfl | h1, h3⟩
        · exact .inl rfl
        · by_cases e : y = x
          · exact .inl e
          · exact .inr ⟨h1, e, h3⟩
    | false =>
      simp only [Bool.false_eq_true, if_false, List.mem_cons, hmain]
      constructor
      · rintro ⟨h1, _, h3⟩; exact ⟨.inr h1, h3⟩
      · rintro ⟨rfl | h1, h3⟩
        · rw [hf] at h3; cases h3
        · exact ⟨h1, (fun e => by rw [e, hf] at h3; cases h3), h3⟩
theorem nodup_turnL (u : Int) : ∀ (xs us : List Int), (∀ x ∈ xs, 0 ≤ x ∧ x.toNat < us.length) → (turnL u us xs).Nodup
  | [], us, _ => by simp [turnL]
  | x :: xs, us, h => by
    have h' : ∀ z ∈ xs, 0 ≤ z ∧ z.toNat < (us.set x.toNat u).length := fun z hz => by have := h z (by simp [hz]); exact ⟨this.1, by simpa using this.2⟩
    have ih := nodup_turnL u xs (us.set x.toNat u) h'
    rw [turnL]
    split
    · refine List.nodup_cons.2 ⟨fun hm => ?_, ih⟩
      have h1 := ((mem_turnL u xs (us.set x.toNat u) x h').1 hm).2
      have hx := h x (by simp)
      have : (us.set x.toNat u).getD x.toNat 0 = u := by simp [List.getD, hx.2]
      rw [this, turnF_self] at h1; cases h1
    · exact ih
/-- Which are turned, behind k of them. -/
def frK (u : Int) (us xs : List Int) (k : Nat) : List Bool := (List.range us.length).map fun i : Nat => decide ((i : Int) ∈ xs.take k) && turnF u (us.getD i 0)
theorem frK_len (u : Int) (us xs : List Int) (k : Nat) : (frK u us xs k).length = us.length := by simp [frK]
theorem frK_zero (u : Int) (us xs : List Int) : frK u us xs 0 = List.replicate us.length false := by
  refine List.ext_getElem (by simp [frK]) fun i h1 h2 => by simp [frK]
theorem frK_step (u : Int) (us xs : List Int) (k : Nat) (hk : k < xs.length) (hall : ∀ x ∈ xs, 0 ≤ x) (kx : Nat) (hx : xs[k] = (kx : Int)) (hl : kx < us.length) (b c : Bool) (hb : (frK u us xs k)[kx]? = some b) (hc : turnF u ((putU u us (xs.take k)).getD kx 0) = c) :
    (frK u us xs k).set kx (b || c) = frK u us xs (k + 1) := by
  have hb' : (decide ((kx : Int) ∈ xs.take k) && turnF u (us.getD kx 0)) = b := by
    have h1 : (frK u us xs k)[kx]? = some (decide ((kx : Int) ∈ xs.take k) && turnF u (us.getD kx 0)) := by simp [frK, hl]
    rw [h1] at hb; exact Option.some.inj hb
  rw [putU_at u (xs.take k) us kx (fun x hx => hall x (List.mem_of_mem_take hx)) hl] at hc
  have htk : xs.take (k + 1) = xs.take k ++ [(kx : Int)] := by rw [List.take_succ_eq_append_getElem hk, hx]
  refine List.ext_getElem (by simp [frK]) fun i h1 h2 => ?_
  rw [List.getElem_set]
  split
  · rename_i e; subst e
    simp only [frK, List.getElem_map, List.getElem_range, htk, List.mem_append, List.mem_singleton, or_true, decide_true, Bool.true_and]
    by_cases hm : (kx : Int) ∈ xs.take k
    · rw [if_pos hm, turnF_self] at hc
      rw [decide_eq_true hm, Bool.true_and] at hb'
      rw [← hc, Bool.or_false, ← hb']
    · rw [if_neg hm] at hc
      rw [decide_eq_false hm, Bool.false_and] at hb'
      rw [← hb', Bool.false_or, ← hc]
  · rename_i e
    simp only [frK, List.getElem_map, List.getElem_range, htk, List.mem_append, List.mem_singleton]
    have : ¬ ((i : Int) = (kx : Int)) := by omega
    simp only [this, or_false]
theorem mem_listK (bs : List Bool) (k : Nat) (x : Int) : x ∈ listK bs k ↔ ∃ i : Nat, i < k ∧ bs.getD i false = true ∧ x = (i : Int) := by
  unfold listK; simp only [List.mem_map, List.mem_filter, List.mem_range]
  constructor
  · rintro ⟨i, ⟨h1, h2⟩, rfl⟩; exact ⟨i, h1, h2, rfl⟩
  · rintro ⟨i, h1, h2, rfl⟩; exact ⟨i, ⟨h1, h2⟩, rfl⟩
theorem range_lt (k : Nat) : (List.range k).Pairwise (· < ·) := List.pairwise_lt_range
theorem listK_lt (bs : List Bool) (k : Nat) : (listK bs k).Pairwise (· < ·) := by
  unfold listK
  rw [List.pairwise_map]
  exact ((range_lt k).filter _).imp (fun h => by omega)
theorem nodup_of_lt {l : List Int} (h : l.Pairwise (· < ·)) : l.Nodup := h.imp (fun h => by omega)
theorem le_of_lt' {l : List Int} (h : l.Pairwise (· < ·)) : l.Pairwise (· ≤ ·) := h.imp (fun h => by omega)
theorem over_lt (t : Int) (us : List Int) (k : Nat) : (overL t (allK us k)).Pairwise (· < ·) := by
  unfold overL allK
  rw [List.pairwise_map]
  refine List.Pairwise.filter _ ?_
  rw [List.pairwise_map]
  exact ((range_lt k).filter _).imp (fun h => by show (_ : Int) < _; omega)
theorem mem_over (t : Int) (us : List Int) (k : Nat) (x : Int) : x ∈ overL t (allK us k) ↔ ∃ i : Nat, i < k ∧ us.getD i 0 ≠ 0 ∧ us.getD i 0 ≤ t ∧ x = (i : Int) := by
  unfold overL
  simp only [List.mem_map, List.mem_filter, allK_mem, decide_eq_true_eq]
  constructor
  · rintro ⟨y, ⟨⟨i, h1, h2, rfl⟩, h3⟩, rfl⟩; exact ⟨i, h1, h2, h3, rfl⟩
  · rintro ⟨i, h1, h2, h3, rfl⟩; exact ⟨_, ⟨⟨i, h1, h2, rfl⟩, h3⟩, rfl⟩
theorem hasB_all {n : Nat} {xs : List Int} (h : hasB n xs = true) : ∀ x ∈ xs, 0 ≤ x ∧ x.toNat < n := fun x hx => by
  have := of_decide_eq_true (List.all_eq_true.1 h x hx)
  omega
end Mile
namespace Go.Proofs.Ythlpednakhjmhaa
open Go.RowKit Mile
theorem getD_take (us : List Int) (n i : Nat) (h : i < n) : (us.take n).getD i 0 = us.getD i 0 := by simp [List.getD, List.getElem?_take, h]
/-- Close and Open: what is told is the same. -/
theorem told_same (u : Int) (n : Nat) (us xs : List Int) (hn : n ≤ us.length) (h : hasB n xs = true) : srtI (turnL u us xs) = listK (frK u (us.take n) xs xs.length) n := by
  have hall := hasB_all h
  refine srtI_eq ?_ (le_of_lt' (listK_lt _ _))
  refine (List.perm_ext_iff_of_nodup (nodup_of_lt (listK_lt _ _)) (nodup_turnL u xs us (fun x hx => ⟨(hall x hx).1, by have := (hall x hx).2; omega⟩))).2 fun x => ?_
  rw [mem_listK, mem_turnL u xs us x (fun x hx => ⟨(hall x hx).1, by have := (hall x hx).2; omega⟩)]
  have hlen : (us.take n).length = n := by rw [List.length_take]; omega
  constructor
  · rintro ⟨i, h1, h2, rfl⟩
    have h3 : (frK u (us.take n) xs xs.length).getD i false = (decide ((i : Int) ∈ xs.take xs.length) && turnF u ((us.take n).getD i 0)) := by simp [frK, List.getD, hlen, h1]
    rw [h3, Bool.and_eq_true, List.take_length, getD_take us n i h1] at h2
    exact ⟨of_decide_eq_true h2.1, by simpa using h2.2⟩
  · rintro ⟨h1, h2⟩
    obtain ⟨i, rfl⟩ := Int.eq_ofNat_of_zero_le (hall x h1).1
    have hi : i < n := by have := (hall _ h1).2; omega
    have h3 : (frK u (us.take n) xs xs.length).getD i false = (decide ((i : Int) ∈ xs.take xs.length) && turnF u ((us.take n).getD i 0)) := by simp [frK, List.getD, hlen, hi]
    refine ⟨i, hi, ?_, rfl⟩
    rw [h3, List.take_length, getD_take us n i hi, decide_eq_true h1, Bool.true_and]
    simpa using h2
theorem putU_take (u : Int) (n : Nat) : ∀ (xs us : List Int), hasB n xs = true → putU u (us.take n) xs = (putU u us xs).take n
  | [], us, _ => rfl
  | x :: xs, us, h => by
    have h2 : hasB n xs = true := by unfold hasB at h ⊢; simp only [List.all_cons, Bool.and_eq_true] at h; exact h.2
    rw [putU, putU, ← putU_take u n xs _ h2, List.take_set]
/-- Lapse: what is told, and what is left, is the same. -/
theorem over_take (t : Int) (n : Nat) (us : List Int) (hn : n ≤ us.length) : overL t (allK (us.take n) n) = overL t (allK us n) := by
  have : allK (us.take n) n = allK us n := by
    unfold allK
    have h1 : ∀ i ∈ List.range n, ((us.take n).getD i 0 != 0) = (us.getD i 0 != 0) := fun i hi => by rw [getD_take us n i (List.mem_range.1 hi)]
    rw [List.filter_congr h1]
    refine List.map_congr_left fun i hi => ?_
    rw [getD_take us n i (List.mem_range.1 (List.mem_filter.1 hi).1)]
  rw [this]
theorem lapse_told (t : Int) (n : Nat) (us : List Int) (hn : n ≤ us.length) : srtI (turnL 0 us (overL t (allK us n))) = overL t (allK us n) := by
  have hall : ∀ x ∈ overL t (allK us n), 0 ≤ x ∧ x.toNat < us.length := fun x hx => by
    obtain ⟨i, h1, _, _, rfl⟩ := (mem_over t us n x).1 hx
    omega
  refine srtI_eq ?_ (le_of_lt' (over_lt t us n))
  refine (List.perm_ext_iff_of_nodup (nodup_of_lt (over_lt t us n)) (nodup_turnL 0 _ us hall)).2 fun x => ?_
  rw [mem_turnL 0 _ us x hall]
  constructor
  · intro hx
    refine ⟨hx, ?_⟩
    obtain ⟨i, h1, h2, _, rfl⟩ := (mem_over t us n x).1 hx
    unfold turnF; simpa using h2
  · exact fun h => h.1
theorem lapse_left (t : Int) (n : Nat) (us : List Int) (hn : n ≤ us.length) : lapU t (us.take n) n = (putU 0 us (overL t (allK us n))).take n := by
  have hlen : (us.take n).length = n := by rw [List.length_take]; omega
  refine List.ext_getElem (by rw [lapU_len, hlen, List.length_take, putU_len]; omega) fun i h1 h2 => ?_
  have hi : i < n := by rw [lapU_len, hlen] at h1; exact h1
  have e2 : ((putU 0 us (overL t (allK us n))).take n)[i] = (putU 0 us (overL t (allK us n))).getD i 0 := by
    rw [List.getElem_take]; simp [List.getD, putU_len, show i < us.length by omega]
  rw [e2, putU_at 0 _ us i (fun x hx => by obtain ⟨j, _, _, _, rfl⟩ := (mem_over t us n x).1 hx; omega) (by omega)]
  simp only [lapU, List.getElem_map, List.getElem_range, getD_take us n i hi]
  by_cases hm : (i : Int) ∈ overL t (allK us n)
  · obtain ⟨j, _, h4, h5, h6⟩ := (mem_over t us n _).1 hm
    have : i = j := by omega
    subst this
    rw [if_pos hm, if_pos ⟨hi, h4, h5⟩]
  · rw [if_neg hm, if_neg (fun h => hm ((mem_over t us n _).2 ⟨i, hi, h.2.1, h.2.2, rfl⟩))]
end Go.Proofs.Ythlpednakhjmhaa
