/- Numbers put in rows by their keys: counted, summed, filled. -/
import Derived.Test.YtbjdjafkpldbnaaKGr
import Derived.Test.YtbjdjafkpldbnaaGr8
import Derived.Deep.RegionHeld3
import Derived.Deep.DeepCutAuto
import Derived.Deep.CutBlock
namespace Mile
open Go Go.RowKit

def idxI (ks : List Int) (i : Nat) (k : Int) : List Nat := (List.range i).filter (fun j => ks.getD j (-1) == k)
def belowI (ks : List Int) (k : Int) : Nat := ((List.range ks.length).filter (fun j => decide (ks.getD j (-1) < k))).length
def KeysOk (ks : List Int) (N : Nat) : Prop := ∀ i, i < ks.length → 0 ≤ ks.getD i (-1) ∧ ks.getD i (-1) < N

theorem idx_eq (ks : List Int) (k : Int) : idx ks k = (idxI ks ks.length k).map Int.ofNat := rfl
theorem idxI_succ (ks : List Int) (i : Nat) (k : Int) : idxI ks (i + 1) k = idxI ks i k ++ (if ks.getD i (-1) = k then [i] else []) := by
  unfold idxI
  rw [List.range_succ, List.filter_append]
  congr 1
  by_cases h : ks.getD i (-1) = k
  · rw [if_pos h, List.filter_cons_of_pos (by simp only [h, beq_self_eq_true])]; rfl
  · rw [if_neg h, List.filter_cons_of_neg (by simpa using h)]; rfl
theorem idxI_zero (ks : List Int) (k : Int) : idxI ks 0 k = [] := rfl
theorem idxI_mono (ks : List Int) (k : Int) (i : Nat) : ∀ d, (idxI ks i k).length ≤ (idxI ks (i + d) k).length
  | 0 => Nat.le_refl _
  | d + 1 => by
    have := idxI_mono ks k i d
    rw [show i + (d + 1) = (i + d) + 1 by omega, idxI_succ, List.length_append]
    omega
theorem idxI_lt {ks : List Int} {i n : Nat} {k : Int} (h : i < n) (hk : ks.getD i (-1) = k) : (idxI ks i k).length < (idxI ks n k).length := by
  have h1 := idxI_mono ks k (i + 1) (n - (i + 1))
  rw [show i + 1 + (n - (i + 1)) = n by omega, idxI_succ, if_pos hk, List.length_append, List.length_singleton] at h1
  omega
theorem idxI_le (ks : List Int) (i : Nat) (k : Int) : (idxI ks i k).length ≤ i := by
  have := List.length_filter_le (fun j => ks.getD j (-1) == k) (List.range i)
  rwa [List.length_range] at this
theorem part_filter (f : Nat → Int) (k : Int) : ∀ l : List Nat, (l.filter (fun j => decide (f j < k + 1))).length = (l.filter (fun j => decide (f j < k))).length + (l.filter (fun j => f j == k)).length
  | [] => rfl
  | x :: l => by
    have ih := part_filter f k l
    rcases Int.lt_trichotomy (f x) k with h | h | h
    · rw [List.filter_cons_of_pos (by simp; omega), List.filter_cons_of_pos (by simp; omega), List.filter_cons_of_neg (by simp; omega), List.length_cons, List.length_cons, ih]; omega
    · rw [List.filter_cons_of_pos (by simp; omega), List.filter_cons_of_neg (by simp; omega), List.filter_cons_of_pos (by simp; omega), List.length_cons, List.length_cons, ih]; omega
    · rw [List.filter_cons_of_neg (by simp; omega), List.filter_cons_of_neg (by simp; omega), List.filter_cons_of_neg (by simp; omega), ih]
theorem below_succ (ks : List Int) (k : Int) : belowI ks (k + 1) = belowI ks k + (idxI ks ks.length k).length := part_filter _ k _
theorem below_zero {ks : List Int} {N : Nat} (h : KeysOk ks N) : belowI ks 0 = 0 := by
  unfold belowI
  rw [List.length_eq_zero_iff, List.filter_eq_nil_iff]
  intro j hj
  have := h j (List.mem_range.1 hj)
  rw [decide_eq_true_eq]; omega
theorem below_all {ks : List Int} {N : Nat} (h : KeysOk ks N) : belowI ks N = ks.length := by
  unfold belowI
  rw [List.filter_eq_self.2, List.length_range]
  intro j hj
  exact decide_eq_true (h j (List.mem_range.1 hj)).2
theorem below_mono (ks : List Int) (k : Int) : ∀ d : Nat, belowI ks k ≤ belowI ks (k + d)
  | 0 => by simp
  | d + 1 => by
    have h1 := below_mono ks k d
    have h2 := below_succ ks (k + d)
    have e : k + ((d + 1 : Nat) : Int) = k + (d : Int) + 1 := by omega
    rw [e, h2]; omega
theorem below_le {ks : List Int} {j k : Int} (h : j ≤ k) : belowI ks j ≤ belowI ks k := by
  have := below_mono ks j (k - j).toNat
  rw [show j + ((k - j).toNat : Int) = k by omega] at this
  exact this
theorem below_bound (ks : List Int) (k : Int) : belowI ks k ≤ ks.length := by
  unfold belowI
  have := List.length_filter_le (fun j => decide (ks.getD j (-1) < k)) (List.range ks.length)
  rwa [List.length_range] at this

/-- A row of N + 1 numbers told by a function. -/
def tab (N : Nat) (f : Nat → Int) : List Int := (List.range (N + 1)).map f
theorem tab_len (N : Nat) (f : Nat → Int) : (tab N f).length = N + 1 := by unfold tab; simp
theorem tab_at (N : Nat) (f : Nat → Int) (k : Nat) (h : k < (tab N f).length) : (tab N f)[k] = f k := by
  have hk : k < N + 1 := by rw [tab_len] at h; exact h
  have e : (tab N f)[k]? = some (f k) := by unfold tab; rw [List.getElem?_map, List.getElem?_range hk]; rfl
  rw [List.getElem?_eq_getElem h] at e
  exact Option.some.inj e
theorem tab_set (N : Nat) (f g : Nat → Int) (k : Nat) (v : Int) (hv : v = g k) (h : ∀ j, j ≠ k → f j = g j) : (tab N f).set k v = tab N g := by
  apply List.ext_getElem
  · simp [tab]
  · intro i h1 h2
    rw [List.getElem_set, tab_at, tab_at]
    split
    · rename_i e; rw [hv, e]
    · rename_i e; exact h i (fun e' => e e'.symm)
theorem tab_congr (N : Nat) (f g : Nat → Int) (h : ∀ j, j ≤ N → f j = g j) : tab N f = tab N g := by
  unfold tab
  apply List.map_congr_left
  intro j hj
  exact h j (by have := List.mem_range.1 hj; omega)
/-- Counted: how many of the first i have each key, one place on. -/
def cntF (ks : List Int) (i : Nat) : Nat → Int := fun k => if k = 0 then 0 else ((idxI ks i ((k : Int) - 1)).length : Int)
/-- Summed up to j. -/
def sumF (ks : List Int) (j : Nat) : Nat → Int := fun k => if k ≤ j then (belowI ks k : Int) else cntF ks ks.length k
/-- Where the next one goes. -/
def nextF (ks : List Int) (i : Nat) : Nat → Int := fun k => (belowI ks k : Int) + ((idxI ks i k).length : Int)
theorem cnt_zero (N : Nat) (ks : List Int) : tab N (cntF ks 0) = List.replicate (N + 1) 0 := by
  rw [show List.replicate (N + 1) (0 : Int) = tab N (fun _ => 0) by
    refine (List.eq_replicate_iff.2 ⟨tab_len _ _, fun b hb => ?_⟩).symm
    obtain ⟨i, hi, rfl⟩ := List.getElem_of_mem hb
    exact tab_at _ _ _ _]
  apply tab_congr
  intro j _
  unfold cntF
  split <;> rfl
theorem cnt_step {N : Nat} {ks : List Int} {i c : Nat} (hc : ks.getD i (-1) = (c : Int)) : (tab N (cntF ks i)).set (c + 1) (cntF ks i (c + 1) + 1) = tab N (cntF ks (i + 1)) := by
  apply tab_set
  · unfold cntF
    rw [if_neg (by omega), if_neg (by omega), idxI_succ, if_pos (by rw [hc]; omega), List.length_append]
    simp
  · intro j hj
    unfold cntF
    split
    · rfl
    · rw [idxI_succ, if_neg (by rw [hc]; omega), List.append_nil]
theorem sum_start {N : Nat} {ks : List Int} (h : KeysOk ks N) : tab N (cntF ks ks.length) = tab N (sumF ks 0) := by
  apply tab_congr
  intro j _
  unfold sumF
  split
  · have : j = 0 := by omega
    subst this
    have hz := below_zero h
    show (0 : Int) = ((belowI ks ((0 : Nat) : Int) : Nat) : Int)
    rw [show ((0 : Nat) : Int) = 0 from rfl, hz]; rfl
  · rfl
theorem sum_step {N : Nat} {ks : List Int} {j : Nat} : (tab N (sumF ks j)).set (j + 1) (sumF ks j (j + 1) + sumF ks j j) = tab N (sumF ks (j + 1)) := by
  apply tab_set
  · unfold sumF
    rw [if_neg (by omega), if_pos (Nat.le_refl _), if_pos (Nat.le_refl _)]
    unfold cntF
    rw [if_neg (by omega)]
    have h := below_succ ks j
    rw [show ((j + 1 : Nat) : Int) - 1 = (j : Int) by omega, show ((j + 1 : Nat) : Int) = (j : Int) + 1 by omega, h]
    omega
  · intro i hi
    unfold sumF
    by_cases h : i ≤ j
    · rw [if_pos h, if_pos (by omega)]
    · rw [if_neg h, if_neg (by omega)]
theorem sum_end {N : Nat} (ks : List Int) : tab N (sumF ks N) = tab N (fun k => (belowI ks k : Int)) := by
  apply tab_congr
  intro j hj
  unfold sumF
  rw [if_pos hj]
theorem next_start {N : Nat} (ks : List Int) : tab N (fun k => (belowI ks k : Int)) = tab N (nextF ks 0) := by
  apply tab_congr
  intro j _
  unfold nextF
  rw [idxI_zero]; simp
theorem next_step {N : Nat} {ks : List Int} {i c : Nat} (hc : ks.getD i (-1) = (c : Int)) : (tab N (nextF ks i)).set c (nextF ks i c + 1) = tab N (nextF ks (i + 1)) := by
  apply tab_set
  · unfold nextF
    rw [idxI_succ, if_pos hc, List.length_append]
    simp; omega
  · intro j hj
    unfold nextF
    rw [idxI_succ, if_neg (by rw [hc]; omega), List.append_nil]
/-- What is filled in so far. -/
def Filled (ks : List Int) (N i : Nat) (A : List Int) : Prop := A.length = ks.length ∧ ∀ k t : Nat, k < N → ∀ h : t < (idxI ks i k).length, A[belowI ks k + t]? = some (((idxI ks i k)[t]'h : Nat) : Int)
theorem filled_zero {ks : List Int} {N : Nat} {A : List Int} (h : A.length = ks.length) : Filled ks N 0 A := ⟨h, fun k t _ ht => by rw [idxI_zero] at ht; simp at ht⟩
theorem next_lt {ks : List Int} {i c : Nat} (hi : i < ks.length) (hc : ks.getD i (-1) = (c : Int)) : belowI ks c + (idxI ks i c).length < ks.length := by
  have h1 := idxI_lt hi hc
  have h2 := below_succ ks c
  have h3 := below_bound ks (c + 1)
  omega
theorem filled_step {ks : List Int} {N i c : Nat} {A : List Int} (h : Filled ks N i A) (hi : i < ks.length) (hc : ks.getD i (-1) = (c : Int)) : Filled ks N (i + 1) (A.set (belowI ks c + (idxI ks i c).length) (i : Int)) := by
  refine ⟨by rw [List.length_set]; exact h.1, fun k t hk ht => ?_⟩
  have hlt := next_lt hi hc
  by_cases e : k = c
  · subst e
    have hs := idxI_succ ks i k
    rw [if_pos hc] at hs
    have hlen : (idxI ks (i + 1) k).length = (idxI ks i k).length + 1 := by rw [hs]; simp
    by_cases e2 : t = (idxI ks i k).length
    · subst e2
      rw [List.getElem?_set_self (by rw [h.1]; exact hlt)]
      congr 1
      simp [hs]
    · have ht' : t < (idxI ks i k).length := by omega
      rw [List.getElem?_set_ne (by omega), h.2 k t hk ht']
      congr 1
      simp only [hs, List.getElem_append_left ht']
  · have hs := idxI_succ ks i k
    rw [if_neg (by rw [hc]; omega), List.append_nil] at hs
    have ht' : t < (idxI ks i k).length := by rw [← hs]; exact ht
    have hne : belowI ks c + (idxI ks i c).length ≠ belowI ks k + t := by
      have hk1 := idxI_mono ks k i (ks.length - i)
      rw [show i + (ks.length - i) = ks.length by omega] at hk1
      have hc1 := idxI_lt hi hc
      have hk2 := below_succ ks k
      have hc2 := below_succ ks c
      rcases Nat.lt_or_ge k c with g | g
      · have := @below_le ks ((k : Int) + 1) c (by omega)
        omega
      · have := @below_le ks ((c : Int) + 1) k (by omega)
        omega
    rw [List.getElem?_set_ne hne, h.2 k t hk ht']
    congr 1
    simp only [hs]
/-- All filled in: each row is there. -/
theorem filled_row {ks : List Int} {N : Nat} {A : List Int} (h : Filled ks N ks.length A) {k : Nat} (hk : k < N) : (A.take (belowI ks ((k : Int) + 1))).drop (belowI ks k) = idx ks k := by
  have h2 := below_succ ks k
  have h3 := below_bound ks ((k : Int) + 1)
  rw [idx_eq]
  apply List.ext_getElem?
  intro t
  rw [List.getElem?_drop, List.getElem?_take, List.getElem?_map]
  by_cases ht : t < (idxI ks ks.length k).length
  · rw [if_pos (by omega), h.2 k t hk ht, List.getElem?_eq_getElem ht]; rfl
  · rw [if_neg (by omega), List.getElem?_eq_none (by omega)]; rfl
end Mile
namespace Go.Proofs.Ytbjdjafkpldbnaa
open Go.RowKit Mile
set_option maxRecDepth 100000

theorem own_some {w : World} {base : Nat} {e : TypeId} {size : Nat} {a : Option Addr} {n c : Nat} {xs : List Value} (h : w.ownsRow base e size (.slice a n c) n xs) (hn : 0 < n) : ∃ g, a = some ⟨g, 0, none⟩ := by
  rcases h.2 with ⟨h', _⟩ | ⟨g, cap, cur, h', _⟩
  · simp only [Value.slice.injEq] at h'; omega
  · cases h'; exact ⟨g, rfl⟩
/-- Behind the two rows' making. -/
def Made (w : World) (N n g0 g1 : Nat) (fs : List Int) (s t : Value) (W : World) : Prop := ∃ g2 g3 d3, s = .slice (some ⟨g2, 0, none⟩) n n ∧ t = .slice (some ⟨g3, 0, none⟩) (N + 1) d3 ∧
  W.ownsRow 0 3 1 (.slice (some ⟨g2, 0, none⟩) n n) n ((List.replicate n (0 : Int)).map (Value.int .i64)) ∧ W.ownsRow 0 3 1 (.slice (some ⟨g3, 0, none⟩) (N + 1) d3) (N + 1) (fs.map (Value.int .i64)) ∧
  W.ownsRow 0 3 1 (.slice (some ⟨g1, 0, none⟩) (N + 1) (N + 1)) (N + 1) (fs.map (Value.int .i64)) ∧ Blk W g0 85 [.slice none 0 0, .slice none 0 0] ∧ Mod (fun _ => False) w W ∧ (g1 < g2 ∧ g1 < g3 ∧ g2 ≠ g3)
theorem Made.tail {w wr w1 : World} {N n g0 g1 : Nat} {fs : List Int} {a3 : Option Addr} {c3 B : Nat} (hO : wr.ownsRow 0 3 1 (.slice (some ⟨g1, 0, none⟩) (N + 1) (N + 1)) (N + 1) (fs.map (Value.int .i64))) (hB : Blk wr g0 85 [.slice none 0 0, .slice none 0 0]) (hM : Mod (fun _ => False) w wr)
    (hM3 : Mod (fun _ => False) wr w1) (hF : w1.ownsRow B 3 1 (.slice a3 (N + 1) c3) (N + 1) (fs.map (Value.int .i64))) (hBw : wr.heap.size ≤ B) (hn : n ≤ 1000000000) :
    Made w N n g0 g1 fs (.slice (some ⟨w1.heap.size, 0, none⟩) n n) (.slice a3 (N + 1) c3) (w1.alloc (.cells (zrow (.int .i64 0) n) 3)) := by
  obtain ⟨g3, rfl⟩ := own_some hF (by omega)
  have h3 := hF.lt g3 rfl
  have h1 := (hO.lt g1 rfl).2
  have hs := hM3.size
  refine ⟨w1.heap.size, g3, c3, rfl, rfl, ?_, (Own.base hF (Nat.zero_le _)).alloc _, (Own.keep hO hM3 (fun _ _ e => e)).alloc _, (hB.keep hM3 (fun e => e)).alloc _, (hM.trans hM3 (fun _ _ e => e) (fun _ _ e => e)).thenAlloc _, by omega, by omega, by omega⟩
  rw [List.map_replicate]
  exact own_zrow w1 3 (.int .i64 0) n w1.heap.size rfl hn
theorem Made.head {w wr w1 : World} {N n g0 g1 : Nat} {fs : List Int} {a3 : Option Addr} {c3 B : Nat} (hO : wr.ownsRow 0 3 1 (.slice (some ⟨g1, 0, none⟩) (N + 1) (N + 1)) (N + 1) (fs.map (Value.int .i64))) (hB : Blk wr g0 85 [.slice none 0 0, .slice none 0 0]) (hM : Mod (fun _ => False) w wr)
    (hM3 : Mod (fun _ => False) (wr.alloc (.cells (zrow (.int .i64 0) n) 3)) w1) (hF : w1.ownsRow B 3 1 (.slice a3 (N + 1) c3) (N + 1) (fs.map (Value.int .i64))) (hBw : wr.heap.size + 1 ≤ B) (hn : n ≤ 1000000000) :
    Made w N n g0 g1 fs (.slice (some ⟨wr.heap.size, 0, none⟩) n n) (.slice a3 (N + 1) c3) w1 := by
  obtain ⟨g3, rfl⟩ := own_some hF (by omega)
  have h3 := hF.lt g3 rfl
  have h1 := (hO.lt g1 rfl).2
  have hA : Mod (fun _ => False) wr w1 := (Mod.alloc _ wr _).trans hM3 (fun _ _ e => e) (fun _ _ e => e)
  refine ⟨wr.heap.size, g3, c3, rfl, rfl, ?_, Own.base hF (Nat.zero_le _), Own.keep hO hA (fun _ _ e => e), hB.keep hA (fun e => e), hM.trans hA (fun _ _ e => e) (fun _ _ e => e), by omega, by omega, by omega⟩
  rw [List.map_replicate]
  exact Own.keep (own_zrow wr 3 (.int .i64 0) n wr.heap.size rfl hn) hM3 (fun _ _ e => e)
/-- Behind the first i edges' filling in. -/
def Fill (w : World) (ks : List Int) (N n g0 g1 g2 g3 d3 i : Nat) (W : World) : Prop := ∃ A, Filled ks N i A ∧ W.ownsRow 0 3 1 (.slice (some ⟨g2, 0, none⟩) n n) n (A.map (Value.int .i64)) ∧
  W.ownsRow 0 3 1 (.slice (some ⟨g3, 0, none⟩) (N + 1) d3) (N + 1) ((tab N (nextF ks i)).map (Value.int .i64)) ∧
  W.ownsRow 0 3 1 (.slice (some ⟨g1, 0, none⟩) (N + 1) (N + 1)) (N + 1) ((tab N (fun k => (belowI ks k : Int))).map (Value.int .i64)) ∧ Blk W g0 85 [.slice none 0 0, .slice none 0 0] ∧ Mod (fun _ => False) w W
/-- What rowsOf tells. -/
def RowsP (ks : List Int) (N n : Nat) (w : World) (e : Ending) (w' : World) : Prop :=
  ∃ a c b d, e = .returned (.agg #[.slice a n c, .slice b (N + 1) d]) ∧ RowD w' a n c b (N + 1) d N ks ∧ InB w.heap.size w'.heap.size (.slice a n c) ∧ InB w.heap.size w'.heap.size (.slice b (N + 1) d) ∧ Mod (fun _ => False) w w'

set_option maxHeartbeats 4000000 in
theorem rows_start (w : World) (N : Nat) (a : Option Addr) (n c : Nat) (E : List P3) (hn : E.length = n) (hr : Rd w 3 (.slice a n c) n (E.flatMap c3)) (hN : N ≤ 256) (hnE : n ≤ 512) (ks : List Int) (hksd : E.map (·.1) = ks) (hks : KeysOk ks N) :
    Calls Try.prog 39 #[.int .i64 N, .slice a n c, .func (.func 40) #[] #[]] w (RowsP ks N n w) := by
  obtain ⟨i3, hi3, hz3, hs3, hb3⟩ := info_parts GR.infoI
  obtain ⟨iE, hiE, hzE, hsE, hbE⟩ := info_parts GR.infoE
  have HN := Lib.hid hn
  clear hn
  have hmk : ∀ wx, (Instr.makeSlice 22 (.int .i64 ((N : Int) + 1)) (.int .i64 ((N : Int) + 1))).run Try.prog wx = .ok (.slice (some ⟨wx.heap.size, 0, none⟩) (N + 1) (N + 1)) (wx.alloc (.cells (zrow (.int .i64 0) (N + 1)) 3)) := fun wx => by
    have := run_makeS (P := Try.prog) 22 3 i3 (.int .i64 0) Try.underlying22 hi3 hz3 rfl hs3 (N + 1) (by rw [hb3]; omega) (by omega) wx
    rwa [show ((N + 1 : Nat) : Int) = (N : Int) + 1 by omega] at this
  go_enter Try.func39, Try.ntmps39
  go_wp2_with fail
  have hkl : ks.length = n := by rw [← hksd, List.length_map, HN.out]
  have hkat : ∀ j (hj : j < E.length), ks.getD j (-1) = E[j].1 := fun j hj => by rw [← hksd]; simp [List.getD, hj]
  have HKL := Lib.hid hkl
  have HKAT := Lib.hid hkat
  have HKS := Lib.hid hks
  clear hkl hkat hks hksd
  have ho1 := own_zrow (w.alloc (.cells #[.slice none 0 0, .slice none 0 0] 85)) 3 (.int .i64 0) (N + 1) (w.heap.size + 1) (by simp) (by omega)
  rw [show List.replicate (N + 1) (Value.int .i64 0) = (tab N (cntF ks 0)).map (Value.int .i64) by rw [cnt_zero, List.map_replicate]] at ho1
  have hb1 : Blk ((w.alloc (.cells #[.slice none 0 0, .slice none 0 0] 85)).alloc (.cells (zrow (.int .i64 0) (N + 1)) 3)) w.heap.size 85 [.slice none 0 0, .slice none 0 0] := (Blk.new w 85 [.slice none 0 0, .slice none 0 0]).alloc _
  have hM1 : Mod (fun _ => False) w ((w.alloc (.cells #[.slice none 0 0, .slice none 0 0] 85)).alloc (.cells (zrow (.int .i64 0) (N + 1)) 3)) := ((Mod.refl _ w).thenAlloc _).thenAlloc _
  obtain ⟨g0, hg0⟩ : ∃ g, w.heap.size = g := ⟨_, rfl⟩
  rw [hg0] at hb1 ho1 ⊢
  obtain ⟨g1, hg1⟩ : ∃ g, g0 + 1 = g := ⟨_, rfl⟩
  rw [hg1] at ho1 ⊢
  have HG0 := Lib.hid hg0
  have HG1 := Lib.hid hg1
  clear hg0 hg1 hmk
  go_loopw [9, 21] (fun _ i wr => ∃ j : Nat, j ≤ n ∧ i = .int .i64 j ∧ wr.ownsRow 0 3 1 (.slice (some ⟨g1, 0, none⟩) (N + 1) (N + 1)) (N + 1) ((tab N (cntF ks j)).map (Value.int .i64)) ∧ Blk wr g0 85 [.slice none 0 0, .slice none 0 0] ∧ Mod (fun _ => False) w wr) (fun _ i _ => n - (intOf i).toNat)
  case atStart => exact ⟨0, by omega, rfl, ho1, hb1, hM1⟩
  case round =>
    clear ho1 hb1 hM1
    obtain ⟨j, hj, rfl, hO, hB, hM⟩ := hrel
    by_cases hlt : j < n
    · have hjl : j < E.length := by rw [HN.out]; exact hlt
      obtain ⟨b, o, hpl, e1, e2, e3⟩ := rd3 (hr.keepA hM (fun _ _ e => e.elim)) j hjl
      have hix := fun wx => run_indexS (P := Try.prog) wx 25 43 iE 3 Try.underlying25 hiE hsE a n c j hlt (hr.some_ (by omega))
      rw [hpl] at hix
      have hkj := HKAT.out j hjl
      have hkr := HKS.out j (by rw [HKL.out]; exact hlt)
      rw [hkj] at hkr
      obtain ⟨x, hx⟩ : ∃ x, E[j] = x := ⟨_, rfl⟩
      rw [hx] at e1 e2 e3 hkj hkr
      clear hx hpl
      obtain ⟨x1, x2, x3⟩ := x
      simp only at e1 e2 e3 hkj hkr
      obtain ⟨k, rfl⟩ := Int.eq_ofNat_of_zero_le hkr.1
      have hkN : k < N := by omega
      have HKJ := Lib.hid hkj
      clear hkj hkr
      have ltb : b < wr.heap.size := World.block_lt_of_cell? _ _ e1
      have hcc : (k : Int) + 1 = ((k + 1 : Nat) : Int) := by omega
      obtain ⟨kk, hkk⟩ : ∃ kk, k + 1 = kk := ⟨_, rfl⟩
      rw [hkk] at hcc
      have hkk1 : kk < N + 1 := by omega
      have hA := Mod.alloc (fun _ => False) wr (.cells #[.int .i64 (k : Int), .int .i64 x2, .int .i64 x3] 43)
      go_wp2_with fail
      refine (start_any ((k : Int), x2, x3) _).mono ?_
      rintro e w1 ⟨rfl, hM1⟩
      have hMA := hA.trans hM1 (H := fun _ => False) (fun _ _ e => e) (fun _ _ e => e)
      have hO1 := Own.keep hO hMA (fun _ _ e => e)
      have hB1 := hB.keep hMA (fun e => e)
      have hMW := hM.trans hMA (H := fun _ => False) (fun _ _ e => e) (fun _ _ e => e)
      have hg1w : g0 < g1 := by have := HG1.out; omega
      have htl := tab_len N (cntF ks j)
      have hval : (tab N (cntF ks j))[kk]'(by omega) = ((idxI ks j k).length : Int) := by
        rw [tab_at]
        unfold cntF
        rw [if_neg (by omega), show ((kk : Nat) : Int) - 1 = (k : Int) by omega]
      have hvle := idxI_le ks j k
      have hst := hO1.stored kk (.int .i64 ((idxI ks j k).length + 1))
      have hset : Hid (((tab N (cntF ks j)).map (Value.int .i64)).set kk (.int .i64 ((idxI ks j k).length + 1)) = (tab N (cntF ks (j + 1))).map (Value.int .i64)) := Lib.hid (by
        rw [← cnt_step (N := N) HKJ.out, List.map_set, hkk]
        congr 2
        unfold cntF
        rw [if_neg (by omega), show ((kk : Nat) : Int) - 1 = (k : Int) by omega])
      have c1 : w1.cell? ⟨g1, kk, none⟩ = some (.int .i64 (idxI ks j k).length) := by rw [hO1.cellAt kk (by omega)]; simp [htl, hkk1, ← hval]
      have c2 := hO1.frozenAt kk
      obtain ⟨m, hm⟩ : ∃ m, (idxI ks j k).length = m := ⟨_, rfl⟩
      rw [hm] at c1 hst hset hvle
      have hst1 := Lib.hid hst.1
      have hst2 := Lib.hid (hMW.trans (Mod.ofGrown hst.2) (H := fun _ => False) (fun _ _ e => e) (fun i hi e => by
        have e1 : g1 = i := Option.some.inj e
        have := HG0.out
        omega))
      have hst3 := Lib.hid (hB1.setOther ⟨g1, kk, none⟩ (.int .i64 ((m : Int) + 1)) (by show g0 ≠ g1; omega))
      clear hst hval htl hO hB hM hM1 hMA hO1 hB1 hMW hA e1 e2 e3 hix hm
      go_wp2_with fail
      go_roundw
      case rel => exact ⟨j + 1, hlt, by go_num, by rw [← hset.out]; exact hst1.out, hst3.out, hst2.out⟩
      case measure => simp [intOf]; omega
    · obtain rfl : j = n := by omega
      rw [show tab N (cntF ks j) = tab N (sumF ks 0) by rw [← HKL.out]; exact sum_start HKS.out] at hO
      have hM' := hM
      go_wp2_with fail
      go_loopw [10, 36] (fun _ i wr => ∃ k : Nat, k ≤ N ∧ i = .int .i64 k ∧ wr.ownsRow 0 3 1 (.slice (some ⟨g1, 0, none⟩) (N + 1) (N + 1)) (N + 1) ((tab N (sumF ks k)).map (Value.int .i64)) ∧ Blk wr g0 85 [.slice none 0 0, .slice none 0 0] ∧ Mod (fun _ => False) w wr) (fun _ i _ => N - (intOf i).toNat)
      case atStart => exact ⟨0, by omega, rfl, hO, hB, hM⟩
      case round =>
        clear hO hB hM hM'
        obtain ⟨k, hk, rfl, hO, hB, hM⟩ := hrel
        by_cases hlt : k < N
        · have hcc : (k : Int) + 1 = ((k + 1 : Nat) : Int) := by omega
          have hss := @sum_step N ks k
          obtain ⟨kk, hkk⟩ : ∃ kk, k + 1 = kk := ⟨_, rfl⟩
          rw [hkk] at hcc hss
          have hkk1 : kk < N + 1 := by omega
          have htl := tab_len N (sumF ks k)
          have hg1w : g0 < g1 := by have := HG1.out; omega
          have hv0 : sumF ks k k = (belowI ks k : Int) := by unfold sumF; rw [if_pos (Nat.le_refl _)]
          have hv1 : sumF ks k kk = ((idxI ks j k).length : Int) := by
            unfold sumF cntF
            rw [if_neg (by omega), if_neg (by omega), show ((kk : Nat) : Int) - 1 = (k : Int) by omega, HKL.out]
          have hb0 := below_bound ks k
          rw [HKL.out] at hb0
          have hb1 := idxI_le ks j k
          obtain ⟨m0, hm0⟩ : ∃ m, belowI ks k = m := ⟨_, rfl⟩
          obtain ⟨m1, hm1⟩ : ∃ m, (idxI ks j k).length = m := ⟨_, rfl⟩
          rw [hm0] at hv0 hb0
          rw [hm1] at hv1 hb1
          rw [hv0, hv1] at hss
          have c1 : wr.cell? ⟨g1, kk, none⟩ = some (.int .i64 m1) := by rw [hO.cellAt kk (by omega)]; simp [htl, hkk1, tab_at, hv1]
          have c0 : wr.cell? ⟨g1, k, none⟩ = some (.int .i64 m0) := by rw [hO.cellAt k (by omega)]; simp [htl, show k < N + 1 by omega, tab_at, hv0]
          have c2 := hO.frozenAt kk
          have hst := hO.stored kk (.int .i64 ((m1 : Int) + m0))
          rw [← List.map_set, hss] at hst
          have hst1 := Lib.hid hst.1
          have hst2 := Lib.hid (hM.trans (Mod.ofGrown hst.2) (H := fun _ => False) (fun _ _ e => e) (fun i hi e => by
            have e1 : g1 = i := Option.some.inj e
            have := HG0.out
            omega))
          have hst3 := Lib.hid (hB.setOther ⟨g1, kk, none⟩ (.int .i64 ((m1 : Int) + m0)) (by show g0 ≠ g1; omega))
          clear hst htl hv0 hv1 hss hO hB hM hm0 hm1
          go_wp2_with fail
          go_region
          go_wp2
          go_roundw
          case rel => exact ⟨kk, hkk1 |> Nat.le_of_lt_succ, by go_num, hst1.out.drew, hst3.out.drew, hst2.out.thenDrew⟩
          case measure => simp [intOf]; omega
        · obtain rfl : k = N := by omega
          rw [sum_end ks] at hO
          obtain ⟨fs, hfs⟩ : ∃ fs, tab k (fun i => (belowI ks i : Int)) = fs := ⟨_, rfl⟩
          have hfl : fs.length = k + 1 := by rw [← hfs]; exact tab_len _ _
          rw [hfs] at hO
          have HFS := Lib.hid hfs
          have HFL := Lib.hid hfl
          have hlt1 : g1 < wr.heap.size := (hO.lt g1 rfl).2
          clear hfs hfl
          have hmk : ∀ wx, (Instr.makeSlice 22 (.int .i64 (j : Int)) (.int .i64 (j : Int))).run Try.prog wx = .ok (.slice (some ⟨wx.heap.size, 0, none⟩) j j) (wx.alloc (.cells (zrow (.int .i64 0) j) 3)) := fun wx =>
            run_makeS (P := Try.prog) 22 3 i3 (.int .i64 0) Try.underlying22 hi3 hz3 rfl hs3 j (by rw [hb3]; omega) (by omega) wx
          have HRF : Hid (∀ W, Mod (fun _ => False) wr W → Rd W 1 (.slice (some ⟨g1, 0, none⟩) (k + 1) (k + 1)) (k + 1) (fs.map (Value.int .i64))) := Lib.hid fun W hm => (Rd.ofOwn hO).keepA hm (fun _ _ e => e.elim)
          go_upto_region 12 with fail
          go_cut [11, 12] (fun s t wx => Made w k j g0 g1 fs s t wx)
          case first =>
            go_region_with (first | (go_at_call 65; refine (cloneI_any _ (some ⟨g1, 0, none⟩) (k + 1) (k + 1) fs HFL.out (HRF.out _ (by first | exact Mod.drew _ _ | exact (Mod.drew _ _).thenAlloc _ | exact (Mod.alloc _ _ _).thenDrew)) (by omega)).mono ?_; rintro e w1 ⟨a3, c3, rfl, hF3, hM3⟩))
            all_goals (go_wp2_with fail; go_meet; first | exact Made.tail (wr := wr.drew) hO.drew hB.drew hM.thenDrew hM3 hF3 (Nat.le_refl _) (by omega) | exact Made.head (wr := wr.drew) hO.drew hB.drew hM.thenDrew hM3 hF3 (by simp) (by omega))
          case rest =>
            clear hO hB hM hlt1 HRF hmk
            obtain ⟨g2, g3, d3, rfl, rfl, hO2, hO3, hO1, hB, hM, hg12, hg13, hg23⟩ := hcut
            rw [← HFS.out] at hO1 hO3
            rw [next_start ks] at hO3
            have hfl0 := filled_zero (ks := ks) (N := k) (A := List.replicate j (0 : Int)) (by rw [List.length_replicate, HKL.out])
            have hF0 : Fill w ks k j g0 g1 g2 g3 d3 0 wc := ⟨_, hfl0, hO2, hO3, hO1, hB, hM⟩
            clear hO2 hO3 hO1 hB hM hfl0
            go_wp2_with fail
            go_loopw [13, 14, 15, 58] (fun _ _ _ i wr => ∃ q : Nat, q ≤ j ∧ i = .int .i64 q ∧ Fill w ks k j g0 g1 g2 g3 d3 q wr) (fun _ _ _ i _ => j - (intOf i).toNat)
            case atStart => exact ⟨0, by omega, rfl, hF0⟩
            case round =>
              clear hF0
              obtain ⟨q, hq, rfl, A, hFA, hO2, hO3, hO1, hB, hM⟩ := hrel
              by_cases hlt : q < j
              · have hjl : q < E.length := by rw [HN.out]; exact hlt
                obtain ⟨b, o, hpl, e1, e2, e3⟩ := rd3 (hr.keepA hM (fun _ _ e => e.elim)) q hjl
                have hix := fun wx => run_indexS (P := Try.prog) wx 25 43 iE 3 Try.underlying25 hiE hsE a j c q hlt (hr.some_ (by omega))
                rw [hpl] at hix
                have hkj := HKAT.out q hjl
                have hkr := HKS.out q (by rw [HKL.out]; exact hlt)
                rw [hkj] at hkr
                obtain ⟨x, hx⟩ : ∃ x, E[q] = x := ⟨_, rfl⟩
                rw [hx] at e1 e2 e3 hkj hkr
                clear hx hpl
                obtain ⟨x1, x2, x3⟩ := x
                simp only at e1 e2 e3 hkj hkr
                obtain ⟨v, rfl⟩ := Int.eq_ofNat_of_zero_le hkr.1
                have hvN : v < k := by omega
                have hpos := next_lt (by rw [HKL.out]; exact hlt) hkj
                have hfs' := filled_step hFA (by rw [HKL.out]; exact hlt) hkj
                have hns' := @next_step k ks q v hkj
                have hnv : nextF ks q v = ((belowI ks v + (idxI ks q v).length : Nat) : Int) := by unfold nextF; omega
                rw [HKL.out] at hpos
                obtain ⟨pos, hpd⟩ : ∃ p, belowI ks v + (idxI ks q v).length = p := ⟨_, rfl⟩
                rw [hpd] at hpos hfs' hnv
                rw [hnv] at hns'
                have HKJ := Lib.hid hkj
                have HFS' := Lib.hid hfs'
                clear hkj hkr hpd hfs'
                have ltb : b < wr.heap.size := World.block_lt_of_cell? _ _ e1
                have hA := Mod.alloc (fun _ => False) wr (.cells #[.int .i64 (v : Int), .int .i64 x2, .int .i64 x3] 43)
                go_wp2_with fail
                refine (start_any ((v : Int), x2, x3) _).mono ?_
                rintro e w1 ⟨rfl, hM1⟩
                have hMA := hA.trans hM1 (H := fun _ => False) (fun _ _ e => e) (fun _ _ e => e)
                have hP2 := Own.keep hO2 hMA (fun _ _ e => e)
                have hP3 := Own.keep hO3 hMA (fun _ _ e => e)
                have hP1 := Own.keep hO1 hMA (fun _ _ e => e)
                have hPB := hB.keep hMA (fun e => e)
                have hMW := hM.trans hMA (H := fun _ => False) (fun _ _ e => e) (fun _ _ e => e)
                have htl := tab_len k (nextF ks q)
                have c3 : w1.cell? ⟨g3, v, none⟩ = some (.int .i64 pos) := by rw [hP3.cellAt v (by omega)]; simp [htl, show v < k + 1 by omega, tab_at, hnv]
                have d2 := hP2.frozenAt pos
                have hAl : A.length = j := by rw [hFA.1, HKL.out]
                have c2 : w1.cell? ⟨g2, pos, none⟩ = some (.int .i64 (A[pos]'(by omega))) := by rw [hP2.cellAt pos (by omega)]; simp [hAl, hpos]
                obtain ⟨av, hav⟩ : ∃ av, (A[pos]'(by omega)) = av := ⟨_, rfl⟩
                rw [hav] at c2
                clear hav
                have hst := hP2.stored pos (.int .i64 q)
                have hG := Mod.ofGrown hst.2
                have n21 : ∀ t, (Value.slice (some ⟨g1, 0, none⟩) (k + 1) (k + 1)).ownBlock = some t → ¬ some g2 = some t := fun t ht e => by
                  have e1 : g1 = g2 := Option.some.inj (ht.trans e.symm)
                  omega
                have n23 : ∀ t, (Value.slice (some ⟨g3, 0, none⟩) (k + 1) d3).ownBlock = some t → ¬ some g2 = some t := fun t ht e => hg23 (Option.some.inj (ht.trans e.symm)).symm
                have n31 : ∀ t, (Value.slice (some ⟨g1, 0, none⟩) (k + 1) (k + 1)).ownBlock = some t → ¬ some g3 = some t := fun t ht e => by
                  have e1 : g1 = g3 := Option.some.inj (ht.trans e.symm)
                  omega
                have n32 : ∀ t, (Value.slice (some ⟨g2, 0, none⟩) j j).ownBlock = some t → ¬ some g3 = some t := fun t ht e => hg23 (Option.some.inj (ht.trans e.symm))
                have hg01 : g0 < g1 := by have := HG1.out; omega
                have hQ3 := Own.keep hP3 hG n23
                have c4 := hQ3.cellAt v (by omega)
                have c5 : (w1.setCell ⟨g2, pos, none⟩ (.int .i64 q)).cell? ⟨g3, v, none⟩ = some (.int .i64 pos) := by rw [c4]; simp [htl, show v < k + 1 by omega, tab_at, hnv]
                have d3' := hQ3.frozenAt v
                have hst' := hQ3.stored v (.int .i64 ((pos : Int) + 1))
                have hG' := Mod.ofGrown hst'.2
                rw [← List.map_set] at hst
                rw [← List.map_set, hns'] at hst'
                have F1 := Lib.hid (Own.keep hst.1 hG' n32)
                have F2 := Lib.hid hst'.1
                have F3 := Lib.hid (Own.keep (Own.keep hP1 hG n21) hG' n31)
                have F4 := Lib.hid ((hPB.setOther ⟨g2, pos, none⟩ (.int .i64 q) (by show g0 ≠ g2; omega)).setOther ⟨g3, v, none⟩ (.int .i64 ((pos : Int) + 1)) (by show g0 ≠ g3; omega))
                have F5 := Lib.hid ((hMW.trans hG (H := fun _ => False) (fun _ _ e => e) (fun i hi e => by
                  have e1 : g2 = i := Option.some.inj e
                  have := HG0.out
                  omega)).trans hG' (H := fun _ => False) (fun _ _ e => e) (fun i hi e => by
                  have e1 : g3 = i := Option.some.inj e
                  have := HG0.out
                  omega))
                have HNE := Lib.hid hg23
                clear hst hst' hG hG' n21 n23 n31 n32 hP2 hP3 hP1 hPB hMW hQ3 c4 hMA hA hM1 hO2 hO3 hO1 hB hM hFA htl hns' hnv e1 e2 e3 hix
                go_wp2_with fail
                go_roundw
                case rel => exact ⟨q + 1, hlt, by go_num, _, HFS'.out, F1.out, F2.out, F3.out, F4.out, F5.out⟩
                case measure => simp [intOf]; omega
              · obtain rfl : q = j := by omega
                have b0 := hB.cell 0 rfl
                have b1 := hB.cell 1 rfl
                have f0 := hB.free 0
                have f1 := hB.free 1
                go_wp2_with fail
                have hS : Mod (fun t => t = g0) wr ((wr.setCell ⟨g0, 0, none⟩ (.slice (some ⟨g2, 0, none⟩) q q)).setCell ⟨g0, 1, none⟩ (.slice (some ⟨g1, 0, none⟩) (k + 1) (k + 1))) :=
                  (Mod.setCell (F := fun t => t = g0) wr ⟨g0, 0, none⟩ _ rfl).thenSet ⟨g0, 1, none⟩ _ (fun _ => rfl)
                have hg01 : g0 < g1 := by have := HG1.out; omega
                have hMM := hM.trans hS (H := fun _ => False) (fun _ _ e => e) (fun i hi e => by have := HG0.out; show False; omega)
                have hR2 := Own.keep hO2 hS (fun t ht e => by
                  have e1 : g2 = t := Option.some.inj ht
                  omega)
                have hR1 := Own.keep hO1 hS (fun t ht e => by
                  have e1 : g1 = t := Option.some.inj ht
                  omega)
                have hlt2 := (hR2.lt g2 rfl).2
                have hlt1 := (hR1.lt g1 rfl).2
                have b2 := (hB.set 0 (.slice (some ⟨g2, 0, none⟩) q q)).set 1 (.slice (some ⟨g1, 0, none⟩) (k + 1) (k + 1))
                (try simp only [Exit.inBlock, Exit.then])
                refine bodyPost_ret (results_cell_row rfl _ _ g0 85 #[.slice (some ⟨g2, 0, none⟩) q q, .slice (some ⟨g1, 0, none⟩) (k + 1) (k + 1)] (0, 0) _ rfl b2 Try.underlying85 rfl (by kernel_rfl)) rfl ?_
                refine ⟨some ⟨g2, 0, none⟩, q, some ⟨g1, 0, none⟩, k + 1, rfl, ⟨A, tab k (fun i => (belowI ks i : Int)), by rw [hFA.1, HKL.out], tab_len _ _, rfl, HKL.out.symm, Rd.ofOwn hR2, Rd.ofOwn hR1, fun t ht => ⟨belowI ks t, belowI ks ((t : Int) + 1), ?_, ?_, ?_, ?_, ?_⟩⟩, ?_, ?_, hMM⟩
                · rw [tab_at]
                · rw [tab_at]; rfl
                · exact below_le (by omega)
                · have := below_bound ks ((t : Int) + 1); rw [HKL.out] at this; exact this
                · rw [← HKL.out] at hFA
                  exact filled_row hFA ht
                · intro t ht
                  have e1 : g2 = t := Option.some.inj ht
                  have := HG0.out
                  exact ⟨by omega, by omega⟩
                · intro t ht
                  have e1 : g1 = t := Option.some.inj ht
                  have := HG0.out
                  exact ⟨by omega, by omega⟩
end Go.Proofs.Ytbjdjafkpldbnaa
namespace Go.Proofs.Ytbjdjafkpldbnaa
open Go.RowKit Mile
set_option maxRecDepth 100000

set_option maxHeartbeats 4000000 in
theorem rows_end (w : World) (N : Nat) (a : Option Addr) (n c : Nat) (E : List P3) (hn : E.length = n) (hr : Rd w 3 (.slice a n c) n (E.flatMap c3)) (hN : N ≤ 256) (hnE : n ≤ 512) (ks : List Int) (hksd : E.map (·.2.1) = ks) (hks : KeysOk ks N) :
    Calls Try.prog 39 #[.int .i64 N, .slice a n c, .func (.func 41) #[] #[]] w (RowsP ks N n w) := by
  obtain ⟨i3, hi3, hz3, hs3, hb3⟩ := info_parts GR.infoI
  obtain ⟨iE, hiE, hzE, hsE, hbE⟩ := info_parts GR.infoE
  have HN := Lib.hid hn
  clear hn
  have hmk : ∀ wx, (Instr.makeSlice 22 (.int .i64 ((N : Int) + 1)) (.int .i64 ((N : Int) + 1))).run Try.prog wx = .ok (.slice (some ⟨wx.heap.size, 0, none⟩) (N + 1) (N + 1)) (wx.alloc (.cells (zrow (.int .i64 0) (N + 1)) 3)) := fun wx => by
    have := run_makeS (P := Try.prog) 22 3 i3 (.int .i64 0) Try.underlying22 hi3 hz3 rfl hs3 (N + 1) (by rw [hb3]; omega) (by omega) wx
    rwa [show ((N + 1 : Nat) : Int) = (N : Int) + 1 by omega] at this
  go_enter Try.func39, Try.ntmps39
  go_wp2_with fail
  have hkl : ks.length = n := by rw [← hksd, List.length_map, HN.out]
  have hkat : ∀ j (hj : j < E.length), ks.getD j (-1) = E[j].2.1 := fun j hj => by rw [← hksd]; simp [List.getD, hj]
  have HKL := Lib.hid hkl
  have HKAT := Lib.hid hkat
  have HKS := Lib.hid hks
  clear hkl hkat hks hksd
  have ho1 := own_zrow (w.alloc (.cells #[.slice none 0 0, .slice none 0 0] 85)) 3 (.int .i64 0) (N + 1) (w.heap.size + 1) (by simp) (by omega)
  rw [show List.replicate (N + 1) (Value.int .i64 0) = (tab N (cntF ks 0)).map (Value.int .i64) by rw [cnt_zero, List.map_replicate]] at ho1
  have hb1 : Blk ((w.alloc (.cells #[.slice none 0 0, .slice none 0 0] 85)).alloc (.cells (zrow (.int .i64 0) (N + 1)) 3)) w.heap.size 85 [.slice none 0 0, .slice none 0 0] := (Blk.new w 85 [.slice none 0 0, .slice none 0 0]).alloc _
  have hM1 : Mod (fun _ => False) w ((w.alloc (.cells #[.slice none 0 0, .slice none 0 0] 85)).alloc (.cells (zrow (.int .i64 0) (N + 1)) 3)) := ((Mod.refl _ w).thenAlloc _).thenAlloc _
  obtain ⟨g0, hg0⟩ : ∃ g, w.heap.size = g := ⟨_, rfl⟩
  rw [hg0] at hb1 ho1 ⊢
  obtain ⟨g1, hg1⟩ : ∃ g, g0 + 1 = g := ⟨_, rfl⟩
  rw [hg1] at ho1 ⊢
  have HG0 := Lib.hid hg0
  have HG1 := Lib.hid hg1
  clear hg0 hg1 hmk
  go_loopw [9, 21] (fun _ i wr => ∃ j : Nat, j ≤ n ∧ i = .int .i64 j ∧ wr.ownsRow 0 3 1 (.slice (some ⟨g1, 0, none⟩) (N + 1) (N + 1)) (N + 1) ((tab N (cntF ks j)).map (Value.int .i64)) ∧ Blk wr g0 85 [.slice none 0 0, .slice none 0 0] ∧ Mod (fun _ => False) w wr) (fun _ i _ => n - (intOf i).toNat)
  case atStart => exact ⟨0, by omega, rfl, ho1, hb1, hM1⟩
  case round =>
    clear ho1 hb1 hM1
    obtain ⟨j, hj, rfl, hO, hB, hM⟩ := hrel
    by_cases hlt : j < n
    · have hjl : j < E.length := by rw [HN.out]; exact hlt
      obtain ⟨b, o, hpl, e1, e2, e3⟩ := rd3 (hr.keepA hM (fun _ _ e => e.elim)) j hjl
      have hix := fun wx => run_indexS (P := Try.prog) wx 25 43 iE 3 Try.underlying25 hiE hsE a n c j hlt (hr.some_ (by omega))
      rw [hpl] at hix
      have hkj := HKAT.out j hjl
      have hkr := HKS.out j (by rw [HKL.out]; exact hlt)
      rw [hkj] at hkr
      obtain ⟨x, hx⟩ : ∃ x, E[j] = x := ⟨_, rfl⟩
      rw [hx] at e1 e2 e3 hkj hkr
      clear hx hpl
      obtain ⟨x1, x2, x3⟩ := x
      simp only at e1 e2 e3 hkj hkr
      obtain ⟨k, rfl⟩ := Int.eq_ofNat_of_zero_le hkr.1
      have hkN : k < N := by omega
      have HKJ := Lib.hid hkj
      clear hkj hkr
      have ltb : b < wr.heap.size := World.block_lt_of_cell? _ _ e1
      have hcc : (k : Int) + 1 = ((k + 1 : Nat) : Int) := by omega
      obtain ⟨kk, hkk⟩ : ∃ kk, k + 1 = kk := ⟨_, rfl⟩
      rw [hkk] at hcc
      have hkk1 : kk < N + 1 := by omega
      have hA := Mod.alloc (fun _ => False) wr (.cells #[.int .i64 x1, .int .i64 (k : Int), .int .i64 x3] 43)
      go_wp2_with fail
      refine (end_any (x1, (k : Int), x3) _).mono ?_
      rintro e w1 ⟨rfl, hM1⟩
      have hMA := hA.trans hM1 (H := fun _ => False) (fun _ _ e => e) (fun _ _ e => e)
      have hO1 := Own.keep hO hMA (fun _ _ e => e)
      have hB1 := hB.keep hMA (fun e => e)
      have hMW := hM.trans hMA (H := fun _ => False) (fun _ _ e => e) (fun _ _ e => e)
      have hg1w : g0 < g1 := by have := HG1.out; omega
      have htl := tab_len N (cntF ks j)
      have hval : (tab N (cntF ks j))[kk]'(by omega) = ((idxI ks j k).length : Int) := by
        rw [tab_at]
        unfold cntF
        rw [if_neg (by omega), show ((kk : Nat) : Int) - 1 = (k : Int) by omega]
      have hvle := idxI_le ks j k
      have hst := hO1.stored kk (.int .i64 ((idxI ks j k).length + 1))
      have hset : Hid (((tab N (cntF ks j)).map (Value.int .i64)).set kk (.int .i64 ((idxI ks j k).length + 1)) = (tab N (cntF ks (j + 1))).map (Value.int .i64)) := Lib.hid (by
        rw [← cnt_step (N := N) HKJ.out, List.map_set, hkk]
        congr 2
        unfold cntF
        rw [if_neg (by omega), show ((kk : Nat) : Int) - 1 = (k : Int) by omega])
      have c1 : w1.cell? ⟨g1, kk, none⟩ = some (.int .i64 (idxI ks j k).length) := by rw [hO1.cellAt kk (by omega)]; simp [htl, hkk1, ← hval]
      have c2 := hO1.frozenAt kk
      obtain ⟨m, hm⟩ : ∃ m, (idxI ks j k).length = m := ⟨_, rfl⟩
      rw [hm] at c1 hst hset hvle
      have hst1 := Lib.hid hst.1
      have hst2 := Lib.hid (hMW.trans (Mod.ofGrown hst.2) (H := fun _ => False) (fun _ _ e => e) (fun i hi e => by
        have e1 : g1 = i := Option.some.inj e
        have := HG0.out
        omega))
      have hst3 := Lib.hid (hB1.setOther ⟨g1, kk, none⟩ (.int .i64 ((m : Int) + 1)) (by show g0 ≠ g1; omega))
      clear hst hval htl hO hB hM hM1 hMA hO1 hB1 hMW hA e1 e2 e3 hix hm
      go_wp2_with fail
      go_roundw
      case rel => exact ⟨j + 1, hlt, by go_num, by rw [← hset.out]; exact hst1.out, hst3.out, hst2.out⟩
      case measure => simp [intOf]; omega
    · obtain rfl : j = n := by omega
      rw [show tab N (cntF ks j) = tab N (sumF ks 0) by rw [← HKL.out]; exact sum_start HKS.out] at hO
      have hM' := hM
      go_wp2_with fail
      go_loopw [10, 36] (fun _ i wr => ∃ k : Nat, k ≤ N ∧ i = .int .i64 k ∧ wr.ownsRow 0 3 1 (.slice (some ⟨g1, 0, none⟩) (N + 1) (N + 1)) (N + 1) ((tab N (sumF ks k)).map (Value.int .i64)) ∧ Blk wr g0 85 [.slice none 0 0, .slice none 0 0] ∧ Mod (fun _ => False) w wr) (fun _ i _ => N - (intOf i).toNat)
      case atStart => exact ⟨0, by omega, rfl, hO, hB, hM⟩
      case round =>
        clear hO hB hM hM'
        obtain ⟨k, hk, rfl, hO, hB, hM⟩ := hrel
        by_cases hlt : k < N
        · have hcc : (k : Int) + 1 = ((k + 1 : Nat) : Int) := by omega
          have hss := @sum_step N ks k
          obtain ⟨kk, hkk⟩ : ∃ kk, k + 1 = kk := ⟨_, rfl⟩
          rw [hkk] at hcc hss
          have hkk1 : kk < N + 1 := by omega
          have htl := tab_len N (sumF ks k)
          have hg1w : g0 < g1 := by have := HG1.out; omega
          have hv0 : sumF ks k k = (belowI ks k : Int) := by unfold sumF; rw [if_pos (Nat.le_refl _)]
          have hv1 : sumF ks k kk = ((idxI ks j k).length : Int) := by
            unfold sumF cntF
            rw [if_neg (by omega), if_neg (by omega), show ((kk : Nat) : Int) - 1 = (k : Int) by omega, HKL.out]
          have hb0 := below_bound ks k
          rw [HKL.out] at hb0
          have hb1 := idxI_le ks j k
          obtain ⟨m0, hm0⟩ : ∃ m, belowI ks k = m := ⟨_, rfl⟩
          obtain ⟨m1, hm1⟩ : ∃ m, (idxI ks j k).length = m := ⟨_, rfl⟩
          rw [hm0] at hv0 hb0
          rw [hm1] at hv1 hb1
          rw [hv0, hv1] at hss
          have c1 : wr.cell? ⟨g1, kk, none⟩ = some (.int .i64 m1) := by rw [hO.cellAt kk (by omega)]; simp [htl, hkk1, tab_at, hv1]
          have c0 : wr.cell? ⟨g1, k, none⟩ = some (.int .i64 m0) := by rw [hO.cellAt k (by omega)]; simp [htl, show k < N + 1 by omega, tab_at, hv0]
          have c2 := hO.frozenAt kk
          have hst := hO.stored kk (.int .i64 ((m1 : Int) + m0))
          rw [← List.map_set, hss] at hst
          have hst1 := Lib.hid hst.1
          have hst2 := Lib.hid (hM.trans (Mod.ofGrown hst.2) (H := fun _ => False) (fun _ _ e => e) (fun i hi e => by
            have e1 : g1 = i := Option.some.inj e
            have := HG0.out
            omega))
          have hst3 := Lib.hid (hB.setOther ⟨g1, kk, none⟩ (.int .i64 ((m1 : Int) + m0)) (by show g0 ≠ g1; omega))
          clear hst htl hv0 hv1 hss hO hB hM hm0 hm1
          go_wp2_with fail
          go_region
          go_wp2
          go_roundw
          case rel => exact ⟨kk, hkk1 |> Nat.le_of_lt_succ, by go_num, hst1.out.drew, hst3.out.drew, hst2.out.thenDrew⟩
          case measure => simp [intOf]; omega
        · obtain rfl : k = N := by omega
          rw [sum_end ks] at hO
          obtain ⟨fs, hfs⟩ : ∃ fs, tab k (fun i => (belowI ks i : Int)) = fs := ⟨_, rfl⟩
          have hfl : fs.length = k + 1 := by rw [← hfs]; exact tab_len _ _
          rw [hfs] at hO
          have HFS := Lib.hid hfs
          have HFL := Lib.hid hfl
          have hlt1 : g1 < wr.heap.size := (hO.lt g1 rfl).2
          clear hfs hfl
          have hmk : ∀ wx, (Instr.makeSlice 22 (.int .i64 (j : Int)) (.int .i64 (j : Int))).run Try.prog wx = .ok (.slice (some ⟨wx.heap.size, 0, none⟩) j j) (wx.alloc (.cells (zrow (.int .i64 0) j) 3)) := fun wx =>
            run_makeS (P := Try.prog) 22 3 i3 (.int .i64 0) Try.underlying22 hi3 hz3 rfl hs3 j (by rw [hb3]; omega) (by omega) wx
          have HRF : Hid (∀ W, Mod (fun _ => False) wr W → Rd W 1 (.slice (some ⟨g1, 0, none⟩) (k + 1) (k + 1)) (k + 1) (fs.map (Value.int .i64))) := Lib.hid fun W hm => (Rd.ofOwn hO).keepA hm (fun _ _ e => e.elim)
          go_upto_region 12 with fail
          go_cut [11, 12] (fun s t wx => Made w k j g0 g1 fs s t wx)
          case first =>
            go_region_with (first | (go_at_call 65; refine (cloneI_any _ (some ⟨g1, 0, none⟩) (k + 1) (k + 1) fs HFL.out (HRF.out _ (by first | exact Mod.drew _ _ | exact (Mod.drew _ _).thenAlloc _ | exact (Mod.alloc _ _ _).thenDrew)) (by omega)).mono ?_; rintro e w1 ⟨a3, c3, rfl, hF3, hM3⟩))
            all_goals (go_wp2_with fail; go_meet; first | exact Made.tail (wr := wr.drew) hO.drew hB.drew hM.thenDrew hM3 hF3 (Nat.le_refl _) (by omega) | exact Made.head (wr := wr.drew) hO.drew hB.drew hM.thenDrew hM3 hF3 (by simp) (by omega))
          case rest =>
            clear hO hB hM hlt1 HRF hmk
            obtain ⟨g2, g3, d3, rfl, rfl, hO2, hO3, hO1, hB, hM, hg12, hg13, hg23⟩ := hcut
            rw [← HFS.out] at hO1 hO3
            rw [next_start ks] at hO3
            have hfl0 := filled_zero (ks := ks) (N := k) (A := List.replicate j (0 : Int)) (by rw [List.length_replicate, HKL.out])
            have hF0 : Fill w ks k j g0 g1 g2 g3 d3 0 wc := ⟨_, hfl0, hO2, hO3, hO1, hB, hM⟩
            clear hO2 hO3 hO1 hB hM hfl0
            go_wp2_with fail
            go_loopw [13, 14, 15, 58] (fun _ _ _ i wr => ∃ q : Nat, q ≤ j ∧ i = .int .i64 q ∧ Fill w ks k j g0 g1 g2 g3 d3 q wr) (fun _ _ _ i _ => j - (intOf i).toNat)
            case atStart => exact ⟨0, by omega, rfl, hF0⟩
            case round =>
              clear hF0
              obtain ⟨q, hq, rfl, A, hFA, hO2, hO3, hO1, hB, hM⟩ := hrel
              by_cases hlt : q < j
              · have hjl : q < E.length := by rw [HN.out]; exact hlt
                obtain ⟨b, o, hpl, e1, e2, e3⟩ := rd3 (hr.keepA hM (fun _ _ e => e.elim)) q hjl
                have hix := fun wx => run_indexS (P := Try.prog) wx 25 43 iE 3 Try.underlying25 hiE hsE a j c q hlt (hr.some_ (by omega))
                rw [hpl] at hix
                have hkj := HKAT.out q hjl
                have hkr := HKS.out q (by rw [HKL.out]; exact hlt)
                rw [hkj] at hkr
                obtain ⟨x, hx⟩ : ∃ x, E[q] = x := ⟨_, rfl⟩
                rw [hx] at e1 e2 e3 hkj hkr
                clear hx hpl
                obtain ⟨x1, x2, x3⟩ := x
                simp only at e1 e2 e3 hkj hkr
                obtain ⟨v, rfl⟩ := Int.eq_ofNat_of_zero_le hkr.1
                have hvN : v < k := by omega
                have hpos := next_lt (by rw [HKL.out]; exact hlt) hkj
                have hfs' := filled_step hFA (by rw [HKL.out]; exact hlt) hkj
                have hns' := @next_step k ks q v hkj
                have hnv : nextF ks q v = ((belowI ks v + (idxI ks q v).length : Nat) : Int) := by unfold nextF; omega
                rw [HKL.out] at hpos
                obtain ⟨pos, hpd⟩ : ∃ p, belowI ks v + (idxI ks q v).length = p := ⟨_, rfl⟩
                rw [hpd] at hpos hfs' hnv
                rw [hnv] at hns'
                have HKJ := Lib.hid hkj
                have HFS' := Lib.hid hfs'
                clear hkj hkr hpd hfs'
                have ltb : b < wr.heap.size := World.block_lt_of_cell? _ _ e1
                have hA := Mod.alloc (fun _ => False) wr (.cells #[.int .i64 x1, .int .i64 (v : Int), .int .i64 x3] 43)
                go_wp2_with fail
                refine (end_any (x1, (v : Int), x3) _).mono ?_
                rintro e w1 ⟨rfl, hM1⟩
                have hMA := hA.trans hM1 (H := fun _ => False) (fun _ _ e => e) (fun _ _ e => e)
                have hP2 := Own.keep hO2 hMA (fun _ _ e => e)
                have hP3 := Own.keep hO3 hMA (fun _ _ e => e)
                have hP1 := Own.keep hO1 hMA (fun _ _ e => e)
                have hPB := hB.keep hMA (fun e => e)
                have hMW := hM.trans hMA (H := fun _ => False) (fun _ _ e => e) (fun _ _ e => e)
                have htl := tab_len k (nextF ks q)
                have c3 : w1.cell? ⟨g3, v, none⟩ = some (.int .i64 pos) := by rw [hP3.cellAt v (by omega)]; simp [htl, show v < k + 1 by omega, tab_at, hnv]
                have d2 := hP2.frozenAt pos
                have hAl : A.length = j := by rw [hFA.1, HKL.out]
                have c2 : w1.cell? ⟨g2, pos, none⟩ = some (.int .i64 (A[pos]'(by omega))) := by rw [hP2.cellAt pos (by omega)]; simp [hAl, hpos]
                obtain ⟨av, hav⟩ : ∃ av, (A[pos]'(by omega)) = av := ⟨_, rfl⟩
                rw [hav] at c2
                clear hav
                have hst := hP2.stored pos (.int .i64 q)
                have hG := Mod.ofGrown hst.2
                have n21 : ∀ t, (Value.slice (some ⟨g1, 0, none⟩) (k + 1) (k + 1)).ownBlock = some t → ¬ some g2 = some t := fun t ht e => by
                  have e1 : g1 = g2 := Option.some.inj (ht.trans e.symm)
                  omega
                have n23 : ∀ t, (Value.slice (some ⟨g3, 0, none⟩) (k + 1) d3).ownBlock = some t → ¬ some g2 = some t := fun t ht e => hg23 (Option.some.inj (ht.trans e.symm)).symm
                have n31 : ∀ t, (Value.slice (some ⟨g1, 0, none⟩) (k + 1) (k + 1)).ownBlock = some t → ¬ some g3 = some t := fun t ht e => by
                  have e1 : g1 = g3 := Option.some.inj (ht.trans e.symm)
                  omega
                have n32 : ∀ t, (Value.slice (some ⟨g2, 0, none⟩) j j).ownBlock = some t → ¬ some g3 = some t := fun t ht e => hg23 (Option.some.inj (ht.trans e.symm))
                have hg01 : g0 < g1 := by have := HG1.out; omega
                have hQ3 := Own.keep hP3 hG n23
                have c4 := hQ3.cellAt v (by omega)
                have c5 : (w1.setCell ⟨g2, pos, none⟩ (.int .i64 q)).cell? ⟨g3, v, none⟩ = some (.int .i64 pos) := by rw [c4]; simp [htl, show v < k + 1 by omega, tab_at, hnv]
                have d3' := hQ3.frozenAt v
                have hst' := hQ3.stored v (.int .i64 ((pos : Int) + 1))
                have hG' := Mod.ofGrown hst'.2
                rw [← List.map_set] at hst
                rw [← List.map_set, hns'] at hst'
                have F1 := Lib.hid (Own.keep hst.1 hG' n32)
                have F2 := Lib.hid hst'.1
                have F3 := Lib.hid (Own.keep (Own.keep hP1 hG n21) hG' n31)
                have F4 := Lib.hid ((hPB.setOther ⟨g2, pos, none⟩ (.int .i64 q) (by show g0 ≠ g2; omega)).setOther ⟨g3, v, none⟩ (.int .i64 ((pos : Int) + 1)) (by show g0 ≠ g3; omega))
                have F5 := Lib.hid ((hMW.trans hG (H := fun _ => False) (fun _ _ e => e) (fun i hi e => by
                  have e1 : g2 = i := Option.some.inj e
                  have := HG0.out
                  omega)).trans hG' (H := fun _ => False) (fun _ _ e => e) (fun i hi e => by
                  have e1 : g3 = i := Option.some.inj e
                  have := HG0.out
                  omega))
                have HNE := Lib.hid hg23
                clear hst hst' hG hG' n21 n23 n31 n32 hP2 hP3 hP1 hPB hMW hQ3 c4 hMA hA hM1 hO2 hO3 hO1 hB hM hFA htl hns' hnv e1 e2 e3 hix
                go_wp2_with fail
                go_roundw
                case rel => exact ⟨q + 1, hlt, by go_num, _, HFS'.out, F1.out, F2.out, F3.out, F4.out, F5.out⟩
                case measure => simp [intOf]; omega
              · obtain rfl : q = j := by omega
                have b0 := hB.cell 0 rfl
                have b1 := hB.cell 1 rfl
                have f0 := hB.free 0
                have f1 := hB.free 1
                go_wp2_with fail
                have hS : Mod (fun t => t = g0) wr ((wr.setCell ⟨g0, 0, none⟩ (.slice (some ⟨g2, 0, none⟩) q q)).setCell ⟨g0, 1, none⟩ (.slice (some ⟨g1, 0, none⟩) (k + 1) (k + 1))) :=
                  (Mod.setCell (F := fun t => t = g0) wr ⟨g0, 0, none⟩ _ rfl).thenSet ⟨g0, 1, none⟩ _ (fun _ => rfl)
                have hg01 : g0 < g1 := by have := HG1.out; omega
                have hMM := hM.trans hS (H := fun _ => False) (fun _ _ e => e) (fun i hi e => by have := HG0.out; show False; omega)
                have hR2 := Own.keep hO2 hS (fun t ht e => by
                  have e1 : g2 = t := Option.some.inj ht
                  omega)
                have hR1 := Own.keep hO1 hS (fun t ht e => by
                  have e1 : g1 = t := Option.some.inj ht
                  omega)
                have hlt2 := (hR2.lt g2 rfl).2
                have hlt1 := (hR1.lt g1 rfl).2
                have b2 := (hB.set 0 (.slice (some ⟨g2, 0, none⟩) q q)).set 1 (.slice (some ⟨g1, 0, none⟩) (k + 1) (k + 1))
                (try simp only [Exit.inBlock, Exit.then])
                refine bodyPost_ret (results_cell_row rfl _ _ g0 85 #[.slice (some ⟨g2, 0, none⟩) q q, .slice (some ⟨g1, 0, none⟩) (k + 1) (k + 1)] (0, 0) _ rfl b2 Try.underlying85 rfl (by kernel_rfl)) rfl ?_
                refine ⟨some ⟨g2, 0, none⟩, q, some ⟨g1, 0, none⟩, k + 1, rfl, ⟨A, tab k (fun i => (belowI ks i : Int)), by rw [hFA.1, HKL.out], tab_len _ _, rfl, HKL.out.symm, Rd.ofOwn hR2, Rd.ofOwn hR1, fun t ht => ⟨belowI ks t, belowI ks ((t : Int) + 1), ?_, ?_, ?_, ?_, ?_⟩⟩, ?_, ?_, hMM⟩
                · rw [tab_at]
                · rw [tab_at]; rfl
                · exact below_le (by omega)
                · have := below_bound ks ((t : Int) + 1); rw [HKL.out] at this; exact this
                · rw [← HKL.out] at hFA
                  exact filled_row hFA ht
                · intro t ht
                  have e1 : g2 = t := Option.some.inj ht
                  have := HG0.out
                  exact ⟨by omega, by omega⟩
                · intro t ht
                  have e1 : g1 = t := Option.some.inj ht
                  have := HG0.out
                  exact ⟨by omega, by omega⟩
end Go.Proofs.Ytbjdjafkpldbnaa
namespace Mile
open Go Go.RowKit
theorem keys_start {G : GD} (h : May G) : KeysOk (G.E.map (·.1)) G.N.length := by
  intro i hi
  rw [List.length_map] at hi
  have := (h.2.2.1 G.E[i] (List.getElem_mem hi)).1
  simpa [List.getD, List.getElem?_map, hi] using this
theorem keys_end {G : GD} (h : May G) : KeysOk (G.E.map (·.2.1)) G.N.length := by
  intro i hi
  rw [List.length_map] at hi
  have := (h.2.2.1 G.E[i] (List.getElem_mem hi)).2.1
  simpa [List.getD, List.getElem?_map, hi] using this
end Mile
namespace Go.Proofs.Ytbjdjafkpldbnaa
open Go.RowKit Mile

theorem inB_mono {B B' C : Nat} {v : Value} (h : InB B C v) (hB : B' ≤ B) : InB B' C v := fun k hk => ⟨by have := (h k hk).1; omega, (h k hk).2⟩
theorem inB_wide {B C C' : Nat} {v : Value} (h : InB B C v) (hC : C ≤ C') : InB B C' v := fun k hk => ⟨(h k hk).1, by have := (h k hk).2; omega⟩
/-- The rows of all nodes, in new memory. -/
def NewRows (B N n : Nat) (ks : List Int) : Value → World → Prop := fun v W => ∃ a c b d, v = .agg #[.slice a n c, .slice b (N + 1) d] ∧ RowD W a n c b (N + 1) d N ks ∧ InB B W.heap.size (.slice a n c) ∧ InB B W.heap.size (.slice b (N + 1) d)
theorem newRows_stays {B N n : Nat} {ks : List Int} : ∀ v w w', NewRows B N n ks v w → Mod (fun _ => False) w w' → NewRows B N n ks v w' := by
  rintro v w w' ⟨a, c, b, d, rfl, h1, h2, h3⟩ hm
  exact ⟨a, c, b, d, rfl, h1.keep hm (fun _ _ e => e) (fun _ _ e => e), inB_wide h2 hm.size, inB_wide h3 hm.size⟩
theorem newGraph_stays {B n1 n2 n3 : Nat} {G : GD} : ∀ v w w', NewGraph B n1 n2 n3 G v w → Mod (fun _ => False) w w' → NewGraph B n1 n2 n3 G v w' := by
  rintro v w w' ⟨x1, z1, x2, z2, x3, z3, rfl, h1, h2, h3⟩ hm
  exact ⟨x1, z1, x2, z2, x3, z3, rfl, Own.keep h1 hm (fun _ _ e => e), Own.keep h2 hm (fun _ _ e => e), Own.keep h3 hm (fun _ _ e => e)⟩
theorem newGraph_base {B B' n1 n2 n3 : Nat} {G : GD} {v : Value} {w : World} (h : NewGraph B n1 n2 n3 G v w) (hB : B' ≤ B) : NewGraph B' n1 n2 n3 G v w := by
  obtain ⟨x1, z1, x2, z2, x3, z3, rfl, h1, h2, h3⟩ := h
  exact ⟨x1, z1, x2, z2, x3, z3, rfl, Own.base h1 hB, Own.base h2 hB, Own.base h3 hB⟩
def NewBody (B n1 n2 n3 : Nat) (G : GD) : Value → World → Prop := fun v W => ∃ x1 z1 x2 z2 x3 z3 x4 z4 x5 z5 x6 z6 x7 z7, v = .agg #[.slice x1 n1 z1, .slice x2 n2 z2, .slice x3 n3 z3, .slice x4 n2 z4, .slice x5 (n1 + 1) z5, .slice x6 n2 z6, .slice x7 (n1 + 1) z7] ∧
  W.ownsRow B 78 2 (.slice x1 n1 z1) n1 (G.N.flatMap c2) ∧ W.ownsRow B 43 3 (.slice x2 n2 z2) n2 (G.E.flatMap c3) ∧ W.ownsRow B 81 2 (.slice x3 n3 z3) n3 (G.B.flatMap c2) ∧
  (RowD W x4 n2 z4 x5 (n1 + 1) z5 n1 (G.E.map (·.1)) ∧ InB B W.heap.size (.slice x4 n2 z4) ∧ InB B W.heap.size (.slice x5 (n1 + 1) z5)) ∧ (RowD W x6 n2 z6 x7 (n1 + 1) z7 n1 (G.E.map (·.2.1)) ∧ InB B W.heap.size (.slice x6 n2 z6) ∧ InB B W.heap.size (.slice x7 (n1 + 1) z7))
theorem newBody_stays {B n1 n2 n3 : Nat} {G : GD} : ∀ v w w', NewBody B n1 n2 n3 G v w → Mod (fun _ => False) w w' → NewBody B n1 n2 n3 G v w' := by
  rintro v w w' ⟨x1, z1, x2, z2, x3, z3, x4, z4, x5, z5, x6, z6, x7, z7, rfl, h1, h2, h3, ⟨r1, i1, i2⟩, r2, i3, i4⟩ hm
  exact ⟨x1, z1, x2, z2, x3, z3, x4, z4, x5, z5, x6, z6, x7, z7, rfl, Own.keep h1 hm (fun _ _ e => e), Own.keep h2 hm (fun _ _ e => e), Own.keep h3 hm (fun _ _ e => e),
    ⟨r1.keep hm (fun _ _ e => e) (fun _ _ e => e), inB_wide i1 hm.size, inB_wide i2 hm.size⟩, r2.keep hm (fun _ _ e => e) (fun _ _ e => e), inB_wide i3 hm.size, inB_wide i4 hm.size⟩
/-- A graph of the call's own, in blocks from B on. -/
def NewObj (B : Nat) (G : GD) : Value → World → Prop := fun v W => ∃ p C, v = .pointer (some ⟨p, 0, none⟩) ∧ GO W p B C G
theorem newObj_stays {B : Nat} {G : GD} : ∀ v w w', NewObj B G v w → Mod (fun _ => False) w w' → NewObj B G v w' := by
  rintro v w w' ⟨p, C, rfl, h⟩ hm
  exact ⟨p, C, rfl, h.keep hm (fun _ _ _ e => e)⟩
theorem GO.base {w : World} {p B B' C : Nat} {G : GD} (h : GO w p B C G) (hB : B' ≤ B) : GO w p B' C G := by
  obtain ⟨⟨a1, n1, d1, a2, n2, d2, a3, n3, d3, a4, n4, d4, a5, n5, d5, a6, n6, d6, a7, n7, d7, hb, hv, ho, hi, b1, b2, b3, b4, b5, b6, b7⟩, hat, hmay, hlt⟩ := h
  exact ⟨⟨a1, n1, d1, a2, n2, d2, a3, n3, d3, a4, n4, d4, a5, n5, d5, a6, n6, d6, a7, n7, d7, hb, hv, ho, hi, inB_mono b1 hB, inB_mono b2 hB, inB_mono b3 hB, inB_mono b4 hB, inB_mono b5 hB, inB_mono b6 hB, inB_mono b7 hB⟩, ⟨by omega, hat.2⟩, hmay, hlt⟩
theorem GO.wide {w : World} {p B C : Nat} {G : GD} (h : GO w p B C G) : GO w p B w.heap.size G := by
  obtain ⟨⟨a1, n1, d1, a2, n2, d2, a3, n3, d3, a4, n4, d4, a5, n5, d5, a6, n6, d6, a7, n7, d7, hb, hv, ho, hi, b1, b2, b3, b4, b5, b6, b7⟩, hat, hmay, hlt⟩ := h
  exact ⟨⟨a1, n1, d1, a2, n2, d2, a3, n3, d3, a4, n4, d4, a5, n5, d5, a6, n6, d6, a7, n7, d7, hb, hv, ho, hi, inB_wide b1 hlt, inB_wide b2 hlt, inB_wide b3 hlt, inB_wide b4 hlt, inB_wide b5 hlt, inB_wide b6 hlt, inB_wide b7 hlt⟩, ⟨hat.1, by omega⟩, hmay, Nat.le_refl _⟩
theorem newObj_of {B n1 n2 n3 : Nat} {G : GD} {W : World} {x1 : Option Addr} {z1 : Nat} {x2 : Option Addr} {z2 : Nat} {x3 : Option Addr} {z3 : Nat} {x4 : Option Addr} {z4 : Nat} {x5 : Option Addr} {z5 : Nat} {x6 : Option Addr} {z6 : Nat} {x7 : Option Addr} {z7 : Nat} (hn : G.N.length = n1) (he : G.E.length = n2) (hb : G.B.length = n3) (hm : May G) (hB : B ≤ W.heap.size)
    (h : W.ownsRow B 78 2 (.slice x1 n1 z1) n1 (G.N.flatMap c2) ∧ W.ownsRow B 43 3 (.slice x2 n2 z2) n2 (G.E.flatMap c3) ∧ W.ownsRow B 81 2 (.slice x3 n3 z3) n3 (G.B.flatMap c2) ∧
      (RowD W x4 n2 z4 x5 (n1 + 1) z5 n1 (G.E.map (·.1)) ∧ InB B W.heap.size (.slice x4 n2 z4) ∧ InB B W.heap.size (.slice x5 (n1 + 1) z5)) ∧ (RowD W x6 n2 z6 x7 (n1 + 1) z7 n1 (G.E.map (·.2.1)) ∧ InB B W.heap.size (.slice x6 n2 z6) ∧ InB B W.heap.size (.slice x7 (n1 + 1) z7))) :
    NewObj B G (.pointer (some ⟨W.heap.size, 0, none⟩)) (W.alloc (.cells #[.slice x1 n1 z1, .slice x2 n2 z2, .slice x3 n3 z3, .slice x4 n2 z4, .slice x5 (n1 + 1) z5, .slice x6 n2 z6, .slice x7 (n1 + 1) z7] 89)) := by
  obtain ⟨h1, h2, h3, ⟨r1, i1, i2⟩, r2, i3, i4⟩ := h
  have hA := Mod.alloc (fun _ => False) W (.cells #[.slice x1 n1 z1, .slice x2 n2 z2, .slice x3 n3 z3, .slice x4 n2 z4, .slice x5 (n1 + 1) z5, .slice x6 n2 z6, .slice x7 (n1 + 1) z7] 89)
  have hs := hA.size
  have i0 : ∀ {T : TypeId} {size n : Nat} {v : Value} {xs : List Value}, W.ownsRow B T size v n xs → InB B (W.heap.size + 1) v := fun h k hk => ⟨(World.ownsRow.lt h k hk).1, by have := (World.ownsRow.lt h k hk).2; omega⟩
  refine ⟨W.heap.size, W.heap.size + 1, rfl, ⟨x1, n1, z1, x2, n2, z2, x3, n3, z3, x4, n2, z4, x5, n1 + 1, z5, x6, n2, z6, x7, n1 + 1, z7, Blk.new W _ [.slice x1 n1 z1, .slice x2 n2 z2, .slice x3 n3 z3, .slice x4 n2 z4, .slice x5 (n1 + 1) z5, .slice x6 n2 z6, .slice x7 (n1 + 1) z7], ?_, ?_, ?_, i0 h1, i0 h2, i0 h3, inB_wide i1 (by omega), inB_wide i2 (by omega), inB_wide i3 (by omega), inB_wide i4 (by omega)⟩, ⟨hB, by omega⟩, hm, by simp⟩
  · exact ⟨hn, he, hb, (Rd.ofOwn h1).keepA hA (fun _ _ e => e.elim), (Rd.ofOwn h2).keepA hA (fun _ _ e => e.elim), (Rd.ofOwn h3).keepA hA (fun _ _ e => e.elim)⟩
  · rw [hn]; exact r1.keep hA (fun _ _ e => e) (fun _ _ e => e)
  · rw [hn]; exact r2.keep hA (fun _ _ e => e) (fun _ _ e => e)
/-- What each operation of the statement leaves. -/
def newr_F (B g : Nat) (a1 : Option Addr) (n1 u1 : Nat) (a2 : Option Addr) (n2 u2 : Nat) (a3 : Option Addr) (n3 u3 : Nat) (G : GD) : List (Value → World → Prop) :=
  [IsV (.agg #[.slice a1 n1 u1, .slice a2 n2 u2, .slice a3 n3 u3]),
   (NewGraph B n1 n2 n3 G),
   IsV (.int .i64 (n1 : Int)),
   IsV (.pointer (some ⟨g, 1, none⟩)),
   IsV (.slice a2 n2 u2),
   (NewRows B n1 n2 (G.E.map (·.1))),
   IsV (.int .i64 (n1 : Int)),
   IsV (.pointer (some ⟨g, 1, none⟩)),
   IsV (.slice a2 n2 u2),
   (NewRows B n1 n2 (G.E.map (·.2.1))),
   (NewBody B n1 n2 n3 G),
   (NewObj B G),
   (NewObj B G),
   IsV (.int .i64 0)]
def newr_D : List (List Nat) := [[], [0], [], [], [3], [2, 4], [], [], [7], [6, 8], [1, 5, 9], [10], [11], []]
end Go.Proofs.Ytbjdjafkpldbnaa
namespace Go.Proofs.Ytbjdjafkpldbnaa
open Go.RowKit Mile
set_option maxRecDepth 100000

/-- What New tells. -/
def NewP (G : GD) (w : World) (e : Ending) (w' : World) : Prop :=
  (May G ∧ ∃ p, e = .returned (.tuple #[.pointer (some ⟨p, 0, none⟩), .int .i64 0]) ∧ GO w' p w.heap.size w'.heap.size G ∧ Mod (fun _ => False) w w') ∨
  (¬ May G ∧ e = .returned (.tuple #[.pointer none, .int .i64 1]) ∧ Mod (fun _ => False) w w')

set_option maxHeartbeats 8000000 in
theorem new_any (G : GD) (w : World) (a1 : Option Addr) (n1 u1 : Nat) (a2 : Option Addr) (n2 u2 : Nat) (a3 : Option Addr) (n3 u3 : Nat) (h : GV w a1 n1 u1 a2 n2 u2 a3 n3 u3 G) :
    Calls Try.prog 20 #[.agg #[.slice a1 n1 u1, .slice a2 n2 u2, .slice a3 n3 u3]] w (NewP G w) := by
  have h0 := h.keep (Mod.alloc (fun _ => False) w (.cells #[.slice a1 n1 u1, .slice a2 n2 u2, .slice a3 n3 u3] 28))
  have hA0 := Mod.alloc (fun _ => False) w (.cells #[.slice a1 n1 u1, .slice a2 n2 u2, .slice a3 n3 u3] 28)
  obtain ⟨g, hg⟩ : ∃ g, w.heap.size = g := ⟨_, rfl⟩
  have hb0 : Blk (w.alloc (.cells #[.slice a1 n1 u1, .slice a2 n2 u2, .slice a3 n3 u3] 28)) g 28 [.slice a1 n1 u1, .slice a2 n2 u2, .slice a3 n3 u3] := by rw [← hg]; exact Blk.new w 28 [.slice a1 n1 u1, .slice a2 n2 u2, .slice a3 n3 u3]
  go_enter Try.func20, Try.ntmps20
  go_wp2_with fail
  have HG := Lib.hid hg
  clear hg
  obtain ⟨w0, hw0⟩ : ∃ w0, w.alloc (.cells #[.slice a1 n1 u1, .slice a2 n2 u2, .slice a3 n3 u3] 28) = w0 := ⟨_, rfl⟩
  rw [hw0] at h0 hA0 hb0 ⊢
  clear hw0
  refine (fits_any G _ a1 n1 u1 a2 n2 u2 a3 n3 u3 h0).mono ?_
  rintro e w1 ⟨r, rfl, hr, hM1⟩
  have HR := Lib.hid hr
  clear hr
  have h1 := h0.keep hM1
  have hb1 := hb0.keep hM1 (fun e => e)
  have hMM := hA0.trans hM1 (H := fun _ => False) (fun _ _ e => e) (fun _ _ e => e)
  have c0 := hb1.cell 0 rfl
  have c1 := hb1.cell 1 rfl
  have c2 := hb1.cell 2 rfl
  cases r with
  | false =>
    have HM := Lib.hid hMM
    clear h h0 h1 hb0 hb1 hA0 hM1 hMM
    go_wp2_with fail
    go_ret2
    exact Or.inr ⟨fun hm => (by have := HR.out.2 hm; cases this), rfl, HM.out⟩
  | true =>
    have hm := HR.out.1 rfl
    obtain ⟨⟨hm0, hm1⟩, hm2, hm3⟩ := hm.1
    have hk1 := keys_start hm
    have hk2 := keys_end hm
    rw [h.n] at hm0 hm1 hk1 hk2
    rw [h.e] at hm2
    rw [h.b] at hm3
    have HN := Lib.hid h.n
    have HE := Lib.hid h.e
    have HK1 := Lib.hid hk1
    have HK2 := Lib.hid hk2
    have HM0 := Lib.hid hm
    have HV : Hid (∀ W, Mod (fun _ => False) w1 W → GV W a1 n1 u1 a2 n2 u2 a3 n3 u3 G) := Lib.hid fun W hm => h1.keep hm
    have HC : Hid (∀ W, Mod (fun _ => False) w1 W → W.cell? ⟨g, 0, none⟩ = some (.slice a1 n1 u1) ∧ W.cell? ⟨g, 1, none⟩ = some (.slice a2 n2 u2) ∧ W.cell? ⟨g, 2, none⟩ = some (.slice a3 n3 u3)) := Lib.hid fun W hm => by
      have := hb1.keep hm (fun e => e)
      exact ⟨this.cell 0 rfl, this.cell 1 rfl, this.cell 2 rfl⟩
    have HMM := Lib.hid hMM
    have hnb := h.b
    obtain ⟨B, hB⟩ : ∃ B, w1.heap.size = B := ⟨_, rfl⟩
    have HB : Hid (∀ W, Mod (fun _ => False) w1 W → B ≤ W.heap.size) := Lib.hid fun W hm => by rw [← hB]; exact hm.size
    have HBB : Hid (w.heap.size ≤ B) := Lib.hid (by rw [← hB]; exact hMM.size)
    clear h h0 h1 hb0 hb1 hA0 hM1 hMM hk1 hk2 hm hB
    have HNB := Lib.hid hnb
    clear hnb
    go_wp2_with fail
    refine wp_region_inv (Mod (fun _ => False)) (fun i => (newr_F B g a1 n1 u1 a2 n2 u2 a3 n3 u3 G).getD i (fun _ _ => True)) (fun i => newr_D.getD i []) (by kernel_rfl) (by kernel_rfl) (by kernel_rfl) (by kernel_rfl) (fun _ => Mod.refl _ _)
      (fun _ _ _ h k => h.trans k (fun _ _ e => e) (fun _ _ e => e)) (stable_list ?_) ?_ ?_
    · intro f hf
      simp only [newr_F, List.mem_cons, List.not_mem_nil, or_false] at hf
      rcases hf with rfl | rfl | rfl | rfl | rfl | rfl | rfl | rfl | rfl | rfl | rfl | rfl | rfl | rfl <;> first | exact stable_val _ | exact stable_new | exact newRows_stays | exact newGraph_stays | exact newBody_stays | exact newObj_stays
    · refine opsOk_cons ?_ ?_
      · intro K vs W hR hD hK
        clear hD
        simp only [putAll, Nat.zero_add, Nat.reduceAdd, Act.put, List.setIfInBounds_toArray, List.set_cons_succ, List.set_cons_zero] at hK ⊢
        obtain ⟨k0, k1, k2⟩ := HC.out W ((Mod.drew (fun _ => False) w1).trans hR (H := fun _ => False) (fun _ _ e => e) (fun _ _ e => e))
        go_wp2
        exact hK _ _ rfl (Mod.refl _ _)
      refine opsOk_cons ?_ ?_
      · intro K vs W hR hD hK
        have d0 : vs 0 = .agg #[.slice a1 n1 u1, .slice a2 n2 u2, .slice a3 n3 u3] := hD 0 (by decide)
        clear hD
        simp only [putAll, Nat.zero_add, Nat.reduceAdd, Act.put, List.setIfInBounds_toArray, List.set_cons_succ, List.set_cons_zero] at hK ⊢
        generalize vs 0 = v0 at hK d0 ⊢
        subst d0
        have hmw := (Mod.drew (fun _ => False) w1).trans hR (H := fun _ => False) (fun _ _ e => e) (fun _ _ e => e)
        have hbw := HB.out W hmw
        go_wp2_with fail
        refine (gclone_any G _ a1 n1 u1 a2 n2 u2 a3 n3 u3 (HV.out _ hmw) (by omega) (by omega) (by omega)).mono ?_
        rintro e' w' ⟨v', rfl, hN', hM'⟩
        have N9 := Lib.hid (newGraph_base hN' hbw)
        have M9 := Lib.hid hM'
        clear hN' hM' hmw
        go_wp2
        exact hK _ _ N9.out M9.out
      refine opsOk_cons ?_ ?_
      · intro K vs W hR hD hK
        clear hD
        simp only [putAll, Nat.zero_add, Nat.reduceAdd, Act.put, List.setIfInBounds_toArray, List.set_cons_succ, List.set_cons_zero] at hK ⊢
        go_wp2
        exact hK _ _ rfl (Mod.refl _ _)
      refine opsOk_cons ?_ ?_
      · intro K vs W hR hD hK
        clear hD
        simp only [putAll, Nat.zero_add, Nat.reduceAdd, Act.put, List.setIfInBounds_toArray, List.set_cons_succ, List.set_cons_zero] at hK ⊢
        go_wp2
        exact hK _ _ rfl (Mod.refl _ _)
      refine opsOk_cons ?_ ?_
      · intro K vs W hR hD hK
        have d3 : vs 3 = .pointer (some ⟨g, 1, none⟩) := hD 3 (by decide)
        clear hD
        simp only [putAll, Nat.zero_add, Nat.reduceAdd, Act.put, List.setIfInBounds_toArray, List.set_cons_succ, List.set_cons_zero] at hK ⊢
        generalize vs 3 = v3 at hK d3 ⊢
        subst d3
        obtain ⟨k0, k1, k2⟩ := HC.out W ((Mod.drew (fun _ => False) w1).trans hR (H := fun _ => False) (fun _ _ e => e) (fun _ _ e => e))
        go_wp2
        exact hK _ _ rfl (Mod.refl _ _)
      refine opsOk_cons ?_ ?_
      · intro K vs W hR hD hK
        have d2 : vs 2 = .int .i64 (n1 : Int) := hD 2 (by decide)
        have d4 : vs 4 = .slice a2 n2 u2 := hD 4 (by decide)
        clear hD
        simp only [putAll, Nat.zero_add, Nat.reduceAdd, Act.put, List.setIfInBounds_toArray, List.set_cons_succ, List.set_cons_zero] at hK ⊢
        generalize vs 2 = v2 at hK d2 ⊢
        subst d2
        generalize vs 4 = v4 at hK d4 ⊢
        subst d4
        have hmw := (Mod.drew (fun _ => False) w1).trans hR (H := fun _ => False) (fun _ _ e => e) (fun _ _ e => e)
        have hbw := HB.out W hmw
        go_wp2_with fail
        refine (rows_start W n1 a2 n2 _ G.E HE.out (HV.out W hmw).re hm1 hm2 _ rfl HK1.out).mono ?_
        rintro e' w' ⟨x4, z4, x5, z5, rfl, hR3, hI4, hI5, hM'⟩
        have N9 : Hid (NewRows B n1 n2 (G.E.map (·.1)) (.agg #[.slice x4 n2 z4, .slice x5 (n1 + 1) z5]) w') := Lib.hid ⟨x4, z4, x5, z5, rfl, hR3, inB_mono hI4 hbw, inB_mono hI5 hbw⟩
        have M9 := Lib.hid hM'
        clear hR3 hI4 hI5 hM' hmw
        go_wp2
        exact hK _ _ N9.out M9.out
      refine opsOk_cons ?_ ?_
      · intro K vs W hR hD hK
        clear hD
        simp only [putAll, Nat.zero_add, Nat.reduceAdd, Act.put, List.setIfInBounds_toArray, List.set_cons_succ, List.set_cons_zero] at hK ⊢
        go_wp2
        exact hK _ _ rfl (Mod.refl _ _)
      refine opsOk_cons ?_ ?_
      · intro K vs W hR hD hK
        clear hD
        simp only [putAll, Nat.zero_add, Nat.reduceAdd, Act.put, List.setIfInBounds_toArray, List.set_cons_succ, List.set_cons_zero] at hK ⊢
        go_wp2
        exact hK _ _ rfl (Mod.refl _ _)
      refine opsOk_cons ?_ ?_
      · intro K vs W hR hD hK
        have d7 : vs 7 = .pointer (some ⟨g, 1, none⟩) := hD 7 (by decide)
        clear hD
        simp only [putAll, Nat.zero_add, Nat.reduceAdd, Act.put, List.setIfInBounds_toArray, List.set_cons_succ, List.set_cons_zero] at hK ⊢
        generalize vs 7 = v7 at hK d7 ⊢
        subst d7
        obtain ⟨k0, k1, k2⟩ := HC.out W ((Mod.drew (fun _ => False) w1).trans hR (H := fun _ => False) (fun _ _ e => e) (fun _ _ e => e))
        go_wp2
        exact hK _ _ rfl (Mod.refl _ _)
      refine opsOk_cons ?_ ?_
      · intro K vs W hR hD hK
        have d6 : vs 6 = .int .i64 (n1 : Int) := hD 6 (by decide)
        have d8 : vs 8 = .slice a2 n2 u2 := hD 8 (by decide)
        clear hD
        simp only [putAll, Nat.zero_add, Nat.reduceAdd, Act.put, List.setIfInBounds_toArray, List.set_cons_succ, List.set_cons_zero] at hK ⊢
        generalize vs 6 = v6 at hK d6 ⊢
        subst d6
        generalize vs 8 = v8 at hK d8 ⊢
        subst d8
        have hmw := (Mod.drew (fun _ => False) w1).trans hR (H := fun _ => False) (fun _ _ e => e) (fun _ _ e => e)
        have hbw := HB.out W hmw
        go_wp2_with fail
        refine (rows_end W n1 a2 n2 _ G.E HE.out (HV.out W hmw).re hm1 hm2 _ rfl HK2.out).mono ?_
        rintro e' w' ⟨x4, z4, x5, z5, rfl, hR3, hI4, hI5, hM'⟩
        have N9 : Hid (NewRows B n1 n2 (G.E.map (·.2.1)) (.agg #[.slice x4 n2 z4, .slice x5 (n1 + 1) z5]) w') := Lib.hid ⟨x4, z4, x5, z5, rfl, hR3, inB_mono hI4 hbw, inB_mono hI5 hbw⟩
        have M9 := Lib.hid hM'
        clear hR3 hI4 hI5 hM' hmw
        go_wp2
        exact hK _ _ N9.out M9.out
      refine opsOk_cons ?_ ?_
      · intro K vs W hR hD hK
        have d1 : (NewGraph B n1 n2 n3 G) (vs 1) W := hD 1 (by decide)
        have d5 : (NewRows B n1 n2 (G.E.map (·.1))) (vs 5) W := hD 5 (by decide)
        have d9 : (NewRows B n1 n2 (G.E.map (·.2.1))) (vs 9) W := hD 9 (by decide)
        clear hD
        simp only [putAll, Nat.zero_add, Nat.reduceAdd, Act.put, List.setIfInBounds_toArray, List.set_cons_succ, List.set_cons_zero] at hK ⊢
        generalize vs 1 = v1 at hK d1 ⊢
        generalize vs 5 = v5 at hK d5 ⊢
        generalize vs 9 = v9 at hK d9 ⊢
        obtain ⟨y1, z1, y2, z2, y3, z3, rfl, o1, o2, o3⟩ := d1
        obtain ⟨x4, z4, x5, z5, rfl, r1⟩ := d5
        obtain ⟨x6, z6, x7, z7, rfl, r2⟩ := d9
        have N9 : Hid (NewBody B n1 n2 n3 G (.agg #[.slice y1 n1 z1, .slice y2 n2 z2, .slice y3 n3 z3, .slice x4 n2 z4, .slice x5 (n1 + 1) z5, .slice x6 n2 z6, .slice x7 (n1 + 1) z7]) W) := Lib.hid ⟨_, _, _, _, _, _, _, _, _, _, _, _, _, _, rfl, o1, o2, o3, r1, r2⟩
        clear o1 o2 o3 r1 r2
        go_wp2
        exact hK _ _ N9.out (Mod.refl _ _)
      refine opsOk_cons ?_ ?_
      · intro K vs W hR hD hK
        have d10 : (NewBody B n1 n2 n3 G) (vs 10) W := hD 10 (by decide)
        clear hD
        simp only [putAll, Nat.zero_add, Nat.reduceAdd, Act.put, List.setIfInBounds_toArray, List.set_cons_succ, List.set_cons_zero] at hK ⊢
        generalize vs 10 = v10 at hK d10 ⊢
        obtain ⟨y1, z1, y2, z2, y3, z3, x4, z4, x5, z5, x6, z6, x7, z7, rfl, hbody⟩ := d10
        have hbw := HB.out W ((Mod.drew (fun _ => False) w1).trans hR (H := fun _ => False) (fun _ _ e => e) (fun _ _ e => e))
        have N9 := Lib.hid (newObj_of HN.out HE.out HNB.out HM0.out hbw hbody)
        clear hbody
        go_wp2
        exact hK _ _ N9.out (Mod.alloc _ _ _)
      refine opsOk_cons ?_ ?_
      · intro K vs W hR hD hK
        have d11 : (NewObj B G) (vs 11) W := hD 11 (by decide)
        clear hD
        simp only [putAll, Nat.zero_add, Nat.reduceAdd, Act.put, List.setIfInBounds_toArray, List.set_cons_succ, List.set_cons_zero] at hK ⊢
        generalize vs 11 = v11 at hK d11 ⊢
        obtain ⟨p', C', rfl, hgo⟩ := d11
        have N9 : Hid (NewObj B G (.pointer (some ⟨p', 0, none⟩)) W) := Lib.hid ⟨p', C', rfl, hgo⟩
        clear hgo
        go_wp2
        exact hK _ _ N9.out (Mod.refl _ _)
      refine opsOk_cons ?_ ?_
      · intro K vs W hR hD hK
        clear hD
        simp only [putAll, Nat.zero_add, Nat.reduceAdd, Act.put, List.setIfInBounds_toArray, List.set_cons_succ, List.set_cons_zero] at hK ⊢
        go_wp2
        exact hK _ _ rfl (Mod.refl _ _)
      exact opsOk_nil
    · intro vs W hR hF
      have d12 : (NewObj B G) (vs 12) W := hF 12 (by decide)
      have d13 : vs 13 = .int .i64 0 := hF 13 (by decide)
      clear hF
      simp only [putAll, Nat.zero_add, Nat.reduceAdd, Act.put, List.setIfInBounds_toArray, List.set_cons_succ, List.set_cons_zero]
      generalize vs 12 = v12 at d12 ⊢
      generalize vs 13 = v13 at d13 ⊢
      subst d13
      obtain ⟨p', C', rfl, hgo⟩ := d12
      have hmw := (Mod.drew (fun _ => False) w1).trans hR (H := fun _ => False) (fun _ _ e => e) (fun _ _ e => e)
      have HGO := Lib.hid hgo
      have HMW := Lib.hid (HMM.out.trans hmw (H := fun _ => False) (fun _ _ e => e) (fun _ _ e => e))
      clear hgo hmw hR
      go_wp2_with fail
      go_ret2
      exact Or.inl ⟨HM0.out, p', rfl, (HGO.out.base HBB.out).wide, HMW.out⟩
end Go.Proofs.Ytbjdjafkpldbnaa
