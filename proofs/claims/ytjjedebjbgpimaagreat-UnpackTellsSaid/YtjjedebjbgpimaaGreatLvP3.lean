/- Levels as plain lists: what stays in them, what goes up, what goes down. -/
import Derived.Test.YtjjedebjbgpimaaGreatLv6
namespace Go.Proofs.YtjjedebjbgpimaaGreat
open Go.RowKit Mile
set_option maxRecDepth 100000
theorem eqN_congr {L : List Ar} {a x : Ar} (h : a.f = x.f ∧ a.t = x.t) : eqN L a = eqN L x := by
  unfold eqN
  rw [h.1, h.2]
theorem mem_eqN {L : List Ar} {a x : Ar} : a ∈ eqN L x ↔ a ∈ L ∧ a.f = x.f ∧ a.t = x.t := by
  unfold eqN
  rw [List.mem_filter, decide_eq_true_iff]
theorem mem_self {L : List Ar} {a : Ar} : a ∈ L ↔ a ∈ eqN L a := by rw [mem_eqN]; simp
theorem eqN_new_same {L : List Ar} {a x : Ar} (h : a.f = x.f ∧ a.t = x.t) : eqN (newN L a) x = [a] := by
  unfold newN eqN ltN gtN
  rw [List.filter_append, List.filter_cons_of_pos (by simpa using h)]
  have h1 : ((L.filter fun b => decide (keyLt b a)).filter fun b => decide (b.f = x.f ∧ b.t = x.t)) = [] := by
    rw [List.filter_eq_nil_iff]
    intro b hb
    have := of_decide_eq_true (List.mem_filter.1 hb).2
    unfold keyLt at this
    simp; omega
  have h2 : ((L.filter fun b => decide (keyLt a b)).filter fun b => decide (b.f = x.f ∧ b.t = x.t)) = [] := by
    rw [List.filter_eq_nil_iff]
    intro b hb
    have := of_decide_eq_true (List.mem_filter.1 hb).2
    unfold keyLt at this
    simp; omega
  rw [h1, h2]; rfl
theorem eqN_new_other {L : List Ar} (hs : SortN L) {a x : Ar} (h : ¬ (a.f = x.f ∧ a.t = x.t)) : eqN (newN L a) x = eqN L x := by
  have h1 := congrArg (fun l => eqN l x) (split3 hs a)
  have h2 : eqN (eqN L a) x = [] := by
    unfold eqN
    rw [List.filter_filter, List.filter_eq_nil_iff]
    intro b hb; simp; omega
  have h3 : eqN (ltN L a ++ (eqN L a ++ gtN L a)) x = eqN (ltN L a) x ++ (eqN (eqN L a) x ++ eqN (gtN L a) x) := by unfold eqN; rw [List.filter_append, List.filter_append]
  have h4 : eqN (newN L a) x = eqN (ltN L a) x ++ eqN (gtN L a) x := by unfold newN eqN; rw [List.filter_append, List.filter_cons_of_neg (by simpa using h)]
  rw [h4]
  show _ = eqN L x
  rw [h1]
  show _ = eqN (ltN L a ++ (eqN L a ++ gtN L a)) x
  rw [h3, h2, List.nil_append]
theorem eqN_putR_other {n : Nat} {L : List Ar} (hs : SortN L) {a x : Ar} (h : ¬ (a.f = x.f ∧ a.t = x.t)) : eqN (putR n L a) x = eqN L x := by
  unfold putR putN
  split
  · split
    · exact eqN_new_other hs h
    · rfl
  · rfl
theorem eqN_putR_congr {n : Nat} {L L' : List Ar} (hs : SortN L) (hs' : SortN L') (a : Ar) {x : Ar} (h : eqN L x = eqN L' x) : eqN (putR n L a) x = eqN (putR n L' a) x := by
  by_cases hx : a.f = x.f ∧ a.t = x.t
  · have hb : putB L a = putB L' a := by
      unfold putB
      rw [eqN_congr (L := L) hx, eqN_congr (L := L') hx, h]
    unfold putR putN
    rw [hb]
    split
    · split
      · rw [eqN_new_same hx, eqN_new_same hx]
      · exact h
    · exact h
  · rw [eqN_putR_other hs hx, eqN_putR_other hs' hx, h]
theorem eqN_putRs_other {n : Nat} {x : Ar} (A : List Ar) : ∀ L, NetOk n L → (∀ a ∈ A, ¬ (a.f = x.f ∧ a.t = x.t)) → eqN (A.foldl (putR n) L) x = eqN L x := by
  induction A with
  | nil => exact fun L _ _ => rfl
  | cons a A ih =>
    intro L hL h
    rw [List.foldl_cons, ih _ (netOk_putR hL a) (fun b hb => h b (List.mem_cons_of_mem _ hb))]
    exact eqN_putR_other hL.sort (h a List.mem_cons_self)
theorem eqN_putRs_congr {n : Nat} {x : Ar} (A : List Ar) : ∀ L L', NetOk n L → NetOk n L' → eqN L x = eqN L' x → eqN (A.foldl (putR n) L) x = eqN (A.foldl (putR n) L') x := by
  induction A with
  | nil => exact fun L L' _ _ h => h
  | cons a A ih =>
    intro L L' hL hL' h
    exact ih _ _ (netOk_putR hL a) (netOk_putR hL' a) (eqN_putR_congr hL.sort hL'.sort a h)
theorem eqN_cut_other {L : List Ar} {v : Int} {x : Ar} (h1 : x.f ≠ v) (h2 : x.t ≠ v) : eqN (cutN L v) x = eqN L x := by
  unfold eqN cutN
  rw [List.filter_filter]
  refine congrArg (fun p => List.filter p L) (funext fun b => ?_)
  by_cases c : b.f = x.f ∧ b.t = x.t
  · rw [decide_eq_true c]; simp; omega
  · rw [decide_eq_false c]; rfl
section
variable {n : Nat} (P : List Ar → Nat → Int → List Int) {L : List Ar}
def bV (n : Nat) (P : List Ar → Nat → Int → List Int) (L : List Ar) (k : Nat) : Nat := nxtV n (P (bAt n P L k).C) (bAt n P L k).C (bAt n P L k).V
theorem bAt_V (k : Nat) : (bAt n P L (k + 1)).V = (bAt n P L k).V ++ [bV n P L k] := rfl
theorem bAt_C (k : Nat) : (bAt n P L (k + 1)).C = takeR n (P (bAt n P L k).C) (bAt n P L k).C (bV n P L k) := rfl
theorem bAt_T (k : Nat) : (bAt n P L (k + 1)).T = (scR (P (bAt n P L k).C) (bAt n P L k).C ((bV n P L k : Nat) : Int)).foldl (putR n) (bAt n P L k).T := rfl
theorem bAt_same (hok : NetOk n L) : ∀ k, k ≤ n → ∀ x : Ar, (∀ v ∈ (bAt n P L k).V, x.f ≠ (v : Int) ∧ x.t ≠ (v : Int)) → eqN (bAt n P L k).C x = eqN (bAt n P L k).T x := by
  intro k
  induction k with
  | zero => exact fun _ _ _ => rfl
  | succ k ih =>
    intro hk x hx
    have h := bAt_ok P hok k (by omega)
    rw [bAt_V] at hx
    have hv := hx (bV n P L k) (List.mem_append_right _ (by simp))
    rw [bAt_C, bAt_T]
    unfold takeR
    rw [eqN_cut_other hv.1 hv.2]
    exact eqN_putRs_congr _ _ _ h.cok h.tok (ih (by omega) x (fun v hv => hx v (List.mem_append_left _ hv)))
theorem sc_ends (hok : NetOk n L) {k : Nat} (hk : k ≤ n) {a : Ar} (ha : a ∈ scR (P (bAt n P L k).C) (bAt n P L k).C ((bV n P L k : Nat) : Int)) : ∀ v ∈ (bAt n P L (k + 1)).V, a.f ≠ (v : Int) ∧ a.t ≠ (v : Int) := by
  have h := bAt_ok P hok k hk
  obtain ⟨p, hp, q, hq, _, rfl⟩ := mem_scR.1 ha
  obtain ⟨hp1, hp2⟩ := mem_inL.1 hp
  obtain ⟨hq1, hq2⟩ := mem_outL.1 hq
  have mp := h.cok.may p hp1
  have mq := h.cok.may q hq1
  unfold mayA at mp mq
  rw [bAt_V]
  intro v hv
  simp only
  rcases List.mem_append.1 hv with hv | hv
  · exact ⟨(h.out p hp1 v hv).1, (h.out q hq1 v hv).2⟩
  · rw [List.mem_singleton] at hv
    subst hv
    omega
theorem bAt_still (hok : NetOk n L) {k : Nat} (hk : k ≤ n) {x : Ar} (hx : ∃ v ∈ (bAt n P L (k + 1)).V, x.f = (v : Int) ∨ x.t = (v : Int)) : eqN (bAt n P L (k + 1)).T x = eqN (bAt n P L k).T x := by
  rw [bAt_T]
  refine eqN_putRs_other _ _ (bAt_ok P hok k hk).tok fun a ha h => ?_
  obtain ⟨v, hv, hx⟩ := hx
  have := sc_ends P hok hk ha v hv
  omega
theorem bAt_pre (k j : Nat) (h : k ≤ j) : ∀ v ∈ (bAt n P L k).V, v ∈ (bAt n P L j).V := by
  induction j with
  | zero => intro v hv; obtain rfl : k = 0 := by omega
            exact hv
  | succ j ih =>
    intro v hv
    by_cases e : k = j + 1
    · subst e; exact hv
    · rw [bAt_V]; exact List.mem_append_left _ (ih (by omega) v hv)
theorem bAt_take (hok : NetOk n L) (k : Nat) : ∀ j, k ≤ j → j ≤ n → (bAt n P L j).V.take k = (bAt n P L k).V := by
  intro j
  induction j with
  | zero => intro h hj; obtain rfl : k = 0 := by omega
            rfl
  | succ j ih =>
    intro h hj
    by_cases e : k = j + 1
    · subst e
      exact List.take_of_length_le (by have := (bAt_ok P hok (j + 1) hj).len; omega)
    · rw [bAt_V, List.take_append_of_le_length (by have := (bAt_ok P hok j (by omega)).len; omega)]
      exact ih (by omega) (by omega)
theorem bAt_get (hok : NetOk n L) {k : Nat} (hk : k < n) : (bAt n P L n).V[k]? = some (bV n P L k) := by
  have h1 := bAt_take P hok (k + 1) n hk (Nat.le_refl _)
  have h2 := (bAt_ok P hok k (by omega)).len
  have h3 : ((bAt n P L n).V.take (k + 1))[k]? = some (bV n P L k) := by
    rw [h1, bAt_V, List.getElem?_append_right (by omega), h2, Nat.sub_self]; rfl
  rwa [List.getElem?_take_of_lt (by omega)] at h3
theorem bV_lt (hok : NetOk n L) {k : Nat} (hk : k < n) : bV n P L k < n ∧ bV n P L k ∉ (bAt n P L k).V := by
  have h := nxtV_ok (n := n) (P (bAt n P L k).C) (bAt n P L k).C (V := (bAt n P L k).V) (by have := (bAt_ok P hok k (by omega)).len; omega)
  exact ⟨h.1, h.2.1⟩
theorem bAt_all (hok : NetOk n L) {v : Nat} (hv : v < n) : v ∈ (bAt n P L n).V := by
  have h := bAt_ok P hok n (Nat.le_refl _)
  refine Classical.byContradiction fun hn => ?_
  have := nodupN_le (v :: (bAt n P L n).V) (List.range n) (List.nodup_cons.2 ⟨hn, h.nod⟩) (fun y hy => List.mem_range.2 ((List.mem_cons.1 hy).elim (fun e => by omega) (fun e => h.lt y e)))
  rw [List.length_cons, List.length_range, h.len] at this
  omega
theorem rank_bV (hok : NetOk n L) {k : Nat} (hk : k < n) : (bAt n P L n).V.idxOf (bV n P L k) = k := by
  have h := bAt_ok P hok n (Nat.le_refl _)
  have h1 := bAt_get P hok hk
  have h2 : k < (bAt n P L n).V.length := by rw [h.len]; exact hk
  rw [List.getElem?_eq_getElem h2] at h1
  rw [← Option.some.inj h1]
  exact h.nod.idxOf_getElem k h2
theorem bV_rank (hok : NetOk n L) {v : Nat} (hv : v < n) : (bAt n P L n).V.idxOf v < n ∧ bV n P L ((bAt n P L n).V.idxOf v) = v := by
  have h := bAt_ok P hok n (Nat.le_refl _)
  have h1 := List.idxOf_lt_length_of_mem (bAt_all P hok hv)
  have h2 := List.getElem_idxOf h1
  rw [h.len] at h1
  have h3 := bAt_get P hok h1
  rw [List.getElem?_eq_getElem (by rw [h.len]; exact h1)] at h3
  exact ⟨h1, by rw [← Option.some.inj h3]; exact h2⟩
theorem in_take (hok : NetOk n L) {k v : Nat} (hk : k ≤ n) (hv : v < n) : v ∈ (bAt n P L k).V ↔ (bAt n P L n).V.idxOf v < k := by
  obtain ⟨h1, h2⟩ := bV_rank P hok hv
  constructor
  · intro hm
    refine Classical.byContradiction fun hn => ?_
    have := (bV_lt P hok h1).2
    rw [h2] at this
    exact this (bAt_pre P k _ (by omega) v hm)
  · intro hlt
    refine bAt_pre P ((bAt n P L n).V.idxOf v + 1) k hlt v ?_
    rw [bAt_V, h2]
    exact List.mem_append_right _ (by simp)
end
end Go.Proofs.YtjjedebjbgpimaaGreat
