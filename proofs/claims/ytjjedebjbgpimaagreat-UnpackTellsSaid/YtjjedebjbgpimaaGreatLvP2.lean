/- Levels as plain lists: what Build makes. -/
import Derived.Test.YtjjedebjbgpimaaGreatKVia
import Derived.Test.YtjjedebjbgpimaaGreatKRk
import Derived.Test.YtjjedebjbgpimaaGreatRWit
namespace Go.Proofs.YtjjedebjbgpimaaGreat
open Go.RowKit Mile
set_option maxRecDepth 100000
theorem firN_spec16 (f : Nat → Int) (gone : Nat → Bool) (n : Nat) : ((firN f gone n).1 = -1 ∧ ∀ v, v < n → gone v = true) ∨ ∃ u, u < n ∧ (firN f gone n).1 = (u : Int) ∧ (firN f gone n).2 = f u ∧ gone u = false := by
  induction n with
  | zero => exact .inl ⟨rfl, fun v hv => by omega⟩
  | succ n ih =>
    rw [firN_step]
    unfold firT
    cases hg : gone n with
    | true =>
      rw [if_pos rfl]
      rcases ih with ⟨h1, h2⟩ | ⟨u, h1, h2, h3, h4⟩
      · exact .inl ⟨h1, fun v hv => by by_cases e : v = n; (rw [e]; exact hg); exact h2 v (by omega)⟩
      · exact .inr ⟨u, by omega, h2, h3, h4⟩
    | false =>
      rw [if_neg (by simp)]
      rcases ih with ⟨h1, h2⟩ | ⟨u, h1, h2, h3, h4⟩
      · rw [if_pos (.inl (by omega))]
        exact .inr ⟨n, by omega, rfl, rfl, hg⟩
      · by_cases hlt : f n < (firN f gone n).2
        · rw [if_pos (.inr hlt)]
          exact .inr ⟨n, by omega, rfl, rfl, hg⟩
        · rw [if_neg (by omega)]
          exact .inr ⟨u, by omega, h2, h3, h4⟩
theorem gonB_dn {n : Nat} {V : List Nat} {v : Nat} (h : v < n) : gonB (dnL n V) v = decide (v ∈ V) := by
  unfold gonB
  have hl : v < (dnL n V).length := by rw [dnL_len]; exact h
  rw [List.getD_eq_getElem?_getD, List.getElem?_eq_getElem hl, dnL_at]
  rfl
def nxtV (n : Nat) (D : Nat → Int → List Int) (C : List Ar) (V : List Nat) : Nat := (firN (fun v => wthR D C (v : Int)) (gonB (dnL n V)) n).1.toNat
theorem nxtV_ok {n : Nat} (D : Nat → Int → List Int) (C : List Ar) {V : List Nat} (hl : V.length < n) : nxtV n D C V < n ∧ nxtV n D C V ∉ V ∧ (firN (fun v => wthR D C (v : Int)) (gonB (dnL n V)) n).1 = ((nxtV n D C V : Nat) : Int) := by
  unfold nxtV
  rcases firN_spec16 (fun v => wthR D C (v : Int)) (gonB (dnL n V)) n with ⟨_, h2⟩ | ⟨u, h1, h2, _, h4⟩
  · have := nodupN_le (List.range n) V List.nodup_range (fun v hv => by
      have hv2 := List.mem_range.1 hv
      have := h2 v hv2
      rw [gonB_dn hv2] at this
      exact of_decide_eq_true this)
    rw [List.length_range] at this
    omega
  · rw [h2, Int.toNat_natCast]
    rw [gonB_dn h1] at h4
    exact ⟨h1, of_decide_eq_false h4, rfl⟩
structure BS where
  C : List Ar
  T : List Ar
  V : List Nat
def bNext (n : Nat) (P : List Ar → Nat → Int → List Int) (s : BS) : BS :=
  ⟨takeR n (P s.C) s.C (nxtV n (P s.C) s.C s.V), (scR (P s.C) s.C ((nxtV n (P s.C) s.C s.V : Nat) : Int)).foldl (putR n) s.T, s.V ++ [nxtV n (P s.C) s.C s.V]⟩
def bAt (n : Nat) (P : List Ar → Nat → Int → List Int) (L : List Ar) : Nat → BS
  | 0 => ⟨L, L, []⟩
  | k + 1 => bNext n P (bAt n P L k)
structure BOk (n k : Nat) (s : BS) : Prop where
  cok : NetOk n s.C
  tok : NetOk n s.T
  nod : s.V.Nodup
  lt : ∀ v ∈ s.V, v < n
  len : s.V.length = k
  out : ∀ a ∈ s.C, ∀ v ∈ s.V, a.f ≠ (v : Int) ∧ a.t ≠ (v : Int)
theorem bAt_ok {n : Nat} (P : List Ar → Nat → Int → List Int) {L : List Ar} (hok : NetOk n L) : ∀ k, k ≤ n → BOk n k (bAt n P L k) := by
  intro k
  induction k with
  | zero => exact fun _ => ⟨hok, hok, List.nodup_nil, fun _ h => (by cases h), rfl, fun _ _ _ h => (by cases h)⟩
  | succ k ih =>
    intro hk
    have h := ih (by omega)
    obtain ⟨h1, h2, h3⟩ := nxtV_ok (n := n) (P (bAt n P L k).C) (bAt n P L k).C (V := (bAt n P L k).V) (by have := h.len; omega)
    refine ⟨takeR_ok h.cok _ _, putRs_ok _ _ h.tok, ?_, fun v hv => ?_, ?_, fun a ha v hv => ?_⟩
    · exact List.nodup_append.2 ⟨h.nod, by simp, fun a ha b hb => by rw [List.mem_singleton] at hb; subst hb; exact fun e => h2 (e ▸ ha)⟩
    · rcases List.mem_append.1 hv with hv | hv
      · exact h.lt v hv
      · rw [List.mem_singleton] at hv; rw [hv]; exact h1
    · show (_ ++ [_]).length = _
      rw [List.length_append, h.len]; rfl
    · obtain ⟨g1, g2, g3⟩ := mem_cutN.1 ha
      rcases List.mem_append.1 hv with hv | hv
      · rcases mem_putRs _ _ _ g1 with g | g
        · exact h.out a g v hv
        · obtain ⟨p, hp, q, hq, _, rfl⟩ := mem_scR.1 g
          exact ⟨(h.out p (mem_inL.1 hp).1 v hv).1, (h.out q (mem_outL.1 hq).1 v hv).2⟩
      · rw [List.mem_singleton] at hv; rw [hv]; exact ⟨g2, g3⟩
def rkL (n : Nat) (V : List Nat) : List Int := (List.range n).map fun v => if v ∈ V then ((V.idxOf v : Nat) : Int) else 0
theorem rkL_nil (n : Nat) : rkL n [] = List.replicate n 0 := by
  apply List.ext_getElem (by simp [rkL])
  intro i h1 h2
  simp [rkL]
theorem rkL_at {n : Nat} {V : List Nat} {v : Nat} (h : v < (rkL n V).length) : (rkL n V)[v] = if v ∈ V then ((V.idxOf v : Nat) : Int) else 0 := by simp [rkL]
theorem rkL_set {n v : Nat} {V : List Nat} (hv : v ∉ V) : (rkL n V).set v ((V.length : Nat) : Int) = rkL n (V ++ [v]) := by
  apply List.ext_getElem (by simp [rkL])
  intro i h1 h2
  rw [List.getElem_set, rkL_at, rkL_at]
  by_cases e : v = i
  · subst e
    rw [if_pos rfl, if_pos (by simp), List.idxOf_append, if_neg hv]
    simp
  · rw [if_neg e]
    by_cases hm : i ∈ V
    · rw [if_pos hm, if_pos (List.mem_append_left _ hm), List.idxOf_append, if_pos hm]
    · rw [if_neg hm, if_neg (by
        rw [List.mem_append, List.mem_singleton]
        exact fun h => h.elim hm (fun h => e h.symm))]
theorem net_len {n : Nat} {L : List Ar} (hok : NetOk n L) : L.length ≤ n * n := by
  have h1 := outL_all hok.sort n (fun b hb => by have := hok.may b hb; unfold mayA at this; omega)
  have h2 : ((List.range n).flatMap (fun v : Nat => outL L (v : Int))).length ≤ n * n := by
    have key : ∀ l : List Nat, (l.flatMap (fun v : Nat => outL L (v : Int))).length ≤ l.length * n := by
      intro l
      induction l with
      | nil => simp
      | cons v l ih =>
        rw [List.flatMap_cons, List.length_append, List.length_cons, Nat.succ_mul]
        have := outL_len hok (v : Int)
        omega
    have := key (List.range n)
    rwa [List.length_range] at this
  rwa [h1] at h2
end Go.Proofs.YtjjedebjbgpimaaGreat
