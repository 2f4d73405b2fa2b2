/- How far it is, one step on, and along a walk: plain. -/
import Derived.Test.YtgiojfihgdifbaaKDist
import Derived.Test.YtgiojfihgdifbaaStrollP
namespace Go.Proofs.Ytgiojfihgdifbaa
open Go.RowKit Mile
/-- So many of a row lie below t. -/
def lowN (t : Int) (d : List Int) : Nat := d.countP (fun x => decide (0 ≤ x ∧ x < t))
theorem lowN_mono {t u : Int} (h : t ≤ u) : ∀ d : List Int, lowN t d ≤ lowN u d
  | [] => Nat.le_refl _
  | x :: d => by
    have ih := lowN_mono h d
    unfold lowN at ih ⊢
    rw [List.countP_cons, List.countP_cons]
    by_cases a : 0 ≤ x ∧ x < t
    · rw [if_pos (by simpa using a), if_pos (by simp; omega)]; omega
    · rw [if_neg (by simpa using a)]; omega
theorem lowN_lt {t u : Int} (h0 : 0 ≤ t) (h : t < u) : ∀ d : List Int, t ∈ d → lowN t d + 1 ≤ lowN u d
  | [], hm => by cases hm
  | x :: d, hm => by
    have im := lowN_mono (Int.le_of_lt h) d
    unfold lowN at im ⊢
    rw [List.countP_cons, List.countP_cons]
    by_cases e : x = t
    · subst e
      rw [if_neg (by simp), if_pos (by simp; omega)]; omega
    · have ih := lowN_lt h0 h d (by rcases List.mem_cons.1 hm with k | k; exact absurd k.symm e; exact k)
      unfold lowN at ih
      by_cases a : 0 ≤ x ∧ x < t
      · rw [if_pos (by simpa using a), if_pos (by simp; omega)]; omega
      · rw [if_neg (by simpa using a)]; omega
/-- How far it can be at most. -/
theorem Fix.top {X : Web} {d : List Int} (h : Fix X d) : ∀ (n : Nat) e, 0 ≤ dAt d e → dAt d e ≤ n → dAt d e ≤ 65535 * (lowN (dAt d e) d : Int) := by
  intro n
  induction n using Nat.strongRecOn with
  | ind n ih =>
    intro e h0 hn
    rcases h.why e h0 with ⟨h1, h2⟩ | ⟨b, h1, h2, h3⟩
    · rw [h2]; omega
    · have hw := X.one e b h1
      have ihb := ih (n - 1) (by omega) b h2 (by omega)
      have hbl := dAt_in h2
      have hl := lowN_lt h2 (show dAt d b < dAt d e by omega) d (by rw [dAt_eq d b hbl]; exact List.getElem_mem hbl)
      omega
theorem Fix.most {X : Web} {d : List Int} (h : Fix X d) (hm : X.m ≤ 512) (e : Nat) : dAt d e ≤ 33553920 := by
  by_cases h0 : 0 ≤ dAt d e
  · have h1 := h.top (dAt d e).toNat e h0 (by omega)
    have h2 : lowN (dAt d e) d ≤ d.length := List.countP_le_length
    have h3 := h.len
    omega
  · omega
def goodN (d : List Int) (cl : List Bool) (x : Int) : Prop := clB cl x = false ∧ 0 ≤ dAt d x.toNat
instance (d : List Int) (cl : List Bool) (x : Int) : Decidable (goodN d cl x) := by unfold goodN; infer_instance
def viaN (G : GD) (d : List Int) (x : Int) : Int := dAt d x.toNat + (eAt G x).2.2
def stepN (G : GD) (d : List Int) (cl : List Bool) (b x : Int) : Int := if goodN d cl x ∧ (b < 0 ∨ viaN G d x < b) then viaN G d x else b
def bestN (G : GD) (d : List Int) (cl : List Bool) (b0 : Int) (xs : List Int) : Int := xs.foldl (stepN G d cl) b0
theorem bestN_take (G : GD) (d : List Int) (cl : List Bool) (b0 : Int) (xs : List Int) (k : Nat) (h : k < xs.length) : bestN G d cl b0 (xs.take (k + 1)) = stepN G d cl (bestN G d cl b0 (xs.take k)) xs[k] := by
  unfold bestN
  rw [List.take_succ_eq_append_getElem h, List.foldl_append]; rfl
theorem bestN_why (G : GD) (d : List Int) (cl : List Bool) : ∀ (xs : List Int) (b0 : Int), bestN G d cl b0 xs = b0 ∨ ∃ x ∈ xs, goodN d cl x ∧ bestN G d cl b0 xs = viaN G d x
  | [], b0 => .inl rfl
  | x :: xs, b0 => by
    have ih := bestN_why G d cl xs (stepN G d cl b0 x)
    have e : bestN G d cl b0 (x :: xs) = bestN G d cl (stepN G d cl b0 x) xs := rfl
    rw [e]
    rcases ih with h | ⟨y, hy, h⟩
    · rw [h]
      unfold stepN
      split
      · rename_i hc; exact .inr ⟨x, by simp, hc.1, rfl⟩
      · exact .inl rfl
    · exact .inr ⟨y, by simp [hy], h⟩
theorem bestN_le (G : GD) (d : List Int) (cl : List Bool) (hv : ∀ x, goodN d cl x → 0 ≤ viaN G d x) : ∀ (xs : List Int) (b0 : Int), (0 ≤ b0 → 0 ≤ bestN G d cl b0 xs ∧ bestN G d cl b0 xs ≤ b0) ∧ ∀ x ∈ xs, goodN d cl x → 0 ≤ bestN G d cl b0 xs ∧ bestN G d cl b0 xs ≤ viaN G d x
  | [], b0 => ⟨fun h => ⟨h, Int.le_refl _⟩, fun x hx => by cases hx⟩
  | y :: xs, b0 => by
    have ih := bestN_le G d cl hv xs (stepN G d cl b0 y)
    have e : bestN G d cl b0 (y :: xs) = bestN G d cl (stepN G d cl b0 y) xs := rfl
    rw [e]
    have hs : (0 ≤ b0 → 0 ≤ stepN G d cl b0 y ∧ stepN G d cl b0 y ≤ b0) ∧ (goodN d cl y → 0 ≤ stepN G d cl b0 y ∧ stepN G d cl b0 y ≤ viaN G d y) := by
      unfold stepN
      split
      · rename_i hc
        have := hv y hc.1
        exact ⟨fun h => ⟨this, by omega⟩, fun _ => ⟨this, Int.le_refl _⟩⟩
      · rename_i hc
        exact ⟨fun h => ⟨h, Int.le_refl _⟩, fun hg => by have h1 : ¬ (b0 < 0 ∨ viaN G d y < b0) := fun x => hc ⟨hg, x⟩; omega⟩
    refine ⟨fun h => ?_, fun x hx hg => ?_⟩
    · have h1 := hs.1 h
      have h2 := ih.1 h1.1
      omega
    · rcases List.mem_cons.1 hx with rfl | hx
      · have h1 := hs.2 hg
        have h2 := ih.1 h1.1
        omega
      · exact ih.2 x hx hg
/-- One step on from an edge: how far it is, is the least of it. -/
theorem bestN_eq {G : GD} {hm : May G} {v : Int} {cl : List Bool} {d : List Int} (h : Fix (webTo G hm v cl) d) (e : Nat) (he : e < G.E.length) : bestN G d cl (if (eAt G (e : Int)).2.1 = v then 0 else -1) (nxtR G (e : Int)) = dAt d e := by
  obtain ⟨b0, hb0⟩ : ∃ b, (if (eAt G (e : Int)).2.1 = v then (0 : Int) else -1) = b := ⟨_, rfl⟩
  rw [hb0]
  have hin : ∀ x ∈ nxtR G (e : Int), ∃ k : Nat, x = (k : Int) ∧ turnB G (e : Int) (k : Int) = true := by
    intro x hx
    unfold nxtR at hx
    obtain ⟨k, hk, rfl⟩ := List.mem_map.1 hx
    exact ⟨k, rfl, (List.mem_filter.1 hk).2⟩
  have hst : (eAt G (e : Int)).2.1 = v → dAt d e = 0 := fun hv => h.st e hv he
  have hvia : ∀ x, goodN d cl x → 0 ≤ viaN G d x := by
    intro x hx
    have hl := dAt_in hx.2
    have hl2 : x.toNat < G.E.length := by have := h.len; rw [this] at hl; exact hl
    unfold viaN
    have hw := edgeW G hm (x.toNat : Int) ⟨by omega, by omega⟩
    have ee : eAt G x = eAt G (x.toNat : Int) := by unfold eAt; rw [Int.toNat_natCast]
    rw [ee]
    have := hx.2
    omega
  have hle := bestN_le G d cl hvia (nxtR G (e : Int)) b0
  have hgo : ∀ k : Nat, turnB G (e : Int) (k : Int) = true → goodN d cl (k : Int) → 0 ≤ dAt d e ∧ dAt d e ≤ viaN G d (k : Int) := fun k h1 h2 => h.shut e k ⟨h1, h2.1⟩ h2.2
  have hlow := h.low e
  by_cases hd : 0 ≤ dAt d e
  · have up : 0 ≤ bestN G d cl b0 (nxtR G (e : Int)) ∧ bestN G d cl b0 (nxtR G (e : Int)) ≤ dAt d e := by
      rcases h.why e hd with ⟨h1, h2⟩ | ⟨b, h1, h2, h3⟩
      · have hv : (eAt G (e : Int)).2.1 = v := h1
        rw [if_pos hv] at hb0
        have := hle.1 (by omega)
        omega
      · have := hle.2 (b : Int) (mem_nxt h1.1) ⟨h1.2, h2⟩
        have e3 : dAt d e = viaN G d (b : Int) := h3
        omega
    have dn : dAt d e ≤ bestN G d cl b0 (nxtR G (e : Int)) := by
      rcases bestN_why G d cl (nxtR G (e : Int)) b0 with h1 | ⟨x, hx, hg, h1⟩
      · by_cases hv : (eAt G (e : Int)).2.1 = v
        · have := hst hv; omega
        · rw [if_neg hv] at hb0; omega
      · obtain ⟨k, rfl, hk⟩ := hin x hx
        have := hgo k hk hg
        omega
    omega
  · rcases bestN_why G d cl (nxtR G (e : Int)) b0 with h1 | ⟨x, hx, hg, h1⟩
    · by_cases hv : (eAt G (e : Int)).2.1 = v
      · have := hst hv; omega
      · rw [if_neg hv] at hb0; omega
    · obtain ⟨k, rfl, hk⟩ := hin x hx
      have := hgo k hk hg
      omega
/-- Along a walk without what is closed. -/
theorem path_le {G : GD} {hm : May G} {v : Int} {cl : List Bool} {d : List Int} (h : Fix (webTo G hm v cl) d) : ∀ (xs : List Int) (k : Nat), wlk G (k : Int) xs = true → (∀ x ∈ xs, clB cl x = false) → 0 ≤ dAt d (lastD (k : Int) xs).toNat → 0 ≤ dAt d k ∧ dAt d k ≤ wS G xs + dAt d (lastD (k : Int) xs).toNat
  | [], k, _, _, h0 => by
    have e : (lastD (k : Int) []).toNat = k := by simp [lastD]
    rw [e] at h0 ⊢
    exact ⟨h0, by show dAt d k ≤ 0 + dAt d k; omega⟩
  | x :: xs, k, hw, hc, h0 => by
    have hw2 : (turnB G (k : Int) x && wlk G x xs) = true := hw
    obtain ⟨w1, w2⟩ := Bool.and_eq_true_iff.1 hw2
    obtain ⟨j, rfl⟩ := Int.eq_ofNat_of_zero_le (turnB_in w1).2.1
    have e : lastD (k : Int) ((j : Int) :: xs) = lastD (j : Int) xs := by
      unfold lastD
      rw [List.getLast?_cons]
      simp
    rw [e] at h0 ⊢
    have ih := path_le h xs j w2 (fun y hy => hc y (by simp [hy])) h0
    have hs := h.shut k j ⟨w1, hc _ (by simp)⟩ ih.1
    have e2 : (webTo G hm v cl).wt k j = (eAt G (j : Int)).2.2 := rfl
    rw [e2] at hs
    have e3 : wS G ((j : Int) :: xs) = (eAt G (j : Int)).2.2 + wS G xs := rfl
    omega
theorem stroll_le {G : GD} {hm : May G} {v : Int} {cl : List Bool} {d : List Int} (h : Fix (webTo G hm v cl) d) (ws : List Int) (k : Nat) (i : Nat) (hi : i < ws.length) (hw : wlk G (k : Int) ws = true) (hc : ∀ x ∈ ws.take (i + 1), clB cl x = false) (hv : (eAt G ws[i]).2.1 = v) (hx : edB G ws[i] = true) : 0 ≤ dAt d k ∧ dAt d k ≤ wS G (ws.take (i + 1)) := by
  have hx2 := of_decide_eq_true hx
  obtain ⟨j, hj⟩ := Int.eq_ofNat_of_zero_le hx2.1
  have hl : lastD (k : Int) (ws.take (i + 1)) = (j : Int) := by rw [lastD_take _ _ _ hi, hj]
  have h0 : dAt d j = 0 := h.st j (by show (eAt G (j : Int)).2.1 = v; rw [← hj]; exact hv) (by have := hx2.2; rw [hj] at this; show j < G.E.length; omega)
  have hwt : wlk G (k : Int) (ws.take (i + 1)) = true := by
    have := wlk_append G (k : Int) (ws.take (i + 1)) (ws.drop (i + 1))
    rw [List.take_append_drop, hw] at this
    exact (Bool.and_eq_true_iff.1 this.symm).1
  have := path_le h (ws.take (i + 1)) k hwt hc (by rw [hl, Int.toNat_natCast, h0]; exact Int.le_refl _)
  rw [hl, Int.toNat_natCast, h0] at this
  omega
end Go.Proofs.Ytgiojfihgdifbaa
