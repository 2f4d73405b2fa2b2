/- What all hints of a way add up to, as plain lists. -/
import Derived.Test.YtagmnkobigecnaaKGuide
namespace Go.Proofs.Ytagmnkobigecnaa
open Go.RowKit Mile
set_option maxRecDepth 100000
theorem hintsL_len (G : GD) : ∀ (m : Nat) (f : Int) (xs : List Int) (W : Int), (hintsL G m f xs W).length ≤ m
  | 0, _, _, _ => by simp [hintsL]
  | m + 1, f, xs, W => by
    rw [hintsL]
    split
    · simp
    · have := hintsL_len G m (nextL G W f xs 0 0).1.2.1 (xs.drop (nextL G W f xs 0 0).2) (W - (nextL G W f xs 0 0).1.2.2.1 - wtE G (nextL G W f xs 0 0).1.2.1)
      simp; omega
/-- Where the law stands behind k hints. -/
def SumSt (G : GD) (L : List H4) (k : Nat) (W1 : Int) : Prop :=
  ∃ (m : Nat) (f : Int) (xs : List Int) (P : List H4), L = P ++ hintsL G (m + 1) f xs W1 ∧ P.length = k ∧ W1 = wE G xs ∧ xs.length ≤ m ∧ allE G xs = true
theorem sum_start (G : GD) (n : Nat) (f : Int) (ws : List Int) (h : ws.length ≤ n) (ha : allE G ws = true) : SumSt G (hintsL G (n + 1) f ws (wE G ws)) 0 (wE G ws) :=
  ⟨n, f, ws, [], rfl, rfl, rfl, h, ha⟩
theorem sum_head (G : GD) (m : Nat) (f : Int) (xs : List Int) (W : Int) : ∃ r, hintsL G (m + 1) f xs W = (nextL G W f xs 0 0).1 :: r := by
  rw [hintsL]; split <;> exact ⟨_, rfl⟩
/-- One hint more. -/
theorem sum_step (G : GD) (hm : May G) (L : List H4) (k : Nat) (W1 : Int) (h : SumSt G L k W1) : ∃ (hk : k < L.length),
    L[k].2.2.2 = W1 ∧ 0 ≤ L[k].2.2.1 ∧ ((L[k].1 = 9 ∧ L[k].2.1 = -1 ∧ L[k].2.2.1 = W1 ∧ L.length = k + 1) ∨
    (L[k].1 ≠ 9 ∧ edB G L[k].2.1 = true ∧ 1 ≤ wtE G L[k].2.1 ∧ wtE G L[k].2.1 ≤ 65535 ∧ SumSt G L (k + 1) (W1 - L[k].2.2.1 - wtE G L[k].2.1) ∧ 0 ≤ W1 - L[k].2.2.1 - wtE G L[k].2.1)) := by
  obtain ⟨m, f, xs, P, hL, hP, hW, hx, ha⟩ := h
  obtain ⟨c, g, hn⟩ : ∃ c g, nextL G W1 f xs 0 0 = (c, g) := ⟨_, _, rfl⟩
  have hs := hintsL_succ G m f xs W1 c g hn
  rw [hs] at hL
  have hk : k < L.length := by rw [hL, List.length_append, List.length_append, hP]; simp; omega
  have hc : L[k] = c := by
    have : L[k]? = some c := by rw [hL, List.getElem?_append_right (by omega), hP]; simp
    rw [List.getElem?_eq_getElem hk] at this; exact Option.some.inj this
  refine ⟨hk, ?_⟩
  rw [hc]
  rcases nextL_fin G W1 f xs c g hn with ⟨h1, h2, h3, _, h5⟩ | ⟨h1, h2, h3, h4, h5, a, b, h6, h7, h8⟩
  · have hwe := wE_le G hm xs
    refine ⟨h5, by rw [h3]; exact hwe.1, .inl ⟨h1, h2, by rw [h3, hW], ?_⟩⟩
    rw [hL, if_pos h1]; simp [hP]
  · have hwa := wE_le G hm a
    have hwb := wE_le G hm b
    have hal : allE G xs = (allE G a && (edB G c.2.1 && allE G b)) := by rw [h6]; simp [allE, List.all_append]
    rw [ha] at hal
    have hal2 := Bool.and_eq_true_iff.1 hal.symm
    have hal3 := Bool.and_eq_true_iff.1 hal2.2
    have hwt := wt_le G hm _ hal3.1
    rw [← wtE_in G hal3.1] at hwt
    have hsum : W1 = c.2.2.1 + (wtE G c.2.1 + wE G b) := by rw [hW, h6, wE_append, h8]; rfl
    have hbl : b.length ≤ m - 1 ∧ 1 ≤ m := by have := congrArg List.length h6; rw [List.length_append, List.length_cons] at this; omega
    refine ⟨h5, by rw [h8]; exact hwa.1, .inr ⟨by omega, hal3.1, hwt.1, hwt.2, ?_, by omega⟩⟩
    obtain ⟨m', rfl⟩ : ∃ m', m = m' + 1 := ⟨m - 1, by omega⟩
    refine ⟨m', c.2.1, b, P ++ [c], ?_, by simp [hP], by omega, by omega, hal3.2⟩
    rw [hL, if_neg (by omega), h7, List.append_assoc]
end Go.Proofs.Ytagmnkobigecnaa
