/- What is told of a frame that was made, cut short, made longer, of another version. -/
import Derived.Test.YtabfmnlpipbegaaFr2
namespace Mile
open Go Go.RowKit

theorem getD_left {l m : List Int} {i : Nat} (h : i < l.length) : (l ++ m).getD i 0 = l.getD i 0 := by simp [List.getD, List.getElem?_append_left h]
theorem fr_take (hd : List Int) : (frL hd).take ((frL hd).length - 4) = hd := by rw [fr_len]; unfold frL; simp
theorem fr_drop (hd : List Int) : (frL hd).drop ((frL hd).length - 4) = digs (csum hd).toNat 4 := by rw [fr_len]; unfold frL; simp
theorem fr_bodyN {hd : List Int} (h : 5 ≤ hd.length) : bodyN (frL hd) = bodyN hd := by
  unfold bodyN frL
  rw [getD_left (by omega), getD_left (by omega)]
theorem framed_fr {hd : List Int} (h : 5 ≤ hd.length) : framed (frL hd) ↔ (hd.length : Int) = bodyN hd + 5 ∧ hd.getD 0 0 = 77 := by
  have h0 : (frL hd).getD 0 0 = hd.getD 0 0 := by unfold frL; rw [getD_left (by omega)]
  unfold framed
  rw [fr_take, fr_drop, fr_bodyN h, fr_len, h0, undigs_digs_fit _ _ (sum_fits _)]
  constructor
  · rintro ⟨⟨_, h1⟩, h2, _⟩; exact ⟨by omega, h2⟩
  · rintro ⟨h1, h2⟩; exact ⟨⟨by omega, by omega⟩, h2, rfl⟩
theorem unS_fr {hd : List Int} (h : 5 ≤ hd.length) (h1 : (hd.length : Int) = bodyN hd + 5) : unS (frL hd) = if hd.getD 0 0 = 77 then (if hd.getD 1 0 = 3 then (if bodyN hd ≤ 2000 then ((hd.getD 2 0, hd.drop 5), 0) else ((0, []), 2)) else ((0, []), 3)) else ((0, []), 2) := by
  have g1 : (frL hd).getD 1 0 = hd.getD 1 0 := by unfold frL; rw [getD_left (by omega)]
  have g2 : (frL hd).getD 2 0 = hd.getD 2 0 := by unfold frL; rw [getD_left (by omega)]
  have g3 : ((frL hd).drop 5).take ((frL hd).length - 9) = hd.drop 5 := by
    rw [fr_len]
    unfold frL
    rw [List.drop_append_of_le_length h, List.take_append_of_le_length (by rw [List.length_drop]; omega), List.take_of_length_le (by rw [List.length_drop]; omega)]
  have hf := framed_fr h
  unfold unS
  rw [g1, g2, g3, fr_bodyN h]
  by_cases h0 : hd.getD 0 0 = 77
  · rw [if_pos (hf.2 ⟨h1, h0⟩), if_pos h0]
  · rw [if_neg (fun e => h0 (hf.1 e).2), if_neg h0]
theorem hd_form (kind : Int) (body : List Int) : hdL kind body = 77 :: 3 :: kind :: (body.length : Int) / 256 % 256 :: (body.length : Int) % 256 :: body := by
  unfold hdL
  show [77, 3, kind] ++ [(body.length : Int) / 2 ^ (8 * 1) % 256, (body.length : Int) / 2 ^ (8 * 0) % 256] ++ body = _
  simp
theorem hd_bodyN {kind : Int} {body : List Int} (h : body.length ≤ 65535) : bodyN (hdL kind body) = body.length := by
  rw [hd_form]
  show (body.length : Int) / 256 % 256 * 256 + (body.length : Int) % 256 = _
  omega
theorem hd_long {kind : Int} {body : List Int} (h : body.length ≤ 65535) : ((hdL kind body).length : Int) = bodyN (hdL kind body) + 5 := by
  rw [hd_bodyN h, hd_len]; omega
/-- A frame that was made is read as it was. -/
theorem unS_wrap {kind : Int} {body : List Int} (h : body.length ≤ 2000) : unS (frL (hdL kind body)) = ((kind, body), 0) := by
  have h5 : 5 ≤ (hdL kind body).length := by rw [hd_len]; omega
  rw [unS_fr h5 (hd_long (by omega)), hd_bodyN (by omega), hd_form]
  show (if (77 : Int) = 77 then (if (3 : Int) = 3 then (if (body.length : Int) ≤ 2000 then ((kind, body), 0) else ((0, []), 2)) else ((0, []), 3)) else ((0, []), 2) : (Int × List Int) × Int) = _
  rw [if_pos rfl, if_pos rfl, if_pos (by omega)]
theorem unS_bad {b : List Int} (h : ¬ framed b) : unS b = ((0, []), 2) := by unfold unS; rw [if_neg h]
theorem getD_take {l : List Int} {i j : Nat} (h : i < j) : (l.take j).getD i 0 = l.getD i 0 := by
  simp only [List.getD, List.getElem?_take]; rw [if_pos h]
/-- Cut short it is none. -/
theorem unS_cut {hd : List Int} (h : 5 ≤ hd.length) (h1 : (hd.length : Int) = bodyN hd + 5) {j : Nat} (hj : j < (frL hd).length) : unS ((frL hd).take j) = ((0, []), 2) := by
  refine unS_bad ?_
  rintro ⟨⟨k1, k2⟩, _⟩
  rw [List.length_take, Nat.min_eq_left (by omega)] at k1 k2
  have hb : bodyN ((frL hd).take j) = bodyN hd := by
    rw [← fr_bodyN h]; unfold bodyN; rw [getD_take (by omega), getD_take (by omega)]
  rw [hb] at k2
  rw [fr_len] at hj
  omega
/-- Longer it is none. -/
theorem unS_more {hd : List Int} (h : 5 ≤ hd.length) (h1 : (hd.length : Int) = bodyN hd + 5) (x : Int) : unS (frL hd ++ [x]) = ((0, []), 2) := by
  refine unS_bad ?_
  rintro ⟨⟨k1, k2⟩, _⟩
  have hl := fr_len hd
  have hb : bodyN (frL hd ++ [x]) = bodyN hd := by
    rw [← fr_bodyN h]; unfold bodyN; rw [getD_left (by omega), getD_left (by omega)]
  rw [hb, List.length_append] at k2
  simp at k2
  omega
end Mile
