/- The law FrameVersions, walked. -/
import Derived.Test.YtabfmnlpipbegaaBack3
import Derived.Laws.OwnMore
import Derived.Deep.DeepCutAuto
import Derived.Deep.CutBlock
namespace Mile
open Go Go.RowKit
theorem set4 (hd t : List Int) (ht : t.length = 4) (L : Nat) (hL : hd.length = L) (d0 d1 d2 d3 : Int) : ((((hd ++ t).set L d0).set (L + 1) d1).set (L + 2) d2).set (L + 3) d3 = hd ++ [d0, d1, d2, d3] := by
  subst hL
  match t, ht with
  | [w, x, y, z], _ =>
    apply List.ext_getElem?
    intro i
    rcases Nat.lt_or_ge i hd.length with h | h
    · rw [List.getElem?_set_ne (by omega), List.getElem?_set_ne (by omega), List.getElem?_set_ne (by omega), List.getElem?_set_ne (by omega), List.getElem?_append_left h, List.getElem?_append_left h]
    · obtain ⟨k, rfl⟩ := Nat.exists_eq_add_of_le h
      have hl : (hd ++ [w, x, y, z]).length = hd.length + 4 := by simp
      rcases (show k = 0 ∨ k = 1 ∨ k = 2 ∨ k = 3 ∨ 4 ≤ k by omega) with rfl | rfl | rfl | rfl | hk
      · rw [List.getElem?_set_ne (by omega), List.getElem?_set_ne (by omega), List.getElem?_set_ne (by omega), Nat.add_zero, List.getElem?_set_self (by omega)]; simp
      · rw [List.getElem?_set_ne (by omega), List.getElem?_set_ne (by omega), List.getElem?_set_self (by simp)]; simp
      · rw [List.getElem?_set_ne (by omega), List.getElem?_set_self (by simp)]; simp
      · rw [List.getElem?_set_self (by simp)]; simp
      · rw [List.getElem?_eq_none (by simp; omega), List.getElem?_eq_none (by simp; omega)]
theorem digs4 (x : Int) : digs x 4 = [x / 16777216 % 256, x / 65536 % 256, x / 256 % 256, x % 256] := by
  show [x / 2 ^ (8 * 3) % 256, x / 2 ^ (8 * 2) % 256, x / 2 ^ (8 * 1) % 256, x / 2 ^ (8 * 0) % 256] = _
  simp
theorem unS_ver {k v : Int} {body : List Int} (h : body.length ≤ 2000) : unS (frL ((hdL k body).set 1 v)) = if v = 3 then ((k, body), 0) else ((0, []), 3) := by
  have e : (hdL k body).set 1 v = 77 :: v :: k :: (body.length : Int) / 256 % 256 :: (body.length : Int) % 256 :: body := by rw [hd_form]; rfl
  have hb : bodyN (77 :: v :: k :: (body.length : Int) / 256 % 256 :: (body.length : Int) % 256 :: body) = body.length := by
    show (body.length : Int) / 256 % 256 * 256 + (body.length : Int) % 256 = _
    omega
  rw [e, unS_fr (by simp) (by rw [hb]; simp; omega), hb]
  show (if (77 : Int) = 77 then (if v = 3 then (if (body.length : Int) ≤ 2000 then ((k, body), 0) else ((0, []), 2)) else ((0, []), 3)) else ((0, []), 2) : (Int × List Int) × Int) = _
  have hl : (body.length : Int) ≤ 2000 := by omega
  simp only [hl, if_true]
theorem unS_fst {k v : Int} {body : List Int} (h : body.length ≤ 2000) : unS (frL ((hdL k body).set 0 v)) = if v = 77 then ((k, body), 0) else ((0, []), 2) := by
  have e : (hdL k body).set 0 v = v :: 3 :: k :: (body.length : Int) / 256 % 256 :: (body.length : Int) % 256 :: body := by rw [hd_form]; rfl
  have hb : bodyN (v :: 3 :: k :: (body.length : Int) / 256 % 256 :: (body.length : Int) % 256 :: body) = body.length := by
    show (body.length : Int) / 256 % 256 * 256 + (body.length : Int) % 256 = _
    omega
  rw [e, unS_fr (by simp) (by rw [hb]; simp; omega), hb]
  show (if v = 77 then (if (3 : Int) = 3 then (if (body.length : Int) ≤ 2000 then ((k, body), 0) else ((0, []), 2)) else ((0, []), 3)) else ((0, []), 2) : (Int × List Int) × Int) = _
  have hl : (body.length : Int) ≤ 2000 := by omega
  simp only [hl, if_true]
end Mile
namespace Go.Proofs.Ytabfmnlpipbegaa
open Go.RowKit Mile
set_option maxRecDepth 100000

theorem own_some3 {w : World} {base : Nat} {e : TypeId} {size : Nat} {a : Option Addr} {n c : Nat} {xs : List Value} (h : w.ownsRow base e size (.slice a n c) n xs) (hn : 0 < n) : ∃ g, a = some ⟨g, 0, none⟩ := by
  rcases h.2 with ⟨h', _⟩ | ⟨g, cap, cur, h', _⟩
  · simp only [Value.slice.injEq] at h'; omega
  · cases h'; exact ⟨g, rfl⟩
theorem own_cell {w : World} {base : Nat} {e : TypeId} {g n c : Nat} {xs : List Value} (h : w.ownsRow base e 1 (.slice (some ⟨g, 0, none⟩) n c) n xs) (j : Nat) (hj : j < n) : ∃ v, w.cell? ⟨g, j, none⟩ = some v := by
  have hl := h.1
  rw [Nat.mul_one] at hl
  exact ⟨xs[j]'(by omega), by rw [h.cellAt j (by omega)]; exact List.getElem?_eq_getElem (by omega)⟩

end Go.Proofs.Ytabfmnlpipbegaa
