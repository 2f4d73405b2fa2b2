/- Rows of three numbers that are handed in. -/
import Derived.Test.YtnklgeekjkchbaaKOpen
import Derived.Test.YtnklgeekjkchbaaKMd
namespace Mile
open Go Go.RowKit
theorem opens_array3 {α : Type} {P : Program} {t e : TypeId} {E : Enc α} (ht : P.underlying t = some (.array 3 e)) (hc : P.cellsOf t = E.cells + (E.cells + E.cells)) (hce : P.cellsOf e = E.cells) (hE : Opens P e E) : Opens P t (encPair E (encPair E E)) := by
  intro H enc w base spare held fuel cs x h
  obtain ⟨xs, m, _, _, hl, hxl, hf⟩ := DataW.trod_array ht h
  have h0 := hf 0 (by omega)
  have h1 := hf 1 (by omega)
  have h2 := hf 2 (by omega)
  rw [List.getElem?_eq_getElem (show 0 < xs.length by omega)] at h0
  rw [List.getElem?_eq_getElem (show 1 < xs.length by omega)] at h1
  rw [List.getElem?_eq_getElem (show 2 < xs.length by omega)] at h2
  rw [hce] at h0 h1 h2
  obtain ⟨a, ha, hoka⟩ := hE H enc w base spare held m _ _ h0
  obtain ⟨b, hb, hokb⟩ := hE H enc w base spare held m _ _ h1
  obtain ⟨c, hc', hokc⟩ := hE H enc w base spare held m _ _ h2
  refine ⟨(a, b, c), ?_, hoka, hokb, hokc⟩
  show cs = E.img a ++ (E.img b ++ E.img c)
  rw [← ha, ← hb, ← hc']
  simp only [Nat.zero_mul, List.drop_zero, Nat.one_mul]
  rw [List.take_of_length_le (show (cs.drop (2 * E.cells)).length ≤ E.cells by rw [List.length_drop]; omega), show 2 * E.cells = E.cells + E.cells by omega, ← List.drop_drop, List.take_append_drop, List.take_append_drop]
abbrev enc3 : Enc (Int × Int × Int) := encPair (encInt .i64) (encPair (encInt .i64) (encInt .i64))
theorem ok_t3 {w : World} {a : Option Addr} {n c : Nat} {T : List T3} (ok : (encSlice enc3).ok w (.slice a n c, T)) : T.length = n ∧ Rd w 3 (.slice a n c) n (T.flatMap c3T) := by
  obtain ⟨hr, _⟩ := ok
  have hr' : Rd w 3 (.slice a n c) T.length (T.flatMap c3T) := hr
  have hn := hr'.len_eq
  subst hn
  exact ⟨rfl, hr'⟩
end Mile
namespace Go.Proofs.Ytnklgeekjkchbaa
open Go.RowKit Mile
theorem opens_t3 : Opens Try.prog 49 (encSlice enc3) := opens_slice Try.underlying49 (by kernel_rfl) (opens_array3 Try.underlying83 (by kernel_rfl) (by kernel_rfl) (opens_int Try.underlying3)) (by decide)
end Go.Proofs.Ytnklgeekjkchbaa
