/- Rows of five numbers that are handed in. -/
import Derived.Test.YtnklgeekjkchbaaOpen3
namespace Mile
open Go Go.RowKit
abbrev T5 := Int × Int × Int × Int × Int
def c5T (x : T5) : List Value := [.int .i64 x.1, .int .i64 x.2.1, .int .i64 x.2.2.1, .int .i64 x.2.2.2.1, .int .i64 x.2.2.2.2]
theorem c5T_at : ∀ (R : List T5) (i : Nat) (hi : i < R.length), (R.flatMap c5T)[i * 5 + 0]? = some (.int .i64 R[i].1) ∧ (R.flatMap c5T)[i * 5 + 1]? = some (.int .i64 R[i].2.1) ∧ (R.flatMap c5T)[i * 5 + 2]? = some (.int .i64 R[i].2.2.1) ∧ (R.flatMap c5T)[i * 5 + 3]? = some (.int .i64 R[i].2.2.2.1) ∧ (R.flatMap c5T)[i * 5 + 4]? = some (.int .i64 R[i].2.2.2.2)
  | b :: R, 0, _ => by simp [c5T]
  | b :: R, i + 1, hi => by
    have h := c5T_at R i (by simpa using hi)
    have e : ∀ j, ((b :: R).flatMap c5T)[(i + 1) * 5 + j]? = (R.flatMap c5T)[i * 5 + j]? := fun j => by
      rw [List.flatMap_cons, List.getElem?_append_right (by simp [c5T]; omega), show (i + 1) * 5 + j - (c5T b).length = i * 5 + j by simp [c5T]; omega]
    rw [e, e, e, e, e]
    simpa using h
theorem opens_array5 {α : Type} {P : Program} {t e : TypeId} {E : Enc α} (ht : P.underlying t = some (.array 5 e)) (hc : P.cellsOf t = E.cells + (E.cells + (E.cells + (E.cells + E.cells)))) (hce : P.cellsOf e = E.cells) (hE : Opens P e E) : Opens P t (encPair E (encPair E (encPair E (encPair E E)))) := by
  intro H enc w base spare held fuel cs x h
  obtain ⟨xs, m, _, _, hl, hxl, hf⟩ := DataW.trod_array ht h
  have h0 := hf 0 (by omega)
  have h1 := hf 1 (by omega)
  have h2 := hf 2 (by omega)
  have h3 := hf 3 (by omega)
  have h4 := hf 4 (by omega)
  rw [List.getElem?_eq_getElem (show 0 < xs.length by omega)] at h0
  rw [List.getElem?_eq_getElem (show 1 < xs.length by omega)] at h1
  rw [List.getElem?_eq_getElem (show 2 < xs.length by omega)] at h2
  rw [List.getElem?_eq_getElem (show 3 < xs.length by omega)] at h3
  rw [List.getElem?_eq_getElem (show 4 < xs.length by omega)] at h4
  rw [hce] at h0 h1 h2 h3 h4
  obtain ⟨a, ha, hoka⟩ := hE H enc w base spare held m _ _ h0
  obtain ⟨b, hb, hokb⟩ := hE H enc w base spare held m _ _ h1
  obtain ⟨c, hc', hokc⟩ := hE H enc w base spare held m _ _ h2
  obtain ⟨d, hd, hokd⟩ := hE H enc w base spare held m _ _ h3
  obtain ⟨f, hf', hokf⟩ := hE H enc w base spare held m _ _ h4
  refine ⟨(a, b, c, d, f), ?_, hoka, hokb, hokc, hokd, hokf⟩
  show cs = E.img a ++ (E.img b ++ (E.img c ++ (E.img d ++ E.img f)))
  rw [← ha, ← hb, ← hc', ← hd, ← hf']
  simp only [Nat.zero_mul, List.drop_zero, Nat.one_mul]
  rw [List.take_of_length_le (show (cs.drop (4 * E.cells)).length ≤ E.cells by rw [List.length_drop]; omega), show 4 * E.cells = 3 * E.cells + E.cells by omega, ← List.drop_drop, List.take_append_drop, show 3 * E.cells = 2 * E.cells + E.cells by omega, ← List.drop_drop, List.take_append_drop, show 2 * E.cells = E.cells + E.cells by omega, ← List.drop_drop, List.take_append_drop, List.take_append_drop]
abbrev enc5 : Enc T5 := encPair (encInt .i64) (encPair (encInt .i64) (encPair (encInt .i64) (encPair (encInt .i64) (encInt .i64))))
theorem ok_t5 {w : World} {a : Option Addr} {n c : Nat} {T : List T5} (ok : (encSlice enc5).ok w (.slice a n c, T)) : T.length = n ∧ Rd w 5 (.slice a n c) n (T.flatMap c5T) := by
  obtain ⟨hr, _⟩ := ok
  have hr' : Rd w 5 (.slice a n c) T.length (T.flatMap c5T) := hr
  have hn := hr'.len_eq
  subst hn
  exact ⟨rfl, hr'⟩
end Mile
namespace Go.Proofs.Ytnklgeekjkchbaa
open Go.RowKit Mile
theorem opens_t5 : Opens Try.prog 60 (encSlice enc5) := opens_slice Try.underlying60 (by kernel_rfl) (opens_array5 Try.underlying61 (by kernel_rfl) (by kernel_rfl) (opens_int Try.underlying3)) (by decide)
theorem rd5T {w : World} {n c : Nat} {a : Option Addr} {R : List T5} (h : Rd w 5 (.slice a n c) n (R.flatMap c5T)) (i : Nat) (hi : i < R.length) :
    ∃ b o, elemA a i 5 = ⟨b, o, none⟩ ∧ w.cell? ⟨b, o, none⟩ = some (.int .i64 R[i].1) ∧ w.cell? ⟨b, o + 1, none⟩ = some (.int .i64 R[i].2.1) ∧ w.cell? ⟨b, o + 2, none⟩ = some (.int .i64 R[i].2.2.1) ∧ w.cell? ⟨b, o + 3, none⟩ = some (.int .i64 R[i].2.2.2.1) ∧ w.cell? ⟨b, o + 4, none⟩ = some (.int .i64 R[i].2.2.2.2) := by
  obtain ⟨k1, k2, k3, k4, k5⟩ := c5T_at R i hi
  have hl : (R.flatMap c5T).length = R.length * 5 := by
    clear h hi k1 k2 k3 k4 k5
    induction R with
    | nil => rfl
    | cons x R ih => rw [List.flatMap_cons, List.length_append, ih]; simp [c5T]; omega
  have hn : n = R.length := by have := h.1; rw [hl] at this; omega
  obtain ⟨b, o, hp, _⟩ := h.place (j := i) (by omega)
  exact ⟨b, o, hp, by have := h.elemN hp 0 k1; simpa using this, h.elemN hp 1 k2, h.elemN hp 2 k3, h.elemN hp 3 k4, h.elemN hp 4 k5⟩
theorem run_indexA5 {P : Program} (wx : World) (t e : TypeId) (i : TypeInfo) (ht : P.underlying t = some (.array 5 e)) (hi : P.info? e = some i) (hs : i.size = 1) (nb k : Nat) (hk : k < 5) :
    (Instr.indexAt t (.pointer (some ⟨nb, 0, none⟩)) (.int .i64 (k : Int))).run P wx = .ok (.pointer (some ⟨nb, k, none⟩)) wx := by
  rcases (show k = 0 ∨ k = 1 ∨ k = 2 ∨ k = 3 ∨ k = 4 by omega) with rfl | rfl | rfl | rfl | rfl <;> simp [Instr.indexAt, run_underlying ht, asIntOf, Go.sizeOf, typeInfo, hi, hs, Instr.sureAddr, Addr.add]
theorem Nt.infoT5 : (Try.prog.info? 61).map (fun i => (i.zero, i.size, i.bytes)) = some (some (.agg #[.int .i64 0, .int .i64 0, .int .i64 0, .int .i64 0, .int .i64 0]), 5, 40) := by kernel_rfl
end Go.Proofs.Ytnklgeekjkchbaa
