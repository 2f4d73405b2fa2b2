/- More on slices: where an element lies, what an index runs to. -/
import Derived.Test.YtldnegadkadmkaaBase
import Derived.Lib.Hide
namespace Mile
open Go Go.RowKit

/-- Where element j of a slice lies. -/
def elemA (a : Option Addr) (j size : Nat) : Addr := (a.getD default).add (j * size)

theorem run_indexS {P : Program} (wx : World) (t e : TypeId) (i : TypeInfo) (size : Nat) (ht : P.underlying t = some (.slice e)) (hi : P.info? e = some i) (hs : i.size = size) (a : Option Addr) (n c j : Nat) (hj : j < n) (ha : a ≠ none) :
    (Instr.indexAt t (.slice a n c) (.int .i64 (j : Int))).run P wx = .ok (.pointer (some (elemA a j size))) wx := by
  cases a with
  | none => exact absurd rfl ha
  | some ad =>
    simp [Instr.indexAt, run_underlying ht, asIntOf, Go.sizeOf, typeInfo, hi, hs, elemA]
    intro h; omega

theorem Rd.some_ {w : World} {size n c : Nat} {a : Option Addr} {xs : List Value} (h : Rd w size (.slice a n c) n xs) (hn : 0 < n) : a ≠ none := by
  rintro rfl
  obtain ⟨_, a', c', he, _, _, h3, _⟩ := h
  cases he
  have := (h3 rfl).1
  omega

theorem Rd.elem {w : World} {n c j : Nat} {a : Option Addr} {xs : List Value} (h : Rd w 1 (.slice a n c) n xs) {u : Value} (hj : xs[j]? = some u) : w.cell? (elemA a j 1) = some u := by
  obtain ⟨hl, a', c', he, _, _, h3, h4⟩ := h
  cases he
  cases a with
  | none =>
    obtain ⟨rfl, _⟩ := h3 rfl
    have : xs = [] := List.eq_nil_of_length_eq_zero (by simpa using hl)
    subst this
    simp at hj
  | some ad => simpa [elemA] using (h4 ad rfl).2 j u hj

/-- Of a slice with elements: where element j lies, as a place; its cells. -/
theorem Rd.place {w : World} {size n c j : Nat} {a : Option Addr} {xs : List Value} (h : Rd w size (.slice a n c) n xs) (hj : j < n) : ∃ b o, elemA a j size = ⟨b, o, none⟩ ∧ (Value.slice a n c).ownBlock = some b := by
  obtain ⟨hl, a', c', he, _, _, h3, h4⟩ := h
  cases he
  cases a with
  | none => have := (h3 rfl).1; omega
  | some ad =>
    have hs := (h4 ad rfl).1 (by omega)
    obtain ⟨b, o, sp⟩ := ad
    simp at hs; subst hs
    refine ⟨b, o + j * size, ?_, rfl⟩
    simp only [elemA, Option.getD_some]
    rw [Addr.add_lit]

theorem Rd.elemN {w : World} {size n c j : Nat} {a : Option Addr} {xs : List Value} (h : Rd w size (.slice a n c) n xs) {b o : Nat} (hb : elemA a j size = ⟨b, o, none⟩) (i : Nat) {u : Value} (hj : xs[j * size + i]? = some u) : w.cell? ⟨b, o + i, none⟩ = some u := by
  obtain ⟨hl, a', c', he, _, _, h3, h4⟩ := h
  cases he
  cases a with
  | none =>
    obtain ⟨rfl, _⟩ := h3 rfl
    have : xs = [] := List.eq_nil_of_length_eq_zero (by simpa using hl)
    subst this
    simp at hj
  | some ad =>
    have hc := (h4 ad rfl).2 _ u hj
    have hs : ad.spot = none := by
      refine (h4 ad rfl).1 ?_
      rcases Nat.eq_zero_or_pos n with e | e
      · subst e
        rw [Nat.zero_mul] at hl
        rw [List.eq_nil_of_length_eq_zero hl] at hj
        simp at hj
      · exact e
    obtain ⟨b', o', sp⟩ := ad
    simp at hs; subst hs
    simp only [elemA, Option.getD_some] at hb
    rw [Addr.add_lit] at hb
    cases hb
    rw [Addr.add_lit] at hc
    rw [show o' + j * size + i = o' + (j * size + i) by omega]
    exact hc

end Mile
