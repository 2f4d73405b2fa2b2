/- Slices of numbers that came in, opened: for the frame of each law. -/
import Derived.Test.YtnklgeekjkchbaaRows
import Derived.Test.YtnklgeekjkchbaaOpen
namespace Mile
open Go Go.RowKit

theorem Rd.len_eq {w : World} {size n m c : Nat} {a : Option Addr} {xs : List Value} (h : Rd w size (.slice a n c) m xs) : n = m := by
  obtain ⟨_, a', c', he, _⟩ := h
  cases he; rfl

theorem ok_ints {w : World} {k : IntKind} {a : Option Addr} {n c : Nat} {bs : List Int} (ok : (encSlice (encInt k)).ok w (.slice a n c, bs)) :
    bs.length = n ∧ Rd w 1 (.slice a n c) n (bs.map (Value.int k)) ∧ ∀ x ∈ bs, (Lit.int k x).wf = true := by
  obtain ⟨hr, hb⟩ := ok
  have hr : Rd w 1 (.slice a n c) bs.length (bs.flatMap fun x => [Value.int k x]) := hr
  have hn := hr.len_eq
  subst hn
  exact ⟨rfl, by simpa [List.map_eq_flatMap] using hr, hb⟩

theorem okWide_cells {P : Program} {w : World} {r : Reach} {base : Nat} {t : TypeId} {v : Value} (ht : (∃ fs, P.underlying t = some (.struct fs)) ∨ (∃ n e, P.underlying t = some (.array n e))) (h : Value.okWide P w r base t v) : ∃ cs, v = .agg cs := by
  rcases ht with ⟨fs, ht⟩ | ⟨n, e, ht⟩ <;>
  · simp only [Value.okWide, ht] at h
    obtain ⟨cs, h1, _⟩ := h
    exact ⟨cs, h1⟩

end Mile
