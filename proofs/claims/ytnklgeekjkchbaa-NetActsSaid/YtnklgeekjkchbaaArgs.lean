/- What is told of a slice of integers that came in, and how it reads. -/
import Derived.Test.YtnklgeekjkchbaaBase2
namespace Mile
open Go Go.RowKit

/-- A slice of integers that came in: nil; or a row of 'cap' cells, the numbers 'zs', each fitting its kind. -/
def IsRow (k : IntKind) (w : World) (a : Option Addr) (len cap : Nat) (zs : List Int) : Prop :=
  (a = none ∧ len = 0 ∧ cap = 0 ∧ zs = []) ∨
  ∃ x, a = some x ∧ len ≤ cap ∧ cap ≤ maxLen ∧ zs.length = cap ∧ (∀ i, i < zs.length → w.cell? (x.add i) = some (.int k (zs.getD i 0))) ∧ ∀ n ∈ zs, (Lit.int k n).wf = true

theorem IsRow.reads {k : IntKind} {w : World} {a : Option Addr} {len cap : Nat} {zs : List Int} (h : IsRow k w a len cap zs) :
    ∃ ns : List Int, ns.length = len ∧ Rd w 1 (.slice a len cap) len (ns.map (Value.int k)) ∧ ∀ n ∈ ns, (Lit.int k n).wf = true := by
  rcases h with ⟨rfl, rfl, rfl, rfl⟩ | ⟨x, rfl, h1, h2, h3, h4, h5⟩
  · exact ⟨[], rfl, Rd.nil _ _, by simp⟩
  · have hl : (zs.take len).length = len := by rw [List.length_take]; omega
    refine ⟨zs.take len, hl, ⟨by simp; omega, some x, cap, rfl, h1, h2, fun e => (by cases e), fun ad had => ?_⟩, fun n hn => h5 n (List.mem_of_mem_take hn)⟩
    cases had
    refine ⟨fun hp => ?_, fun j u hj => ?_⟩
    · have hc := h4 0 (by omega)
      simpa [Addr.add] using World.cell?_spot hc
    · have hjl : j < len := by
        have := (List.getElem?_eq_some_iff.1 hj).1
        simp at this; omega
      have e : ((zs.take len).map (Value.int k))[j]? = some (.int k (zs.getD j 0)) := by
        simp [hjl, List.getD, show j < zs.length by omega]
      rw [e] at hj
      rw [h4 j (by omega)]
      exact hj

theorem u8_range {ns : List Int} (h : ∀ n ∈ ns, (Lit.int .u8 n).wf = true) : ∀ n ∈ ns, 0 ≤ n ∧ n < 256 := by
  intro n hn
  have := h n hn
  simp [Lit.wf, IntKind.min, IntKind.max, IntKind.signed, IntKind.bits] at this
  omega

end Mile
