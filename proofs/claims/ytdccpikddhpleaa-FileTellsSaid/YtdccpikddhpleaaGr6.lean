/- Contracts of package graph's rows: one row told. -/
import Derived.Test.YtdccpikddhpleaaGr5
import Derived.StillTailTactics
namespace Mile
open Go Go.RowKit
theorem run_midS {P : Program} (w : World) (t e : TypeId) (i : TypeInfo) (size : Nat) (ht : P.underlying t = some (.slice e)) (hi : P.info? e = some i) (hs : i.size = size) (a : Option Addr) (len cap n m : Nat) (h1 : n ≤ m) (h2 : m ≤ cap) :
    (Instr.slice t (.slice a len cap) (some (.int .i64 (n : Int))) (some (.int .i64 (m : Int))) none).run P w = .ok (.slice (dropA a cap n size) (m - n) (cap - n)) w := by
  have k1 : (n : Int) ≤ (m : Int) := by omega
  have k2 : (m : Int) ≤ (cap : Int) := by omega
  simp [Instr.slice, run_underlying ht, Instr.sliceBounds, run_sliceBound, k1, k2, Go.sizeOf, typeInfo, hi, hs, dropA]
end Mile
