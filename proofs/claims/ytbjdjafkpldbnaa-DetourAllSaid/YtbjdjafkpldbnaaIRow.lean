/- Rows of numbers in new memory; two of them compared. -/
import Derived.Test.YtbjdjafkpldbnaaEvG
import Derived.Test.YtbjdjafkpldbnaaInts
import Derived.Test.YtbjdjafkpldbnaaKOpen
import Derived.Test.YtbjdjafkpldbnaaShp
namespace Go.Proofs.Ytbjdjafkpldbnaa
open Go.RowKit Mile
theorem opens_il : Opens Try.prog 22 (encSlice (encInt .i64)) := opens_slice Try.underlying22 (by kernel_rfl) (opens_int Try.underlying3) (by decide)
/-- A row of numbers in new memory. -/
def IRow (xs : List Int) : Value → World → Prop := fun v W => ∃ a c, v = .slice a xs.length c ∧ Rd W 1 (.slice a xs.length c) xs.length (xs.map (Value.int .i64))
theorem IRow.st (xs : List Int) : Stable (Mod (fun _ => False)) (IRow xs) := fun _ _ _ ⟨a, c, h, hr⟩ hm => ⟨a, c, h, hr.keep hm (fun _ _ e => e)⟩
end Go.Proofs.Ytbjdjafkpldbnaa
