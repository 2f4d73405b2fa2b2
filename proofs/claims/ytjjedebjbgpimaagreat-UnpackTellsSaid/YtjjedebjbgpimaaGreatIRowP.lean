/- Rows of numbers in new memory; two of them compared. -/
import Derived.Test.YtjjedebjbgpimaaGreatKBase
import Derived.Test.YtjjedebjbgpimaaGreatInts
import Derived.Test.YtjjedebjbgpimaaGreatKOpen
namespace Go.Proofs.YtjjedebjbgpimaaGreat
open Go.RowKit Mile
theorem opens_il : Opens Tryz.prog 40 (encSlice (encInt .i64)) := opens_slice Tryz.underlying40 (by kernel_rfl) (opens_int Tryz.underlying3) (by decide)
def IRow (xs : List Int) : Value → World → Prop := fun v W => ∃ a c, v = .slice a xs.length c ∧ Rd W 1 (.slice a xs.length c) xs.length (xs.map (Value.int .i64))
theorem IRow.st (xs : List Int) : Stable (Mod (fun _ => False)) (IRow xs) := fun _ _ _ ⟨a, c, h, hr⟩ hm => ⟨a, c, h, hr.keep hm (fun _ _ e => e)⟩
end Go.Proofs.YtjjedebjbgpimaaGreat
