/- Slices of bytes and of ints that came in. -/
import Derived.Test.YtopldodfkcgmhaaOpens
namespace Go.Proofs.Ytopldodfkcgmhaa
open Go.RowKit Mile
theorem opens_bytes : Opens Try.prog 35 (encSlice (encInt .u8)) := opens_slice Try.underlying35 (by kernel_rfl) (opens_int Try.underlying5) (by decide)
theorem opens_ints : Opens Try.prog 44 (encSlice (encInt .i64)) := opens_slice Try.underlying44 (by kernel_rfl) (opens_int Try.underlying3) (by decide)
end Go.Proofs.Ytopldodfkcgmhaa
