/- Slices of bytes and of ints that came in. -/
import Derived.Test.YtabfmnlpipbegaaOpens
namespace Go.Proofs.Ytabfmnlpipbegaa
open Go.RowKit Mile
theorem opens_bytes : Opens Try.prog 27 (encSlice (encInt .u8)) := opens_slice Try.underlying27 (by kernel_rfl) (opens_int Try.underlying5) (by decide)
theorem opens_ints : Opens Try.prog 22 (encSlice (encInt .i64)) := opens_slice Try.underlying22 (by kernel_rfl) (opens_int Try.underlying3) (by decide)
end Go.Proofs.Ytabfmnlpipbegaa
