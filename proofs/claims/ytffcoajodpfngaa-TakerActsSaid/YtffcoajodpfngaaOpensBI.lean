/- Slices of bytes and of ints that came in. -/
import Derived.Test.YtffcoajodpfngaaOpens
namespace Go.Proofs.Ytffcoajodpfngaa
open Go.RowKit Mile
theorem opens_bytes : Opens Try.prog 23 (encSlice (encInt .u8)) := opens_slice Try.underlying23 (by kernel_rfl) (opens_int Try.underlying5) (by decide)
theorem opens_ints : Opens Try.prog 22 (encSlice (encInt .i64)) := opens_slice Try.underlying22 (by kernel_rfl) (opens_int Try.underlying3) (by decide)
end Go.Proofs.Ytffcoajodpfngaa
