/- Slices of bytes and of ints that came in. -/
import Derived.Test.YtdahoecejnnjkaaOpens
namespace Go.Proofs.Ytdahoecejnnjkaa
open Go.RowKit Mile
theorem opens_bytes : Opens Try.prog 38 (encSlice (encInt .u8)) := opens_slice Try.underlying38 (by kernel_rfl) (opens_int Try.underlying5) (by decide)
theorem opens_ints : Opens Try.prog 70 (encSlice (encInt .i64)) := opens_slice Try.underlying70 (by kernel_rfl) (opens_int Try.underlying3) (by decide)
end Go.Proofs.Ytdahoecejnnjkaa
