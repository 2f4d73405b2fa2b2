/- milepostalike.Ints: are two rows of numbers one? -/
import Derived.Test.YtbjdjafkpldbnaaRows
import Derived.Test.YtbjdjafkpldbnaaBase2
import Derived.Deep.QuietTactic
import Derived.BigQuiet
import Derived.Lib.Hide
namespace Go.Proofs.Ytbjdjafkpldbnaa
open Go.RowKit Mile
set_option maxRecDepth 100000
theorem In.info3 : (Try.prog.info? 3).map (fun i => (i.zero, i.size, i.bytes)) = some (some (.int .i64 0), 1, 8) := by kernel_rfl

end Go.Proofs.Ytbjdjafkpldbnaa
