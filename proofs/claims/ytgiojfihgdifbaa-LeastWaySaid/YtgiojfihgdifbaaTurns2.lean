/- turns.May by contract; milepostref4's Turn, Next, Prev by contract. -/
import Derived.Test.YtgiojfihgdifbaaTurns
import Derived.Test.YtgiojfihgdifbaaR4
import Derived.Deep.DeepCutAuto
import Derived.Deep.CutBlock
namespace Go.Proofs.Ytgiojfihgdifbaa
open Go.RowKit Mile
set_option maxRecDepth 100000

end Go.Proofs.Ytgiojfihgdifbaa
