/- milepostref4.ArcsSame of two rows of Ar, by contract (from XArcsSame). -/
import Derived.Test.YtjjedebjbgpimaaGreatKMd
import Derived.Deep.DeepCutAuto
import Derived.Deep.CutBlock
namespace Go.Proofs.YtjjedebjbgpimaaGreat
open Go.RowKit Mile
set_option maxRecDepth 100000
end Go.Proofs.YtjjedebjbgpimaaGreat
