/- levels: Rank, Up, Down, Cuts, by contract. -/
import Derived.Test.YtjjedebjbgpimaaGreatLv4
import Derived.Test.YtjjedebjbgpimaaGreatLvD
namespace Go.Proofs.YtjjedebjbgpimaaGreat
open Go.RowKit Mile
set_option maxRecDepth 100000
attribute [local go_sem] Oper.semAt_some
end Go.Proofs.YtjjedebjbgpimaaGreat
