/- levels: Cuts, what is promoted, nil forms, by contract. -/
import Derived.Test.YtjjedebjbgpimaaGreatLv5
namespace Go.Proofs.YtjjedebjbgpimaaGreat
open Go.RowKit Mile
set_option maxRecDepth 100000
attribute [local go_sem] Oper.semAt_some
end Go.Proofs.YtjjedebjbgpimaaGreat
