/- Graphs' facts from a world on. -/
import Derived.Test.YtbjdjafkpldbnaaEv
import Derived.Test.YtbjdjafkpldbnaaKGr
namespace Go.Proofs.Ytbjdjafkpldbnaa
open Go.RowKit Mile
theorem Ev.gv {w : World} {a1 : Option Addr} {n1 d1 : Nat} {a2 : Option Addr} {n2 d2 : Nat} {a3 : Option Addr} {n3 d3 : Nat} {G : GD} (h : GV w a1 n1 d1 a2 n2 d2 a3 n3 d3 G) : Ev (fun W => GV W a1 n1 d1 a2 n2 d2 a3 n3 d3 G) w := fun _ m => h.keep m
theorem Ev.go {w : World} {p B C : Nat} {G : GD} (h : GO w p B C G) : Ev (fun W => GO W p B C G) w := fun _ m => h.keep m (fun _ _ _ e => e)
end Go.Proofs.Ytbjdjafkpldbnaa
