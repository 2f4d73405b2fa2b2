/- The law's own look at what the document fixes (milepostlaw1.awake): true, and nothing that was there has turned. -/
import Derived.Test.YtabfmnlpipbegaaRdrL
namespace Go.Proofs.Ytabfmnlpipbegaa
open Go.RowKit Mile
set_option maxRecDepth 100000

end Go.Proofs.Ytabfmnlpipbegaa
