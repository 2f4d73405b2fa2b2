/- The law FrameBack, walked. -/
import Derived.Test.YtabfmnlpipbegaaAwake3
import Derived.Test.YtabfmnlpipbegaaRound
import Derived.Test.YtabfmnlpipbegaaOpensBI
namespace Go.Proofs.Ytabfmnlpipbegaa
open Go.RowKit Mile
set_option maxRecDepth 100000

theorem byte_wf {x : Int} (h : (Lit.int .u8 x).wf = true) : 0 ≤ x ∧ x < 256 := by
  have : 0 ≤ x ∧ x ≤ 255 := by simpa [Lit.wf, IntKind.min, IntKind.max, IntKind.signed, IntKind.bits] using h
  omega
end Go.Proofs.Ytabfmnlpipbegaa
