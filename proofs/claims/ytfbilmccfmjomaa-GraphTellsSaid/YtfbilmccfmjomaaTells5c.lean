/- GraphTells, for whatever graph comes in. -/
import Derived.Test.YtfbilmccfmjomaaTells5
import Derived.Test.YtfbilmccfmjomaaOpenG
namespace Go.Proofs.Ytfbilmccfmjomaa
open Go.RowKit Mile
theorem gtells_law (w : World) (cs : Array Value) (x : GraphD) (hcs : cs.toList = encGraph.img x) (ok : encGraph.ok w x) (node : Int) (_ : (Lit.int .i64 node).wf = true) (edge : Int) (_ : (Lit.int .i64 edge).wf = true) (va : Int) (_ : (Lit.int .i64 va).wf = true) (vb : Int) (_ : (Lit.int .i64 vb).wf = true) :
    Calls Try.prog 3 #[.agg cs, .int .i64 node, .int .i64 edge, .int .i64 va, .int .i64 vb] w fun e w' => e = .returned (.bool true) ∧ Below w.heap.size w w' := by
  obtain ⟨G, a1, n1, d1, a2, n2, d2, a3, n3, d3, rfl, hv⟩ := graph_in hcs ok
  exact (gtells_all w G a1 n1 d1 a2 n2 d2 a3 n3 d3 hv node edge va vb).mono fun e w' h => ⟨h.1, h.2.below (Nat.le_refl _) (fun _ e => e.elim)⟩
end Go.Proofs.Ytfbilmccfmjomaa
