/- Contracts of what a graph tells: nodes, edges, rows. -/
import Derived.Test.YtdccpikddhpleaaGr7
import Derived.Laws.ResultCell
namespace Mile
open Go Go.RowKit
/-- A struct that is told out of its variable's memory, and one more. -/
theorem results_row_tmp {P : Program} {fn : Func} {p u : Tmp} {ty : TypeId} (h : fn.results = #[.cell p ty, .tmp u]) (tmps : Array Value) (w : World) (g : Nat) (t : TypeId) (cs : Array Value) (fr : Nat × Nat) (d : TypeDesc)
    (hp : tmps.getD p undef = .pointer (some ⟨g, 0, none⟩)) (hg : w.heap[g]? = some (.cells cs t fr))
    (hu : P.underlying ty = some d) (hd : (match d with | .struct _ | .array _ _ => true | _ => false) = true) (hi : (P.info? ty).map (·.size) = some cs.size) :
    (results fn tmps).run P w = .ok (.tuple #[.agg cs, tmps.getD u undef]) w := by
  rw [results_cell_tmp h, hp]
  simp [asAddr, run_loadVar_row w g t ty cs fr d hg hu hd hi]
end Mile
namespace Go.Proofs.Ytdccpikddhpleaa
open Go.RowKit Mile
set_option maxRecDepth 100000

def nAt (G : GD) (i : Int) : P2 := G.N.getD i.toNat (0, 0)
theorem nAt_eq (G : GD) (i : Nat) (h : i < G.N.length) : nAt G (i : Int) = G.N[i] := by
  unfold nAt; simp [List.getD, h]

def NodeP (G : GD) (i : Int) (w : World) (e : Ending) (w' : World) : Prop := e = .returned (.tuple #[.agg #[.int .i64 (if 0 ≤ i ∧ i < G.N.length then nAt G i else (0, 0)).1, .int .i64 (if 0 ≤ i ∧ i < G.N.length then nAt G i else (0, 0)).2], .bool (decide (0 ≤ i ∧ i < G.N.length))]) ∧ Mod (fun _ => False) w w'
/-- What Edge tells. -/
def EdgeP (G : GD) (i : Int) (w : World) (e : Ending) (w' : World) : Prop := e = .returned (.tuple #[.agg #[.int .i64 (if 0 ≤ i ∧ i < G.E.length then eAt G i else (0, 0, 0)).1, .int .i64 (if 0 ≤ i ∧ i < G.E.length then eAt G i else (0, 0, 0)).2.1, .int .i64 (if 0 ≤ i ∧ i < G.E.length then eAt G i else (0, 0, 0)).2.2], .bool (decide (0 ≤ i ∧ i < G.E.length))]) ∧ Mod (fun _ => False) w w'
end Go.Proofs.Ytdccpikddhpleaa
