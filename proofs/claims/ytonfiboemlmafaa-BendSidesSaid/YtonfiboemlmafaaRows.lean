/-
  No cell of these rows narrows 'for every input' (looked for: loops, veiled, ifaces, maps, wideKeys, modest, calm, conditions, laid).
  DERIVED. THE GIVEN ROWS OF THIS SEAT. 4 by the template 'for every input the law returns true; each argument reads behind the call as it read before'; 0 by the template 'total and deterministic' (their statements: YtonfiboemlmafaaTotals.lean).
  GIVEN WITH THE SEED: the statements are not yours to turn. If you find one false, say at which input.
  Laid BY PROGRAM, IN A SANDBOX (cutbox-rows.mjs): the forced cells as the released guide's own fill.sh prints them over the translation e0da0bd31f4bef80… (all of the seat's roots in one cut). By AI agents, Wed Nov 11 2026. No macro, syntax, notation, axiom, sorry.
-/
import Derived.Test.YtonfiboemlmafaaChecked
import GoSem.Claim
import GoSem.ClaimJoined
import GoSem.ClaimMapViews
import Derived.JoinedTies
import Derived.KernelRfl
namespace Go.Proofs.Ytonfiboemlmafaa
/- THE CELL 'sum', in the pinned program and in every row, IS THE sha256 OF THE DUMP (.gsa) THAT YtonfiboemlmafaaProg.lean LOADS. Nothing in Lean hashes anything: it is a label: what it is worth is what the hold of that sum in a sandbox is worth. -/
noncomputable def Try.pinned : Pinned := { name := "ytonfiboemlmafaa", sum := "e0da0bd31f4bef809afe4cab5c0481c3aa228ea1a21af25ed4af304d3b568891", checked := Try.checked }
namespace Rows
def none {H : Type} : Left H := { results := [], args := [] }

/-- 'milepostlaw9.BendTells': WHATEVER THE INPUT: true; the input reads as it did. -/
def bendTellsSpec : ChangeSpec := { name := "bendTells", fn := fun _ => fun
  | [d1, d2, d3, d4, d5, d6, d7, d8] => { results := [.lit (.bool true)], args := [d1, d2, d3, d4, d5, d6, d7, d8] }
  | _ => none }
def bendTellsRow : OpenClaim := { program := "ytonfiboemlmafaa", sum := "e0da0bd31f4bef809afe4cab5c0481c3aa228ea1a21af25ed4af304d3b568891", func := "milepost/milepostlaw9.BendTells", spec := "bendTells", unfollowed := true, recurses := true, apart := false }
def BendTellsSaid : Prop := bendTellsRow.holds Try.pinned (OpenSpec.ofChange bendTellsSpec)

/-- ITS FALSE NEIGHBOUR: 'it returns false'. Refute it at one input. -/
def bendTellsWrong : ChangeSpec := { name := "bendTells", fn := fun _ => fun
  | [d1, d2, d3, d4, d5, d6, d7, d8] => { results := [.lit (.bool false)], args := [d1, d2, d3, d4, d5, d6, d7, d8] }
  | _ => none }
def BendTellsWrongFalsely : Prop := bendTellsRow.holds Try.pinned (OpenSpec.ofChange bendTellsWrong)

/-- 'milepostlaw9.BendMirrors': WHATEVER THE INPUT: true; the input reads as it did. -/
def bendMirrorsSpec : ChangeSpec := { name := "bendMirrors", fn := fun _ => fun
  | [d1, d2, d3, d4, d5] => { results := [.lit (.bool true)], args := [d1, d2, d3, d4, d5] }
  | _ => none }
def bendMirrorsRow : OpenClaim := { program := "ytonfiboemlmafaa", sum := "e0da0bd31f4bef809afe4cab5c0481c3aa228ea1a21af25ed4af304d3b568891", func := "milepost/milepostlaw9.BendMirrors", spec := "bendMirrors", apart := false }
def BendMirrorsSaid : Prop := bendMirrorsRow.holds Try.pinned (OpenSpec.ofChange bendMirrorsSpec)

/-- ITS FALSE NEIGHBOUR: 'it returns false'. Refute it at one input. -/
def bendMirrorsWrong : ChangeSpec := { name := "bendMirrors", fn := fun _ => fun
  | [d1, d2, d3, d4, d5] => { results := [.lit (.bool false)], args := [d1, d2, d3, d4, d5] }
  | _ => none }
def BendMirrorsWrongFalsely : Prop := bendMirrorsRow.holds Try.pinned (OpenSpec.ofChange bendMirrorsWrong)

/-- 'milepostlaw9.BendBack': WHATEVER THE INPUT: true; the input reads as it did. -/
def bendBackSpec : ChangeSpec := { name := "bendBack", fn := fun _ => fun
  | [d1, d2, d3, d4] => { results := [.lit (.bool true)], args := [d1, d2, d3, d4] }
  | _ => none }
def bendBackRow : OpenClaim := { program := "ytonfiboemlmafaa", sum := "e0da0bd31f4bef809afe4cab5c0481c3aa228ea1a21af25ed4af304d3b568891", func := "milepost/milepostlaw9.BendBack", spec := "bendBack", apart := false }
def BendBackSaid : Prop := bendBackRow.holds Try.pinned (OpenSpec.ofChange bendBackSpec)

/-- ITS FALSE NEIGHBOUR: 'it returns false'. Refute it at one input. -/
def bendBackWrong : ChangeSpec := { name := "bendBack", fn := fun _ => fun
  | [d1, d2, d3, d4] => { results := [.lit (.bool false)], args := [d1, d2, d3, d4] }
  | _ => none }
def BendBackWrongFalsely : Prop := bendBackRow.holds Try.pinned (OpenSpec.ofChange bendBackWrong)

/-- 'milepostlaw9.BendSides': WHATEVER THE INPUT: true; the input reads as it did. -/
def bendSidesSpec : ChangeSpec := { name := "bendSides", fn := fun _ => fun
  | [d1, d2, d3, d4] => { results := [.lit (.bool true)], args := [d1, d2, d3, d4] }
  | _ => none }
def bendSidesRow : OpenClaim := { program := "ytonfiboemlmafaa", sum := "e0da0bd31f4bef809afe4cab5c0481c3aa228ea1a21af25ed4af304d3b568891", func := "milepost/milepostlaw9.BendSides", spec := "bendSides", apart := false }
def BendSidesSaid : Prop := bendSidesRow.holds Try.pinned (OpenSpec.ofChange bendSidesSpec)

/-- ITS FALSE NEIGHBOUR: 'it returns false'. Refute it at one input. -/
def bendSidesWrong : ChangeSpec := { name := "bendSides", fn := fun _ => fun
  | [d1, d2, d3, d4] => { results := [.lit (.bool false)], args := [d1, d2, d3, d4] }
  | _ => none }
def BendSidesWrongFalsely : Prop := bendSidesRow.holds Try.pinned (OpenSpec.ofChange bendSidesWrong)

/- THE SECOND FORM. 'bulk': how many values and letters a reading holds, each counted each time it is reached (what is shared counts as often as it is met; a slice's spare places count too). A statement '..UptoSaid' is the law's where the arguments, and the package variables that the reading takes, are together of bulk at most 1048576: NARROWER than '..Said'. Prove '..Said' where nothing that the law and all that it calls make is longer than what came in: it says more and counts as full. Else prove '..UptoSaid'. A law counts once. -/
mutual
def uptoBulk {H : Type} : DataW H → Nat
  | .lit (.string bytes) => bytes.length + 1
  | .lit _ => 1
  | .nil => 1
  | .ptr d => uptoBulk d + 1
  | .slice elems spare => uptoBulkAll elems + uptoBulkAll spare + 1
  | .agg parts => uptoBulkAll parts + 1
  | .iface _ d => uptoBulk d + 1
  | .map entries => uptoBulkEntries entries + 1
  | .held _ => 1
def uptoBulkAll {H : Type} : List (DataW H) → Nat
  | [] => 0
  | d :: r => uptoBulk d + uptoBulkAll r
def uptoBulkEntries {H : Type} : List (Lit × DataW H) → Nat
  | [] => 0
  | x :: r => uptoBulkEntry x + uptoBulkEntries r
def uptoBulkEntry {H : Type} : Lit × DataW H → Nat
  | (.string bytes, d) => bytes.length + uptoBulk d + 1
  | (_, d) => uptoBulk d + 1
 end
def uptoSmall : (H : Type) → List (DataW H) → Bool := fun _ ds => decide (uptoBulkAll ds ≤ 1048576)
def OpenSpec.upto (s : _root_.Go.ChangeSpec) : _root_.Go.OpenSpec := { _root_.Go.OpenSpec.ofChange s with cond := some uptoSmall }

/-- 'milepostlaw9.BendTells', WHERE WHAT IT READS IS OF BULK AT MOST 1048576: true; the input reads as it did. -/
def bendTellsUptoRow : OpenClaim := { program := "ytonfiboemlmafaa", sum := "e0da0bd31f4bef809afe4cab5c0481c3aa228ea1a21af25ed4af304d3b568891", func := "milepost/milepostlaw9.BendTells", spec := "bendTells", unfollowed := true, recurses := true, apart := false, narrowed := true }
def BendTellsUptoSaid : Prop := bendTellsUptoRow.holds Try.pinned (OpenSpec.upto bendTellsSpec)

/-- 'milepostlaw9.BendMirrors', WHERE WHAT IT READS IS OF BULK AT MOST 1048576: true; the input reads as it did. -/
def bendMirrorsUptoRow : OpenClaim := { program := "ytonfiboemlmafaa", sum := "e0da0bd31f4bef809afe4cab5c0481c3aa228ea1a21af25ed4af304d3b568891", func := "milepost/milepostlaw9.BendMirrors", spec := "bendMirrors", apart := false, narrowed := true }
def BendMirrorsUptoSaid : Prop := bendMirrorsUptoRow.holds Try.pinned (OpenSpec.upto bendMirrorsSpec)

/-- 'milepostlaw9.BendBack', WHERE WHAT IT READS IS OF BULK AT MOST 1048576: true; the input reads as it did. -/
def bendBackUptoRow : OpenClaim := { program := "ytonfiboemlmafaa", sum := "e0da0bd31f4bef809afe4cab5c0481c3aa228ea1a21af25ed4af304d3b568891", func := "milepost/milepostlaw9.BendBack", spec := "bendBack", apart := false, narrowed := true }
def BendBackUptoSaid : Prop := bendBackUptoRow.holds Try.pinned (OpenSpec.upto bendBackSpec)

/-- 'milepostlaw9.BendSides', WHERE WHAT IT READS IS OF BULK AT MOST 1048576: true; the input reads as it did. -/
def bendSidesUptoRow : OpenClaim := { program := "ytonfiboemlmafaa", sum := "e0da0bd31f4bef809afe4cab5c0481c3aa228ea1a21af25ed4af304d3b568891", func := "milepost/milepostlaw9.BendSides", spec := "bendSides", apart := false, narrowed := true }
def BendSidesUptoSaid : Prop := bendSidesUptoRow.holds Try.pinned (OpenSpec.upto bendSidesSpec)

end Rows
end Go.Proofs.Ytonfiboemlmafaa
