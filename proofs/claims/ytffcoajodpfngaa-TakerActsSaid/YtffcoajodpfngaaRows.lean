/-
  No cell of these rows narrows 'for every input' (looked for: loops, veiled, ifaces, maps, wideKeys, modest, calm, conditions, laid).
  DERIVED. THE GIVEN ROWS OF THIS SEAT. 3 by the template 'for every input the law returns true; each argument reads behind the call as it read before'; 0 by the template 'total and deterministic' (their statements: YtffcoajodpfngaaTotals.lean).
  GIVEN WITH THE SEED: the statements are not yours to turn. If you find one false, say at which input.
  Laid BY PROGRAM, IN A SANDBOX (cutbox-rows.mjs): the forced cells as the released guide's own fill.sh prints them over the translation 15c03a91eb179b2a… (all of the seat's roots in one cut). By AI agents, Wed Nov 11 2026. No macro, syntax, notation, axiom, sorry.
-/
import Derived.Test.YtffcoajodpfngaaChecked
import GoSem.Claim
import GoSem.ClaimJoined
import GoSem.ClaimMapViews
import Derived.JoinedTies
import Derived.KernelRfl
namespace Go.Proofs.Ytffcoajodpfngaa
/- THE CELL 'sum', in the pinned program and in every row, IS THE sha256 OF THE DUMP (.gsa) THAT YtffcoajodpfngaaProg.lean LOADS. Nothing in Lean hashes anything: it is a label: what it is worth is what the hold of that sum in a sandbox is worth. -/
noncomputable def Try.pinned : Pinned := { name := "ytffcoajodpfngaa", sum := "15c03a91eb179b2a03d34fc9d20351dac4b7a89ccd3fec44c01d8c52bb96f74f", checked := Try.checked }
namespace Rows
def none {H : Type} : Left H := { results := [], args := [] }

/-- 'milepostlaw26.TakerActs': WHATEVER THE INPUT: true; the input reads as it did. -/
def takerActsSpec : ChangeSpec := { name := "takerActs", fn := fun _ => fun
  | [d1, d2, d3] => { results := [.lit (.bool true)], args := [d1, d2, d3] }
  | _ => none }
def takerActsRow : OpenClaim := { program := "ytffcoajodpfngaa", sum := "15c03a91eb179b2a03d34fc9d20351dac4b7a89ccd3fec44c01d8c52bb96f74f", func := "milepost/milepostlaw26.TakerActs", spec := "takerActs", apart := false }
def TakerActsSaid : Prop := takerActsRow.holds Try.pinned (OpenSpec.ofChange takerActsSpec)

/-- ITS FALSE NEIGHBOUR: 'it returns false'. Refute it at one input. -/
def takerActsWrong : ChangeSpec := { name := "takerActs", fn := fun _ => fun
  | [d1, d2, d3] => { results := [.lit (.bool false)], args := [d1, d2, d3] }
  | _ => none }
def TakerActsWrongFalsely : Prop := takerActsRow.holds Try.pinned (OpenSpec.ofChange takerActsWrong)

/-- 'milepostlaw26.TakerOnce': WHATEVER THE INPUT: true; the input reads as it did. -/
def takerOnceSpec : ChangeSpec := { name := "takerOnce", fn := fun _ => fun
  | [d1, d2, d3] => { results := [.lit (.bool true)], args := [d1, d2, d3] }
  | _ => none }
def takerOnceRow : OpenClaim := { program := "ytffcoajodpfngaa", sum := "15c03a91eb179b2a03d34fc9d20351dac4b7a89ccd3fec44c01d8c52bb96f74f", func := "milepost/milepostlaw26.TakerOnce", spec := "takerOnce", apart := false }
def TakerOnceSaid : Prop := takerOnceRow.holds Try.pinned (OpenSpec.ofChange takerOnceSpec)

/-- ITS FALSE NEIGHBOUR: 'it returns false'. Refute it at one input. -/
def takerOnceWrong : ChangeSpec := { name := "takerOnce", fn := fun _ => fun
  | [d1, d2, d3] => { results := [.lit (.bool false)], args := [d1, d2, d3] }
  | _ => none }
def TakerOnceWrongFalsely : Prop := takerOnceRow.holds Try.pinned (OpenSpec.ofChange takerOnceWrong)

/-- 'milepostlaw26.TakerWindow': WHATEVER THE INPUT: true; the input reads as it did. -/
def takerWindowSpec : ChangeSpec := { name := "takerWindow", fn := fun _ => fun
  | [d1, d2] => { results := [.lit (.bool true)], args := [d1, d2] }
  | _ => none }
def takerWindowRow : OpenClaim := { program := "ytffcoajodpfngaa", sum := "15c03a91eb179b2a03d34fc9d20351dac4b7a89ccd3fec44c01d8c52bb96f74f", func := "milepost/milepostlaw26.TakerWindow", spec := "takerWindow", apart := false }
def TakerWindowSaid : Prop := takerWindowRow.holds Try.pinned (OpenSpec.ofChange takerWindowSpec)

/-- ITS FALSE NEIGHBOUR: 'it returns false'. Refute it at one input. -/
def takerWindowWrong : ChangeSpec := { name := "takerWindow", fn := fun _ => fun
  | [d1, d2] => { results := [.lit (.bool false)], args := [d1, d2] }
  | _ => none }
def TakerWindowWrongFalsely : Prop := takerWindowRow.holds Try.pinned (OpenSpec.ofChange takerWindowWrong)

/- THE SECOND FORM. 'bulk': how many values and letters a reading holds, each counted each time it is reached (what is shared counts as often as it is met; a slice's spare places count too). A statement '..UptoSaid' is the law's where the arguments, and the package variables that the reading takes, are together of bulk at most 1048576: NARROWER than '..Said'. Prove '..Said' where nothing that the law and all that it calls make is longer than what came in: it says more and counts as full. Else prove '..UptoSaid'. A law counts once. -/
mutual
def uptoBulk {H : Type} : DataW H → Nat
  | .lit (.string bytes) => bytes.length + 1
  | .lit _ => 1
  | .nil => 1
  | .ptr d => uptoBulk d + 1
  | .slice elems spare => uptoBulkAll elems + uptoBulkAll spare + 1
  | .agg parts => uptoBulkAll parts + 1
  | .iface _ d => uptoBulk d + 1
  | .map entries => uptoBulkEntries entries + 1
  | .held _ => 1
def uptoBulkAll {H : Type} : List (DataW H) → Nat
  | [] => 0
  | d :: r => uptoBulk d + uptoBulkAll r
def uptoBulkEntries {H : Type} : List (Lit × DataW H) → Nat
  | [] => 0
  | x :: r => uptoBulkEntry x + uptoBulkEntries r
def uptoBulkEntry {H : Type} : Lit × DataW H → Nat
  | (.string bytes, d) => bytes.length + uptoBulk d + 1
  | (_, d) => uptoBulk d + 1
 end
def uptoSmall : (H : Type) → List (DataW H) → Bool := fun _ ds => decide (uptoBulkAll ds ≤ 1048576)
def OpenSpec.upto (s : _root_.Go.ChangeSpec) : _root_.Go.OpenSpec := { _root_.Go.OpenSpec.ofChange s with cond := some uptoSmall }

/-- 'milepostlaw26.TakerActs', WHERE WHAT IT READS IS OF BULK AT MOST 1048576: true; the input reads as it did. -/
def takerActsUptoRow : OpenClaim := { program := "ytffcoajodpfngaa", sum := "15c03a91eb179b2a03d34fc9d20351dac4b7a89ccd3fec44c01d8c52bb96f74f", func := "milepost/milepostlaw26.TakerActs", spec := "takerActs", apart := false, narrowed := true }
def TakerActsUptoSaid : Prop := takerActsUptoRow.holds Try.pinned (OpenSpec.upto takerActsSpec)

/-- 'milepostlaw26.TakerOnce', WHERE WHAT IT READS IS OF BULK AT MOST 1048576: true; the input reads as it did. -/
def takerOnceUptoRow : OpenClaim := { program := "ytffcoajodpfngaa", sum := "15c03a91eb179b2a03d34fc9d20351dac4b7a89ccd3fec44c01d8c52bb96f74f", func := "milepost/milepostlaw26.TakerOnce", spec := "takerOnce", apart := false, narrowed := true }
def TakerOnceUptoSaid : Prop := takerOnceUptoRow.holds Try.pinned (OpenSpec.upto takerOnceSpec)

/-- 'milepostlaw26.TakerWindow', WHERE WHAT IT READS IS OF BULK AT MOST 1048576: true; the input reads as it did. -/
def takerWindowUptoRow : OpenClaim := { program := "ytffcoajodpfngaa", sum := "15c03a91eb179b2a03d34fc9d20351dac4b7a89ccd3fec44c01d8c52bb96f74f", func := "milepost/milepostlaw26.TakerWindow", spec := "takerWindow", apart := false, narrowed := true }
def TakerWindowUptoSaid : Prop := takerWindowUptoRow.holds Try.pinned (OpenSpec.upto takerWindowSpec)

end Rows
end Go.Proofs.Ytffcoajodpfngaa
