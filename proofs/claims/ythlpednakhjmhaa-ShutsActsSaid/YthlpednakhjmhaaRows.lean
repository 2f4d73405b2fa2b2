/-
  No cell of these rows narrows 'for every input' (looked for: loops, veiled, ifaces, maps, wideKeys, modest, calm, conditions, laid).
  DERIVED. THE GIVEN ROWS OF THIS SEAT. 4 by the template 'for every input the law returns true; each argument reads behind the call as it read before'; 0 by the template 'total and deterministic' (their statements: YthlpednakhjmhaaTotals.lean).
  GIVEN WITH THE SEED: the statements are not yours to turn. If you find one false, say at which input.
  Laid BY PROGRAM, IN A SANDBOX (cutbox-rows.mjs): the forced cells as the released guide's own fill.sh prints them over the translation 2cfb06d1b7b433e4… (all of the seat's roots in one cut). By AI agents, Wed Nov 11 2026. No macro, syntax, notation, axiom, sorry.
-/
import Derived.Test.YthlpednakhjmhaaChecked
import GoSem.Claim
import GoSem.ClaimJoined
import GoSem.ClaimMapViews
import Derived.JoinedTies
import Derived.KernelRfl
namespace Go.Proofs.Ythlpednakhjmhaa
/- THE CELL 'sum', in the pinned program and in every row, IS THE sha256 OF THE DUMP (.gsa) THAT YthlpednakhjmhaaProg.lean LOADS. Nothing in Lean hashes anything: it is a label: what it is worth is what the hold of that sum in a sandbox is worth. -/
noncomputable def Try.pinned : Pinned := { name := "ythlpednakhjmhaa", sum := "2cfb06d1b7b433e4f0a3b54fd3b147fc90ffed1a33f056fed219fd729d831486", checked := Try.checked }
namespace Rows
def none {H : Type} : Left H := { results := [], args := [] }

/-- 'milepostlaw10.ShutsActs': WHATEVER THE INPUT: true; the input reads as it did. -/
def shutsActsSpec : ChangeSpec := { name := "shutsActs", fn := fun _ => fun
  | [d1, d2] => { results := [.lit (.bool true)], args := [d1, d2] }
  | _ => none }
def shutsActsRow : OpenClaim := { program := "ythlpednakhjmhaa", sum := "2cfb06d1b7b433e4f0a3b54fd3b147fc90ffed1a33f056fed219fd729d831486", func := "milepost/milepostlaw10.ShutsActs", spec := "shutsActs", recurses := true, apart := false }
def ShutsActsSaid : Prop := shutsActsRow.holds Try.pinned (OpenSpec.ofChange shutsActsSpec)

/-- ITS FALSE NEIGHBOUR: 'it returns false'. Refute it at one input. -/
def shutsActsWrong : ChangeSpec := { name := "shutsActs", fn := fun _ => fun
  | [d1, d2] => { results := [.lit (.bool false)], args := [d1, d2] }
  | _ => none }
def ShutsActsWrongFalsely : Prop := shutsActsRow.holds Try.pinned (OpenSpec.ofChange shutsActsWrong)

/-- 'milepostlaw10.ShutsLast': WHATEVER THE INPUT: true; the input reads as it did. -/
def shutsLastSpec : ChangeSpec := { name := "shutsLast", fn := fun _ => fun
  | [d1, d2, d3] => { results := [.lit (.bool true)], args := [d1, d2, d3] }
  | _ => none }
def shutsLastRow : OpenClaim := { program := "ythlpednakhjmhaa", sum := "2cfb06d1b7b433e4f0a3b54fd3b147fc90ffed1a33f056fed219fd729d831486", func := "milepost/milepostlaw10.ShutsLast", spec := "shutsLast", recurses := true, apart := false }
def ShutsLastSaid : Prop := shutsLastRow.holds Try.pinned (OpenSpec.ofChange shutsLastSpec)

/-- ITS FALSE NEIGHBOUR: 'it returns false'. Refute it at one input. -/
def shutsLastWrong : ChangeSpec := { name := "shutsLast", fn := fun _ => fun
  | [d1, d2, d3] => { results := [.lit (.bool false)], args := [d1, d2, d3] }
  | _ => none }
def ShutsLastWrongFalsely : Prop := shutsLastRow.holds Try.pinned (OpenSpec.ofChange shutsLastWrong)

/-- 'milepostlaw10.ShutsAlone': WHATEVER THE INPUT: true; the input reads as it did. -/
def shutsAloneSpec : ChangeSpec := { name := "shutsAlone", fn := fun _ => fun
  | [d1, d2] => { results := [.lit (.bool true)], args := [d1, d2] }
  | _ => none }
def shutsAloneRow : OpenClaim := { program := "ythlpednakhjmhaa", sum := "2cfb06d1b7b433e4f0a3b54fd3b147fc90ffed1a33f056fed219fd729d831486", func := "milepost/milepostlaw10.ShutsAlone", spec := "shutsAlone", recurses := true, apart := false }
def ShutsAloneSaid : Prop := shutsAloneRow.holds Try.pinned (OpenSpec.ofChange shutsAloneSpec)

/-- ITS FALSE NEIGHBOUR: 'it returns false'. Refute it at one input. -/
def shutsAloneWrong : ChangeSpec := { name := "shutsAlone", fn := fun _ => fun
  | [d1, d2] => { results := [.lit (.bool false)], args := [d1, d2] }
  | _ => none }
def ShutsAloneWrongFalsely : Prop := shutsAloneRow.holds Try.pinned (OpenSpec.ofChange shutsAloneWrong)

/-- 'milepostlaw10.ShutsAll': WHATEVER THE INPUT: true; the input reads as it did. -/
def shutsAllSpec : ChangeSpec := { name := "shutsAll", fn := fun _ => fun
  | [d1, d2, d3, d4] => { results := [.lit (.bool true)], args := [d1, d2, d3, d4] }
  | _ => none }
def shutsAllRow : OpenClaim := { program := "ythlpednakhjmhaa", sum := "2cfb06d1b7b433e4f0a3b54fd3b147fc90ffed1a33f056fed219fd729d831486", func := "milepost/milepostlaw10.ShutsAll", spec := "shutsAll", recurses := true, apart := false }
def ShutsAllSaid : Prop := shutsAllRow.holds Try.pinned (OpenSpec.ofChange shutsAllSpec)

/-- ITS FALSE NEIGHBOUR: 'it returns false'. Refute it at one input. -/
def shutsAllWrong : ChangeSpec := { name := "shutsAll", fn := fun _ => fun
  | [d1, d2, d3, d4] => { results := [.lit (.bool false)], args := [d1, d2, d3, d4] }
  | _ => none }
def ShutsAllWrongFalsely : Prop := shutsAllRow.holds Try.pinned (OpenSpec.ofChange shutsAllWrong)

/- THE SECOND FORM. 'bulk': how many values and letters a reading holds, each counted each time it is reached (what is shared counts as often as it is met; a slice's spare places count too). A statement '..UptoSaid' is the law's where the arguments, and the package variables that the reading takes, are together of bulk at most 1048576: NARROWER than '..Said'. Prove '..Said' where nothing that the law and all that it calls make is longer than what came in: it says more and counts as full. Else prove '..UptoSaid'. A law counts once. -/
mutual
def uptoBulk {H : Type} : DataW H → Nat
  | .lit (.string bytes) => bytes.length + 1
  | .lit _ => 1
  | .nil => 1
  | .ptr d => uptoBulk d + 1
  | .slice elems spare => uptoBulkAll elems + uptoBulkAll spare + 1
  | .agg parts => uptoBulkAll parts + 1
  | .iface _ d => uptoBulk d + 1
  | .map entries => uptoBulkEntries entries + 1
  | .held _ => 1
def uptoBulkAll {H : Type} : List (DataW H) → Nat
  | [] => 0
  | d :: r => uptoBulk d + uptoBulkAll r
def uptoBulkEntries {H : Type} : List (Lit × DataW H) → Nat
  | [] => 0
  | x :: r => uptoBulkEntry x + uptoBulkEntries r
def uptoBulkEntry {H : Type} : Lit × DataW H → Nat
  | (.string bytes, d) => bytes.length + uptoBulk d + 1
  | (_, d) => uptoBulk d + 1
 end
def uptoSmall : (H : Type) → List (DataW H) → Bool := fun _ ds => decide (uptoBulkAll ds ≤ 1048576)
def OpenSpec.upto (s : _root_.Go.ChangeSpec) : _root_.Go.OpenSpec := { _root_.Go.OpenSpec.ofChange s with cond := some uptoSmall }

/-- 'milepostlaw10.ShutsActs', WHERE WHAT IT READS IS OF BULK AT MOST 1048576: true; the input reads as it did. -/
def shutsActsUptoRow : OpenClaim := { program := "ythlpednakhjmhaa", sum := "2cfb06d1b7b433e4f0a3b54fd3b147fc90ffed1a33f056fed219fd729d831486", func := "milepost/milepostlaw10.ShutsActs", spec := "shutsActs", recurses := true, apart := false, narrowed := true }
def ShutsActsUptoSaid : Prop := shutsActsUptoRow.holds Try.pinned (OpenSpec.upto shutsActsSpec)

/-- 'milepostlaw10.ShutsLast', WHERE WHAT IT READS IS OF BULK AT MOST 1048576: true; the input reads as it did. -/
def shutsLastUptoRow : OpenClaim := { program := "ythlpednakhjmhaa", sum := "2cfb06d1b7b433e4f0a3b54fd3b147fc90ffed1a33f056fed219fd729d831486", func := "milepost/milepostlaw10.ShutsLast", spec := "shutsLast", recurses := true, apart := false, narrowed := true }
def ShutsLastUptoSaid : Prop := shutsLastUptoRow.holds Try.pinned (OpenSpec.upto shutsLastSpec)

/-- 'milepostlaw10.ShutsAlone', WHERE WHAT IT READS IS OF BULK AT MOST 1048576: true; the input reads as it did. -/
def shutsAloneUptoRow : OpenClaim := { program := "ythlpednakhjmhaa", sum := "2cfb06d1b7b433e4f0a3b54fd3b147fc90ffed1a33f056fed219fd729d831486", func := "milepost/milepostlaw10.ShutsAlone", spec := "shutsAlone", recurses := true, apart := false, narrowed := true }
def ShutsAloneUptoSaid : Prop := shutsAloneUptoRow.holds Try.pinned (OpenSpec.upto shutsAloneSpec)

/-- 'milepostlaw10.ShutsAll', WHERE WHAT IT READS IS OF BULK AT MOST 1048576: true; the input reads as it did. -/
def shutsAllUptoRow : OpenClaim := { program := "ythlpednakhjmhaa", sum := "2cfb06d1b7b433e4f0a3b54fd3b147fc90ffed1a33f056fed219fd729d831486", func := "milepost/milepostlaw10.ShutsAll", spec := "shutsAll", recurses := true, apart := false, narrowed := true }
def ShutsAllUptoSaid : Prop := shutsAllUptoRow.holds Try.pinned (OpenSpec.upto shutsAllSpec)

end Rows
end Go.Proofs.Ythlpednakhjmhaa
