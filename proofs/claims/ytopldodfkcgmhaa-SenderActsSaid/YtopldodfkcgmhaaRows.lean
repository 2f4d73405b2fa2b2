/-
  No cell of these rows narrows 'for every input' (looked for: loops, veiled, ifaces, maps, wideKeys, modest, calm, conditions, laid).
  DERIVED. THE GIVEN ROWS OF THIS SEAT. 4 by the template 'for every input the law returns true; each argument reads behind the call as it read before'; 0 by the template 'total and deterministic' (their statements: YtopldodfkcgmhaaTotals.lean).
  GIVEN WITH THE SEED: the statements are not yours to turn. If you find one false, say at which input.
  Laid BY PROGRAM, IN A SANDBOX (cutbox-rows.mjs): the forced cells as the released guide's own fill.sh prints them over the translation 4e096663fec2506a… (all of the seat's roots in one cut). By AI agents, Wed Nov 11 2026. No macro, syntax, notation, axiom, sorry.
-/
import Derived.Test.YtopldodfkcgmhaaChecked
import GoSem.Claim
import GoSem.ClaimJoined
import GoSem.ClaimMapViews
import Derived.JoinedTies
import Derived.KernelRfl
namespace Go.Proofs.Ytopldodfkcgmhaa
/- THE CELL 'sum', in the pinned program and in every row, IS THE sha256 OF THE DUMP (.gsa) THAT YtopldodfkcgmhaaProg.lean LOADS. Nothing in Lean hashes anything: it is a label: what it is worth is what the hold of that sum in a sandbox is worth. -/
noncomputable def Try.pinned : Pinned := { name := "ytopldodfkcgmhaa", sum := "4e096663fec2506a731e59fd8dd0b2e5af530aeb4ce6f2a16ea69097b85fd692", checked := Try.checked }
namespace Rows
def none {H : Type} : Left H := { results := [], args := [] }

/-- 'milepostlaw25.SenderActs': WHATEVER THE INPUT: true; the input reads as it did. -/
def senderActsSpec : ChangeSpec := { name := "senderActs", fn := fun _ => fun
  | [d1, d2, d3, d4] => { results := [.lit (.bool true)], args := [d1, d2, d3, d4] }
  | _ => none }
def senderActsRow : OpenClaim := { program := "ytopldodfkcgmhaa", sum := "4e096663fec2506a731e59fd8dd0b2e5af530aeb4ce6f2a16ea69097b85fd692", func := "milepost/milepostlaw25.SenderActs", spec := "senderActs", recurses := true, apart := false }
def SenderActsSaid : Prop := senderActsRow.holds Try.pinned (OpenSpec.ofChange senderActsSpec)

/-- ITS FALSE NEIGHBOUR: 'it returns false'. Refute it at one input. -/
def senderActsWrong : ChangeSpec := { name := "senderActs", fn := fun _ => fun
  | [d1, d2, d3, d4] => { results := [.lit (.bool false)], args := [d1, d2, d3, d4] }
  | _ => none }
def SenderActsWrongFalsely : Prop := senderActsRow.holds Try.pinned (OpenSpec.ofChange senderActsWrong)

/-- 'milepostlaw25.SenderWindow': WHATEVER THE INPUT: true; the input reads as it did. -/
def senderWindowSpec : ChangeSpec := { name := "senderWindow", fn := fun _ => fun
  | [d1, d2] => { results := [.lit (.bool true)], args := [d1, d2] }
  | _ => none }
def senderWindowRow : OpenClaim := { program := "ytopldodfkcgmhaa", sum := "4e096663fec2506a731e59fd8dd0b2e5af530aeb4ce6f2a16ea69097b85fd692", func := "milepost/milepostlaw25.SenderWindow", spec := "senderWindow", recurses := true, apart := false }
def SenderWindowSaid : Prop := senderWindowRow.holds Try.pinned (OpenSpec.ofChange senderWindowSpec)

/-- ITS FALSE NEIGHBOUR: 'it returns false'. Refute it at one input. -/
def senderWindowWrong : ChangeSpec := { name := "senderWindow", fn := fun _ => fun
  | [d1, d2] => { results := [.lit (.bool false)], args := [d1, d2] }
  | _ => none }
def SenderWindowWrongFalsely : Prop := senderWindowRow.holds Try.pinned (OpenSpec.ofChange senderWindowWrong)

/-- 'milepostlaw25.SenderAgain': WHATEVER THE INPUT: true; the input reads as it did. -/
def senderAgainSpec : ChangeSpec := { name := "senderAgain", fn := fun _ => fun
  | [d1, d2, d3] => { results := [.lit (.bool true)], args := [d1, d2, d3] }
  | _ => none }
def senderAgainRow : OpenClaim := { program := "ytopldodfkcgmhaa", sum := "4e096663fec2506a731e59fd8dd0b2e5af530aeb4ce6f2a16ea69097b85fd692", func := "milepost/milepostlaw25.SenderAgain", spec := "senderAgain", recurses := true, apart := false }
def SenderAgainSaid : Prop := senderAgainRow.holds Try.pinned (OpenSpec.ofChange senderAgainSpec)

/-- ITS FALSE NEIGHBOUR: 'it returns false'. Refute it at one input. -/
def senderAgainWrong : ChangeSpec := { name := "senderAgain", fn := fun _ => fun
  | [d1, d2, d3] => { results := [.lit (.bool false)], args := [d1, d2, d3] }
  | _ => none }
def SenderAgainWrongFalsely : Prop := senderAgainRow.holds Try.pinned (OpenSpec.ofChange senderAgainWrong)

/-- 'milepostlaw25.SenderStale': WHATEVER THE INPUT: true; the input reads as it did. -/
def senderStaleSpec : ChangeSpec := { name := "senderStale", fn := fun _ => fun
  | [d1, d2] => { results := [.lit (.bool true)], args := [d1, d2] }
  | _ => none }
def senderStaleRow : OpenClaim := { program := "ytopldodfkcgmhaa", sum := "4e096663fec2506a731e59fd8dd0b2e5af530aeb4ce6f2a16ea69097b85fd692", func := "milepost/milepostlaw25.SenderStale", spec := "senderStale", recurses := true, apart := false }
def SenderStaleSaid : Prop := senderStaleRow.holds Try.pinned (OpenSpec.ofChange senderStaleSpec)

/-- ITS FALSE NEIGHBOUR: 'it returns false'. Refute it at one input. -/
def senderStaleWrong : ChangeSpec := { name := "senderStale", fn := fun _ => fun
  | [d1, d2] => { results := [.lit (.bool false)], args := [d1, d2] }
  | _ => none }
def SenderStaleWrongFalsely : Prop := senderStaleRow.holds Try.pinned (OpenSpec.ofChange senderStaleWrong)

/- THE SECOND FORM. 'bulk': how many values and letters a reading holds, each counted each time it is reached (what is shared counts as often as it is met; a slice's spare places count too). A statement '..UptoSaid' is the law's where the arguments, and the package variables that the reading takes, are together of bulk at most 1048576: NARROWER than '..Said'. Prove '..Said' where nothing that the law and all that it calls make is longer than what came in: it says more and counts as full. Else prove '..UptoSaid'. A law counts once. -/
mutual
def uptoBulk {H : Type} : DataW H → Nat
  | .lit (.string bytes) => bytes.length + 1
  | .lit _ => 1
  | .nil => 1
  | .ptr d => uptoBulk d + 1
  | .slice elems spare => uptoBulkAll elems + uptoBulkAll spare + 1
  | .agg parts => uptoBulkAll parts + 1
  | .iface _ d => uptoBulk d + 1
  | .map entries => uptoBulkEntries entries + 1
  | .held _ => 1
def uptoBulkAll {H : Type} : List (DataW H) → Nat
  | [] => 0
  | d :: r => uptoBulk d + uptoBulkAll r
def uptoBulkEntries {H : Type} : List (Lit × DataW H) → Nat
  | [] => 0
  | x :: r => uptoBulkEntry x + uptoBulkEntries r
def uptoBulkEntry {H : Type} : Lit × DataW H → Nat
  | (.string bytes, d) => bytes.length + uptoBulk d + 1
  | (_, d) => uptoBulk d + 1
 end
def uptoSmall : (H : Type) → List (DataW H) → Bool := fun _ ds => decide (uptoBulkAll ds ≤ 1048576)
def OpenSpec.upto (s : _root_.Go.ChangeSpec) : _root_.Go.OpenSpec := { _root_.Go.OpenSpec.ofChange s with cond := some uptoSmall }

/-- 'milepostlaw25.SenderActs', WHERE WHAT IT READS IS OF BULK AT MOST 1048576: true; the input reads as it did. -/
def senderActsUptoRow : OpenClaim := { program := "ytopldodfkcgmhaa", sum := "4e096663fec2506a731e59fd8dd0b2e5af530aeb4ce6f2a16ea69097b85fd692", func := "milepost/milepostlaw25.SenderActs", spec := "senderActs", recurses := true, apart := false, narrowed := true }
def SenderActsUptoSaid : Prop := senderActsUptoRow.holds Try.pinned (OpenSpec.upto senderActsSpec)

/-- 'milepostlaw25.SenderWindow', WHERE WHAT IT READS IS OF BULK AT MOST 1048576: true; the input reads as it did. -/
def senderWindowUptoRow : OpenClaim := { program := "ytopldodfkcgmhaa", sum := "4e096663fec2506a731e59fd8dd0b2e5af530aeb4ce6f2a16ea69097b85fd692", func := "milepost/milepostlaw25.SenderWindow", spec := "senderWindow", recurses := true, apart := false, narrowed := true }
def SenderWindowUptoSaid : Prop := senderWindowUptoRow.holds Try.pinned (OpenSpec.upto senderWindowSpec)

/-- 'milepostlaw25.SenderAgain', WHERE WHAT IT READS IS OF BULK AT MOST 1048576: true; the input reads as it did. -/
def senderAgainUptoRow : OpenClaim := { program := "ytopldodfkcgmhaa", sum := "4e096663fec2506a731e59fd8dd0b2e5af530aeb4ce6f2a16ea69097b85fd692", func := "milepost/milepostlaw25.SenderAgain", spec := "senderAgain", recurses := true, apart := false, narrowed := true }
def SenderAgainUptoSaid : Prop := senderAgainUptoRow.holds Try.pinned (OpenSpec.upto senderAgainSpec)

/-- 'milepostlaw25.SenderStale', WHERE WHAT IT READS IS OF BULK AT MOST 1048576: true; the input reads as it did. -/
def senderStaleUptoRow : OpenClaim := { program := "ytopldodfkcgmhaa", sum := "4e096663fec2506a731e59fd8dd0b2e5af530aeb4ce6f2a16ea69097b85fd692", func := "milepost/milepostlaw25.SenderStale", spec := "senderStale", recurses := true, apart := false, narrowed := true }
def SenderStaleUptoSaid : Prop := senderStaleUptoRow.holds Try.pinned (OpenSpec.upto senderStaleSpec)

end Rows
end Go.Proofs.Ytopldodfkcgmhaa
