/-
  No cell of these rows narrows 'for every input' (looked for: loops, veiled, ifaces, maps, wideKeys, modest, calm, conditions, laid).
  DERIVED. THE GIVEN ROWS OF THIS SEAT. 4 by the template 'for every input the law returns true; each argument reads behind the call as it read before'; 0 by the template 'total and deterministic' (their statements: YtbjdjafkpldbnaaTotals.lean).
  GIVEN WITH THE SEED: the statements are not yours to turn. If you find one false, say at which input.
  Laid BY PROGRAM, IN A SANDBOX (cutbox-rows.mjs): the forced cells as the released guide's own fill.sh prints them over the translation 9c3376eff1b2ee72… (all of the seat's roots in one cut). By AI agents, Wed Nov 11 2026. No macro, syntax, notation, axiom, sorry.
-/
import Derived.Test.YtbjdjafkpldbnaaChecked
import GoSem.Claim
import GoSem.ClaimJoined
import GoSem.ClaimMapViews
import Derived.JoinedTies
import Derived.KernelRfl
namespace Go.Proofs.Ytbjdjafkpldbnaa
/- THE CELL 'sum', in the pinned program and in every row, IS THE sha256 OF THE DUMP (.gsa) THAT YtbjdjafkpldbnaaProg.lean LOADS. Nothing in Lean hashes anything: it is a label: what it is worth is what the hold of that sum in a sandbox is worth. -/
noncomputable def Try.pinned : Pinned := { name := "ytbjdjafkpldbnaa", sum := "9c3376eff1b2ee7283d112e97b6a2d1cede59e41bb25b3417efdfc3792f73ef1", checked := Try.checked }
namespace Rows
def none {H : Type} : Left H := { results := [], args := [] }

/-- 'milepostlaw19.DetourTells': WHATEVER THE INPUT: true; the input reads as it did. -/
def detourTellsSpec : ChangeSpec := { name := "detourTells", fn := fun _ => fun
  | [d1, d2, d3, d4] => { results := [.lit (.bool true)], args := [d1, d2, d3, d4] }
  | _ => none }
def detourTellsRow : OpenClaim := { program := "ytbjdjafkpldbnaa", sum := "9c3376eff1b2ee7283d112e97b6a2d1cede59e41bb25b3417efdfc3792f73ef1", func := "milepost/milepostlaw19.DetourTells", spec := "detourTells", unfollowed := true, recurses := true, apart := false }
def DetourTellsSaid : Prop := detourTellsRow.holds Try.pinned (OpenSpec.ofChange detourTellsSpec)

/-- ITS FALSE NEIGHBOUR: 'it returns false'. Refute it at one input. -/
def detourTellsWrong : ChangeSpec := { name := "detourTells", fn := fun _ => fun
  | [d1, d2, d3, d4] => { results := [.lit (.bool false)], args := [d1, d2, d3, d4] }
  | _ => none }
def DetourTellsWrongFalsely : Prop := detourTellsRow.holds Try.pinned (OpenSpec.ofChange detourTellsWrong)

/-- 'milepostlaw19.DetourMeets': WHATEVER THE INPUT: true; the input reads as it did. -/
def detourMeetsSpec : ChangeSpec := { name := "detourMeets", fn := fun _ => fun
  | [d1, d2, d3, d4] => { results := [.lit (.bool true)], args := [d1, d2, d3, d4] }
  | _ => none }
def detourMeetsRow : OpenClaim := { program := "ytbjdjafkpldbnaa", sum := "9c3376eff1b2ee7283d112e97b6a2d1cede59e41bb25b3417efdfc3792f73ef1", func := "milepost/milepostlaw19.DetourMeets", spec := "detourMeets", unfollowed := true, recurses := true, apart := false }
def DetourMeetsSaid : Prop := detourMeetsRow.holds Try.pinned (OpenSpec.ofChange detourMeetsSpec)

/-- ITS FALSE NEIGHBOUR: 'it returns false'. Refute it at one input. -/
def detourMeetsWrong : ChangeSpec := { name := "detourMeets", fn := fun _ => fun
  | [d1, d2, d3, d4] => { results := [.lit (.bool false)], args := [d1, d2, d3, d4] }
  | _ => none }
def DetourMeetsWrongFalsely : Prop := detourMeetsRow.holds Try.pinned (OpenSpec.ofChange detourMeetsWrong)

/-- 'milepostlaw19.DetourNone': WHATEVER THE INPUT: true; the input reads as it did. -/
def detourNoneSpec : ChangeSpec := { name := "detourNone", fn := fun _ => fun
  | [d1, d2, d3] => { results := [.lit (.bool true)], args := [d1, d2, d3] }
  | _ => none }
def detourNoneRow : OpenClaim := { program := "ytbjdjafkpldbnaa", sum := "9c3376eff1b2ee7283d112e97b6a2d1cede59e41bb25b3417efdfc3792f73ef1", func := "milepost/milepostlaw19.DetourNone", spec := "detourNone", unfollowed := true, recurses := true, apart := false }
def DetourNoneSaid : Prop := detourNoneRow.holds Try.pinned (OpenSpec.ofChange detourNoneSpec)

/-- ITS FALSE NEIGHBOUR: 'it returns false'. Refute it at one input. -/
def detourNoneWrong : ChangeSpec := { name := "detourNone", fn := fun _ => fun
  | [d1, d2, d3] => { results := [.lit (.bool false)], args := [d1, d2, d3] }
  | _ => none }
def DetourNoneWrongFalsely : Prop := detourNoneRow.holds Try.pinned (OpenSpec.ofChange detourNoneWrong)

/-- 'milepostlaw19.DetourAll': WHATEVER THE INPUT: true; the input reads as it did. -/
def detourAllSpec : ChangeSpec := { name := "detourAll", fn := fun _ => fun
  | [d1, d2, d3] => { results := [.lit (.bool true)], args := [d1, d2, d3] }
  | _ => none }
def detourAllRow : OpenClaim := { program := "ytbjdjafkpldbnaa", sum := "9c3376eff1b2ee7283d112e97b6a2d1cede59e41bb25b3417efdfc3792f73ef1", func := "milepost/milepostlaw19.DetourAll", spec := "detourAll", unfollowed := true, recurses := true, apart := false }
def DetourAllSaid : Prop := detourAllRow.holds Try.pinned (OpenSpec.ofChange detourAllSpec)

/-- ITS FALSE NEIGHBOUR: 'it returns false'. Refute it at one input. -/
def detourAllWrong : ChangeSpec := { name := "detourAll", fn := fun _ => fun
  | [d1, d2, d3] => { results := [.lit (.bool false)], args := [d1, d2, d3] }
  | _ => none }
def DetourAllWrongFalsely : Prop := detourAllRow.holds Try.pinned (OpenSpec.ofChange detourAllWrong)

/- THE SECOND FORM. 'bulk': how many values and letters a reading holds, each counted each time it is reached (what is shared counts as often as it is met; a slice's spare places count too). A statement '..UptoSaid' is the law's where the arguments, and the package variables that the reading takes, are together of bulk at most 1048576: NARROWER than '..Said'. Prove '..Said' where nothing that the law and all that it calls make is longer than what came in: it says more and counts as full. Else prove '..UptoSaid'. A law counts once. -/
mutual
def uptoBulk {H : Type} : DataW H → Nat
  | .lit (.string bytes) => bytes.length + 1
  | .lit _ => 1
  | .nil => 1
  | .ptr d => uptoBulk d + 1
  | .slice elems spare => uptoBulkAll elems + uptoBulkAll spare + 1
  | .agg parts => uptoBulkAll parts + 1
  | .iface _ d => uptoBulk d + 1
  | .map entries => uptoBulkEntries entries + 1
  | .held _ => 1
def uptoBulkAll {H : Type} : List (DataW H) → Nat
  | [] => 0
  | d :: r => uptoBulk d + uptoBulkAll r
def uptoBulkEntries {H : Type} : List (Lit × DataW H) → Nat
  | [] => 0
  | x :: r => uptoBulkEntry x + uptoBulkEntries r
def uptoBulkEntry {H : Type} : Lit × DataW H → Nat
  | (.string bytes, d) => bytes.length + uptoBulk d + 1
  | (_, d) => uptoBulk d + 1
 end
def uptoSmall : (H : Type) → List (DataW H) → Bool := fun _ ds => decide (uptoBulkAll ds ≤ 1048576)
def OpenSpec.upto (s : _root_.Go.ChangeSpec) : _root_.Go.OpenSpec := { _root_.Go.OpenSpec.ofChange s with cond := some uptoSmall }

/-- 'milepostlaw19.DetourTells', WHERE WHAT IT READS IS OF BULK AT MOST 1048576: true; the input reads as it did. -/
def detourTellsUptoRow : OpenClaim := { program := "ytbjdjafkpldbnaa", sum := "9c3376eff1b2ee7283d112e97b6a2d1cede59e41bb25b3417efdfc3792f73ef1", func := "milepost/milepostlaw19.DetourTells", spec := "detourTells", unfollowed := true, recurses := true, apart := false, narrowed := true }
def DetourTellsUptoSaid : Prop := detourTellsUptoRow.holds Try.pinned (OpenSpec.upto detourTellsSpec)

/-- 'milepostlaw19.DetourMeets', WHERE WHAT IT READS IS OF BULK AT MOST 1048576: true; the input reads as it did. -/
def detourMeetsUptoRow : OpenClaim := { program := "ytbjdjafkpldbnaa", sum := "9c3376eff1b2ee7283d112e97b6a2d1cede59e41bb25b3417efdfc3792f73ef1", func := "milepost/milepostlaw19.DetourMeets", spec := "detourMeets", unfollowed := true, recurses := true, apart := false, narrowed := true }
def DetourMeetsUptoSaid : Prop := detourMeetsUptoRow.holds Try.pinned (OpenSpec.upto detourMeetsSpec)

/-- 'milepostlaw19.DetourNone', WHERE WHAT IT READS IS OF BULK AT MOST 1048576: true; the input reads as it did. -/
def detourNoneUptoRow : OpenClaim := { program := "ytbjdjafkpldbnaa", sum := "9c3376eff1b2ee7283d112e97b6a2d1cede59e41bb25b3417efdfc3792f73ef1", func := "milepost/milepostlaw19.DetourNone", spec := "detourNone", unfollowed := true, recurses := true, apart := false, narrowed := true }
def DetourNoneUptoSaid : Prop := detourNoneUptoRow.holds Try.pinned (OpenSpec.upto detourNoneSpec)

/-- 'milepostlaw19.DetourAll', WHERE WHAT IT READS IS OF BULK AT MOST 1048576: true; the input reads as it did. -/
def detourAllUptoRow : OpenClaim := { program := "ytbjdjafkpldbnaa", sum := "9c3376eff1b2ee7283d112e97b6a2d1cede59e41bb25b3417efdfc3792f73ef1", func := "milepost/milepostlaw19.DetourAll", spec := "detourAll", unfollowed := true, recurses := true, apart := false, narrowed := true }
def DetourAllUptoSaid : Prop := detourAllUptoRow.holds Try.pinned (OpenSpec.upto detourAllSpec)

end Rows
end Go.Proofs.Ytbjdjafkpldbnaa
