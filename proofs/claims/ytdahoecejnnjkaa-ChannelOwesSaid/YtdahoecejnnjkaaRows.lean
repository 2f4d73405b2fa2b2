/-
  No cell of these rows narrows 'for every input' (looked for: loops, veiled, ifaces, maps, wideKeys, modest, calm, conditions, laid).
  DERIVED. THE GIVEN ROWS OF THIS SEAT. 4 by the template 'for every input the law returns true; each argument reads behind the call as it read before'; 0 by the template 'total and deterministic' (their statements: YtdahoecejnnjkaaTotals.lean).
  GIVEN WITH THE SEED: the statements are not yours to turn. If you find one false, say at which input.
  Laid BY PROGRAM, IN A SANDBOX (cutbox-rows.mjs): the forced cells as the released guide's own fill.sh prints them over the translation e9334926676309df… (all of the seat's roots in one cut). By AI agents, Wed Nov 11 2026. No macro, syntax, notation, axiom, sorry.
-/
import Derived.Test.YtdahoecejnnjkaaChecked
import GoSem.Claim
import GoSem.ClaimJoined
import GoSem.ClaimMapViews
import Derived.JoinedTies
import Derived.KernelRfl
namespace Go.Proofs.Ytdahoecejnnjkaa
/- THE CELL 'sum', in the pinned program and in every row, IS THE sha256 OF THE DUMP (.gsa) THAT YtdahoecejnnjkaaProg.lean LOADS. Nothing in Lean hashes anything: it is a label: what it is worth is what the hold of that sum in a sandbox is worth. -/
noncomputable def Try.pinned : Pinned := { name := "ytdahoecejnnjkaa", sum := "e9334926676309dff97d9bce6b3594706a529086e104474e8a9720f98f5552b6", checked := Try.checked }
namespace Rows
def none {H : Type} : Left H := { results := [], args := [] }

/-- 'milepostlaw27.ChannelActs': WHATEVER THE INPUT: true; the input reads as it did. -/
def channelActsSpec : ChangeSpec := { name := "channelActs", fn := fun _ => fun
  | [d1, d2, d3] => { results := [.lit (.bool true)], args := [d1, d2, d3] }
  | _ => none }
def channelActsRow : OpenClaim := { program := "ytdahoecejnnjkaa", sum := "e9334926676309dff97d9bce6b3594706a529086e104474e8a9720f98f5552b6", func := "milepost/milepostlaw27.ChannelActs", spec := "channelActs", recurses := true, apart := false }
def ChannelActsSaid : Prop := channelActsRow.holds Try.pinned (OpenSpec.ofChange channelActsSpec)

/-- ITS FALSE NEIGHBOUR: 'it returns false'. Refute it at one input. -/
def channelActsWrong : ChangeSpec := { name := "channelActs", fn := fun _ => fun
  | [d1, d2, d3] => { results := [.lit (.bool false)], args := [d1, d2, d3] }
  | _ => none }
def ChannelActsWrongFalsely : Prop := channelActsRow.holds Try.pinned (OpenSpec.ofChange channelActsWrong)

/-- 'milepostlaw27.ChannelOrder': WHATEVER THE INPUT: true; the input reads as it did. -/
def channelOrderSpec : ChangeSpec := { name := "channelOrder", fn := fun _ => fun
  | [d1, d2, d3, d4] => { results := [.lit (.bool true)], args := [d1, d2, d3, d4] }
  | _ => none }
def channelOrderRow : OpenClaim := { program := "ytdahoecejnnjkaa", sum := "e9334926676309dff97d9bce6b3594706a529086e104474e8a9720f98f5552b6", func := "milepost/milepostlaw27.ChannelOrder", spec := "channelOrder", recurses := true, apart := false }
def ChannelOrderSaid : Prop := channelOrderRow.holds Try.pinned (OpenSpec.ofChange channelOrderSpec)

/-- ITS FALSE NEIGHBOUR: 'it returns false'. Refute it at one input. -/
def channelOrderWrong : ChangeSpec := { name := "channelOrder", fn := fun _ => fun
  | [d1, d2, d3, d4] => { results := [.lit (.bool false)], args := [d1, d2, d3, d4] }
  | _ => none }
def ChannelOrderWrongFalsely : Prop := channelOrderRow.holds Try.pinned (OpenSpec.ofChange channelOrderWrong)

/-- 'milepostlaw27.ChannelOwes': WHATEVER THE INPUT: true; the input reads as it did. -/
def channelOwesSpec : ChangeSpec := { name := "channelOwes", fn := fun _ => fun
  | [d1, d2, d3] => { results := [.lit (.bool true)], args := [d1, d2, d3] }
  | _ => none }
def channelOwesRow : OpenClaim := { program := "ytdahoecejnnjkaa", sum := "e9334926676309dff97d9bce6b3594706a529086e104474e8a9720f98f5552b6", func := "milepost/milepostlaw27.ChannelOwes", spec := "channelOwes", apart := false }
def ChannelOwesSaid : Prop := channelOwesRow.holds Try.pinned (OpenSpec.ofChange channelOwesSpec)

/-- ITS FALSE NEIGHBOUR: 'it returns false'. Refute it at one input. -/
def channelOwesWrong : ChangeSpec := { name := "channelOwes", fn := fun _ => fun
  | [d1, d2, d3] => { results := [.lit (.bool false)], args := [d1, d2, d3] }
  | _ => none }
def ChannelOwesWrongFalsely : Prop := channelOwesRow.holds Try.pinned (OpenSpec.ofChange channelOwesWrong)

/-- 'milepostlaw27.ChannelTries': WHATEVER THE INPUT: true; the input reads as it did. -/
def channelTriesSpec : ChangeSpec := { name := "channelTries", fn := fun _ => fun
  | [d1, d2, d3, d4] => { results := [.lit (.bool true)], args := [d1, d2, d3, d4] }
  | _ => none }
def channelTriesRow : OpenClaim := { program := "ytdahoecejnnjkaa", sum := "e9334926676309dff97d9bce6b3594706a529086e104474e8a9720f98f5552b6", func := "milepost/milepostlaw27.ChannelTries", spec := "channelTries", recurses := true, apart := false }
def ChannelTriesSaid : Prop := channelTriesRow.holds Try.pinned (OpenSpec.ofChange channelTriesSpec)

/-- ITS FALSE NEIGHBOUR: 'it returns false'. Refute it at one input. -/
def channelTriesWrong : ChangeSpec := { name := "channelTries", fn := fun _ => fun
  | [d1, d2, d3, d4] => { results := [.lit (.bool false)], args := [d1, d2, d3, d4] }
  | _ => none }
def ChannelTriesWrongFalsely : Prop := channelTriesRow.holds Try.pinned (OpenSpec.ofChange channelTriesWrong)

/- THE SECOND FORM. 'bulk': how many values and letters a reading holds, each counted each time it is reached (what is shared counts as often as it is met; a slice's spare places count too). A statement '..UptoSaid' is the law's where the arguments, and the package variables that the reading takes, are together of bulk at most 1048576: NARROWER than '..Said'. Prove '..Said' where nothing that the law and all that it calls make is longer than what came in: it says more and counts as full. Else prove '..UptoSaid'. A law counts once. -/
mutual
def uptoBulk {H : Type} : DataW H → Nat
  | .lit (.string bytes) => bytes.length + 1
  | .lit _ => 1
  | .nil => 1
  | .ptr d => uptoBulk d + 1
  | .slice elems spare => uptoBulkAll elems + uptoBulkAll spare + 1
  | .agg parts => uptoBulkAll parts + 1
  | .iface _ d => uptoBulk d + 1
  | .map entries => uptoBulkEntries entries + 1
  | .held _ => 1
def uptoBulkAll {H : Type} : List (DataW H) → Nat
  | [] => 0
  | d :: r => uptoBulk d + uptoBulkAll r
def uptoBulkEntries {H : Type} : List (Lit × DataW H) → Nat
  | [] => 0
  | x :: r => uptoBulkEntry x + uptoBulkEntries r
def uptoBulkEntry {H : Type} : Lit × DataW H → Nat
  | (.string bytes, d) => bytes.length + uptoBulk d + 1
  | (_, d) => uptoBulk d + 1
 end
def uptoSmall : (H : Type) → List (DataW H) → Bool := fun _ ds => decide (uptoBulkAll ds ≤ 1048576)
def OpenSpec.upto (s : _root_.Go.ChangeSpec) : _root_.Go.OpenSpec := { _root_.Go.OpenSpec.ofChange s with cond := some uptoSmall }

/-- 'milepostlaw27.ChannelActs', WHERE WHAT IT READS IS OF BULK AT MOST 1048576: true; the input reads as it did. -/
def channelActsUptoRow : OpenClaim := { program := "ytdahoecejnnjkaa", sum := "e9334926676309dff97d9bce6b3594706a529086e104474e8a9720f98f5552b6", func := "milepost/milepostlaw27.ChannelActs", spec := "channelActs", recurses := true, apart := false, narrowed := true }
def ChannelActsUptoSaid : Prop := channelActsUptoRow.holds Try.pinned (OpenSpec.upto channelActsSpec)

/-- 'milepostlaw27.ChannelOrder', WHERE WHAT IT READS IS OF BULK AT MOST 1048576: true; the input reads as it did. -/
def channelOrderUptoRow : OpenClaim := { program := "ytdahoecejnnjkaa", sum := "e9334926676309dff97d9bce6b3594706a529086e104474e8a9720f98f5552b6", func := "milepost/milepostlaw27.ChannelOrder", spec := "channelOrder", recurses := true, apart := false, narrowed := true }
def ChannelOrderUptoSaid : Prop := channelOrderUptoRow.holds Try.pinned (OpenSpec.upto channelOrderSpec)

/-- 'milepostlaw27.ChannelOwes', WHERE WHAT IT READS IS OF BULK AT MOST 1048576: true; the input reads as it did. -/
def channelOwesUptoRow : OpenClaim := { program := "ytdahoecejnnjkaa", sum := "e9334926676309dff97d9bce6b3594706a529086e104474e8a9720f98f5552b6", func := "milepost/milepostlaw27.ChannelOwes", spec := "channelOwes", apart := false, narrowed := true }
def ChannelOwesUptoSaid : Prop := channelOwesUptoRow.holds Try.pinned (OpenSpec.upto channelOwesSpec)

/-- 'milepostlaw27.ChannelTries', WHERE WHAT IT READS IS OF BULK AT MOST 1048576: true; the input reads as it did. -/
def channelTriesUptoRow : OpenClaim := { program := "ytdahoecejnnjkaa", sum := "e9334926676309dff97d9bce6b3594706a529086e104474e8a9720f98f5552b6", func := "milepost/milepostlaw27.ChannelTries", spec := "channelTries", recurses := true, apart := false, narrowed := true }
def ChannelTriesUptoSaid : Prop := channelTriesUptoRow.holds Try.pinned (OpenSpec.upto channelTriesSpec)

end Rows
end Go.Proofs.Ytdahoecejnnjkaa
