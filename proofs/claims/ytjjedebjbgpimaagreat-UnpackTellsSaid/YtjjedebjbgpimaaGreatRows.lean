/-
  No cell of these rows narrows 'for every input' (looked for: loops, veiled, ifaces, maps, wideKeys, modest, calm, conditions, laid).
  DERIVED. THE GIVEN ROWS OF THIS SEAT. 10 by the template 'for every input the law returns true; each argument reads behind the call as it read before'; 0 by the template 'total and deterministic' (their statements: YtjjedebjbgpimaaGreatTotals.lean).
  GIVEN WITH THE SEED: the statements are not yours to turn. If you find one false, say at which input.
  Laid BY PROGRAM, IN A SANDBOX (cutbox-rows.mjs): the forced cells as the released guide's own fill.sh prints them over the translation 1f06ed8e858882ea… (all of the seat's roots in one cut). By AI agents, Wed Nov 11 2026. No macro, syntax, notation, axiom, sorry.
-/
import Derived.Test.YtjjedebjbgpimaaGreatChecked
import GoSem.Claim
import GoSem.ClaimJoined
import GoSem.ClaimMapViews
import Derived.JoinedTies
import Derived.KernelRfl
namespace Go.Proofs.YtjjedebjbgpimaaGreat
/- THE CELL 'sum', in the pinned program and in every row, IS THE sha256 OF THE DUMP (.gsa) THAT YtjjedebjbgpimaaGreatProg.lean LOADS. Nothing in Lean hashes anything: it is a label: what it is worth is what the hold of that sum in a sandbox is worth. -/
noncomputable def Tryz.pinned : Pinned := { name := "ytjjedebjbgpimaagreat", sum := "1f06ed8e858882ea0adb455e8b3678c73af584e18aaa1b000478144dcc798fda", checked := Tryz.checked }
namespace Rows
def none {H : Type} : Left H := { results := [], args := [] }

/-- 'milepostlaw16.LevelsTell': WHATEVER THE INPUT: true; the input reads as it did. -/
def levelsTellSpec : ChangeSpec := { name := "levelsTell", fn := fun _ => fun
  | [d1, d2, d3] => { results := [.lit (.bool true)], args := [d1, d2, d3] }
  | _ => none }
def levelsTellRow : OpenClaim := { program := "ytjjedebjbgpimaagreat", sum := "1f06ed8e858882ea0adb455e8b3678c73af584e18aaa1b000478144dcc798fda", func := "milepost/milepostlaw16.LevelsTell", spec := "levelsTell", inPlace := ["slices.overlaps[milepost/api.Arc]", "slices.overlaps[int]"], unfollowed := true, recurses := true, plainKeys := false, apart := false }
def LevelsTellSaid : Prop := levelsTellRow.holds Tryz.pinned (OpenSpec.ofChange levelsTellSpec)

/-- ITS FALSE NEIGHBOUR: 'it returns false'. Refute it at one input. -/
def levelsTellWrong : ChangeSpec := { name := "levelsTell", fn := fun _ => fun
  | [d1, d2, d3] => { results := [.lit (.bool false)], args := [d1, d2, d3] }
  | _ => none }
def LevelsTellWrongFalsely : Prop := levelsTellRow.holds Tryz.pinned (OpenSpec.ofChange levelsTellWrong)

/-- 'milepostlaw16.LevelsFar': WHATEVER THE INPUT: true; the input reads as it did. -/
def levelsFarSpec : ChangeSpec := { name := "levelsFar", fn := fun _ => fun
  | [d1, d2] => { results := [.lit (.bool true)], args := [d1, d2] }
  | _ => none }
def levelsFarRow : OpenClaim := { program := "ytjjedebjbgpimaagreat", sum := "1f06ed8e858882ea0adb455e8b3678c73af584e18aaa1b000478144dcc798fda", func := "milepost/milepostlaw16.LevelsFar", spec := "levelsFar", inPlace := ["slices.overlaps[milepost/api.Arc]", "slices.overlaps[int]"], unfollowed := true, recurses := true, plainKeys := false, apart := false }
def LevelsFarSaid : Prop := levelsFarRow.holds Tryz.pinned (OpenSpec.ofChange levelsFarSpec)

/-- ITS FALSE NEIGHBOUR: 'it returns false'. Refute it at one input. -/
def levelsFarWrong : ChangeSpec := { name := "levelsFar", fn := fun _ => fun
  | [d1, d2] => { results := [.lit (.bool false)], args := [d1, d2] }
  | _ => none }
def LevelsFarWrongFalsely : Prop := levelsFarRow.holds Tryz.pinned (OpenSpec.ofChange levelsFarWrong)

/-- 'milepostlaw16.LevelsOwn': WHATEVER THE INPUT: true; the input reads as it did. -/
def levelsOwnSpec : ChangeSpec := { name := "levelsOwn", fn := fun _ => fun
  | [d1, d2] => { results := [.lit (.bool true)], args := [d1, d2] }
  | _ => none }
def levelsOwnRow : OpenClaim := { program := "ytjjedebjbgpimaagreat", sum := "1f06ed8e858882ea0adb455e8b3678c73af584e18aaa1b000478144dcc798fda", func := "milepost/milepostlaw16.LevelsOwn", spec := "levelsOwn", inPlace := ["slices.overlaps[milepost/api.Arc]", "slices.overlaps[int]"], unfollowed := true, recurses := true, plainKeys := false, apart := false }
def LevelsOwnSaid : Prop := levelsOwnRow.holds Tryz.pinned (OpenSpec.ofChange levelsOwnSpec)

/-- ITS FALSE NEIGHBOUR: 'it returns false'. Refute it at one input. -/
def levelsOwnWrong : ChangeSpec := { name := "levelsOwn", fn := fun _ => fun
  | [d1, d2] => { results := [.lit (.bool false)], args := [d1, d2] }
  | _ => none }
def LevelsOwnWrongFalsely : Prop := levelsOwnRow.holds Tryz.pinned (OpenSpec.ofChange levelsOwnWrong)

/-- 'milepostlaw17.UnpackTells': WHATEVER THE INPUT: true; the input reads as it did. -/
def unpackTellsSpec : ChangeSpec := { name := "unpackTells", fn := fun _ => fun
  | [d1, d2, d3] => { results := [.lit (.bool true)], args := [d1, d2, d3] }
  | _ => none }
def unpackTellsRow : OpenClaim := { program := "ytjjedebjbgpimaagreat", sum := "1f06ed8e858882ea0adb455e8b3678c73af584e18aaa1b000478144dcc798fda", func := "milepost/milepostlaw17.UnpackTells", spec := "unpackTells", inPlace := ["slices.overlaps[milepost/api.Arc]", "slices.overlaps[int]"], unfollowed := true, recurses := true, plainKeys := false, apart := false }
def UnpackTellsSaid : Prop := unpackTellsRow.holds Tryz.pinned (OpenSpec.ofChange unpackTellsSpec)

/-- ITS FALSE NEIGHBOUR: 'it returns false'. Refute it at one input. -/
def unpackTellsWrong : ChangeSpec := { name := "unpackTells", fn := fun _ => fun
  | [d1, d2, d3] => { results := [.lit (.bool false)], args := [d1, d2, d3] }
  | _ => none }
def UnpackTellsWrongFalsely : Prop := unpackTellsRow.holds Tryz.pinned (OpenSpec.ofChange unpackTellsWrong)

/-- 'milepostlaw17.UnpackArcs': WHATEVER THE INPUT: true; the input reads as it did. -/
def unpackArcsSpec : ChangeSpec := { name := "unpackArcs", fn := fun _ => fun
  | [d1, d2] => { results := [.lit (.bool true)], args := [d1, d2] }
  | _ => none }
def unpackArcsRow : OpenClaim := { program := "ytjjedebjbgpimaagreat", sum := "1f06ed8e858882ea0adb455e8b3678c73af584e18aaa1b000478144dcc798fda", func := "milepost/milepostlaw17.UnpackArcs", spec := "unpackArcs", inPlace := ["slices.overlaps[milepost/api.Arc]", "slices.overlaps[int]"], unfollowed := true, recurses := true, plainKeys := false, apart := false }
def UnpackArcsSaid : Prop := unpackArcsRow.holds Tryz.pinned (OpenSpec.ofChange unpackArcsSpec)

/-- ITS FALSE NEIGHBOUR: 'it returns false'. Refute it at one input. -/
def unpackArcsWrong : ChangeSpec := { name := "unpackArcs", fn := fun _ => fun
  | [d1, d2] => { results := [.lit (.bool false)], args := [d1, d2] }
  | _ => none }
def UnpackArcsWrongFalsely : Prop := unpackArcsRow.holds Tryz.pinned (OpenSpec.ofChange unpackArcsWrong)

/-- 'milepostlaw17.UnpackRows': WHATEVER THE INPUT: true; the input reads as it did. -/
def unpackRowsSpec : ChangeSpec := { name := "unpackRows", fn := fun _ => fun
  | [d1, d2, d3, d4] => { results := [.lit (.bool true)], args := [d1, d2, d3, d4] }
  | _ => none }
def unpackRowsRow : OpenClaim := { program := "ytjjedebjbgpimaagreat", sum := "1f06ed8e858882ea0adb455e8b3678c73af584e18aaa1b000478144dcc798fda", func := "milepost/milepostlaw17.UnpackRows", spec := "unpackRows", inPlace := ["slices.overlaps[milepost/api.Arc]", "slices.overlaps[int]"], unfollowed := true, recurses := true, plainKeys := false, apart := false }
def UnpackRowsSaid : Prop := unpackRowsRow.holds Tryz.pinned (OpenSpec.ofChange unpackRowsSpec)

/-- ITS FALSE NEIGHBOUR: 'it returns false'. Refute it at one input. -/
def unpackRowsWrong : ChangeSpec := { name := "unpackRows", fn := fun _ => fun
  | [d1, d2, d3, d4] => { results := [.lit (.bool false)], args := [d1, d2, d3, d4] }
  | _ => none }
def UnpackRowsWrongFalsely : Prop := unpackRowsRow.holds Tryz.pinned (OpenSpec.ofChange unpackRowsWrong)

/-- 'milepostlaw18.SearchTells': WHATEVER THE INPUT: true; the input reads as it did. -/
def searchTellsSpec : ChangeSpec := { name := "searchTells", fn := fun _ => fun
  | [d1, d2, d3, d4] => { results := [.lit (.bool true)], args := [d1, d2, d3, d4] }
  | _ => none }
def searchTellsRow : OpenClaim := { program := "ytjjedebjbgpimaagreat", sum := "1f06ed8e858882ea0adb455e8b3678c73af584e18aaa1b000478144dcc798fda", func := "milepost/milepostlaw18.SearchTells", spec := "searchTells", inPlace := ["slices.overlaps[milepost/api.Arc]", "slices.overlaps[int]"], unfollowed := true, recurses := true, plainKeys := false, apart := false }
def SearchTellsSaid : Prop := searchTellsRow.holds Tryz.pinned (OpenSpec.ofChange searchTellsSpec)

/-- ITS FALSE NEIGHBOUR: 'it returns false'. Refute it at one input. -/
def searchTellsWrong : ChangeSpec := { name := "searchTells", fn := fun _ => fun
  | [d1, d2, d3, d4] => { results := [.lit (.bool false)], args := [d1, d2, d3, d4] }
  | _ => none }
def SearchTellsWrongFalsely : Prop := searchTellsRow.holds Tryz.pinned (OpenSpec.ofChange searchTellsWrong)

/-- 'milepostlaw18.SearchFar': WHATEVER THE INPUT: true; the input reads as it did. -/
def searchFarSpec : ChangeSpec := { name := "searchFar", fn := fun _ => fun
  | [d1, d2, d3, d4] => { results := [.lit (.bool true)], args := [d1, d2, d3, d4] }
  | _ => none }
def searchFarRow : OpenClaim := { program := "ytjjedebjbgpimaagreat", sum := "1f06ed8e858882ea0adb455e8b3678c73af584e18aaa1b000478144dcc798fda", func := "milepost/milepostlaw18.SearchFar", spec := "searchFar", inPlace := ["slices.overlaps[milepost/api.Arc]", "slices.overlaps[int]"], unfollowed := true, recurses := true, plainKeys := false, apart := false }
def SearchFarSaid : Prop := searchFarRow.holds Tryz.pinned (OpenSpec.ofChange searchFarSpec)

/-- ITS FALSE NEIGHBOUR: 'it returns false'. Refute it at one input. -/
def searchFarWrong : ChangeSpec := { name := "searchFar", fn := fun _ => fun
  | [d1, d2, d3, d4] => { results := [.lit (.bool false)], args := [d1, d2, d3, d4] }
  | _ => none }
def SearchFarWrongFalsely : Prop := searchFarRow.holds Tryz.pinned (OpenSpec.ofChange searchFarWrong)

/-- 'milepostlaw18.SearchNearest': WHATEVER THE INPUT: true; the input reads as it did. -/
def searchNearestSpec : ChangeSpec := { name := "searchNearest", fn := fun _ => fun
  | [d1, d2, d3, d4, d5] => { results := [.lit (.bool true)], args := [d1, d2, d3, d4, d5] }
  | _ => none }
def searchNearestRow : OpenClaim := { program := "ytjjedebjbgpimaagreat", sum := "1f06ed8e858882ea0adb455e8b3678c73af584e18aaa1b000478144dcc798fda", func := "milepost/milepostlaw18.SearchNearest", spec := "searchNearest", inPlace := ["slices.overlaps[milepost/api.Arc]", "slices.overlaps[int]"], unfollowed := true, recurses := true, plainKeys := false, apart := false }
def SearchNearestSaid : Prop := searchNearestRow.holds Tryz.pinned (OpenSpec.ofChange searchNearestSpec)

/-- ITS FALSE NEIGHBOUR: 'it returns false'. Refute it at one input. -/
def searchNearestWrong : ChangeSpec := { name := "searchNearest", fn := fun _ => fun
  | [d1, d2, d3, d4, d5] => { results := [.lit (.bool false)], args := [d1, d2, d3, d4, d5] }
  | _ => none }
def SearchNearestWrongFalsely : Prop := searchNearestRow.holds Tryz.pinned (OpenSpec.ofChange searchNearestWrong)

/-- 'milepostlaw18.SearchUps': WHATEVER THE INPUT: true; the input reads as it did. -/
def searchUpsSpec : ChangeSpec := { name := "searchUps", fn := fun _ => fun
  | [d1, d2, d3] => { results := [.lit (.bool true)], args := [d1, d2, d3] }
  | _ => none }
def searchUpsRow : OpenClaim := { program := "ytjjedebjbgpimaagreat", sum := "1f06ed8e858882ea0adb455e8b3678c73af584e18aaa1b000478144dcc798fda", func := "milepost/milepostlaw18.SearchUps", spec := "searchUps", inPlace := ["slices.overlaps[milepost/api.Arc]", "slices.overlaps[int]"], unfollowed := true, recurses := true, plainKeys := false, apart := false }
def SearchUpsSaid : Prop := searchUpsRow.holds Tryz.pinned (OpenSpec.ofChange searchUpsSpec)

/-- ITS FALSE NEIGHBOUR: 'it returns false'. Refute it at one input. -/
def searchUpsWrong : ChangeSpec := { name := "searchUps", fn := fun _ => fun
  | [d1, d2, d3] => { results := [.lit (.bool false)], args := [d1, d2, d3] }
  | _ => none }
def SearchUpsWrongFalsely : Prop := searchUpsRow.holds Tryz.pinned (OpenSpec.ofChange searchUpsWrong)

/- THE SECOND FORM. 'bulk': how many values and letters a reading holds, each counted each time it is reached (what is shared counts as often as it is met; a slice's spare places count too). A statement '..UptoSaid' is the law's where the arguments, and the package variables that the reading takes, are together of bulk at most 1048576: NARROWER than '..Said'. Prove '..Said' where nothing that the law and all that it calls make is longer than what came in: it says more and counts as full. Else prove '..UptoSaid'. A law counts once. -/
mutual
def uptoBulk {H : Type} : DataW H → Nat
  | .lit (.string bytes) => bytes.length + 1
  | .lit _ => 1
  | .nil => 1
  | .ptr d => uptoBulk d + 1
  | .slice elems spare => uptoBulkAll elems + uptoBulkAll spare + 1
  | .agg parts => uptoBulkAll parts + 1
  | .iface _ d => uptoBulk d + 1
  | .map entries => uptoBulkEntries entries + 1
  | .held _ => 1
def uptoBulkAll {H : Type} : List (DataW H) → Nat
  | [] => 0
  | d :: r => uptoBulk d + uptoBulkAll r
def uptoBulkEntries {H : Type} : List (Lit × DataW H) → Nat
  | [] => 0
  | x :: r => uptoBulkEntry x + uptoBulkEntries r
def uptoBulkEntry {H : Type} : Lit × DataW H → Nat
  | (.string bytes, d) => bytes.length + uptoBulk d + 1
  | (_, d) => uptoBulk d + 1
 end
def uptoSmall : (H : Type) → List (DataW H) → Bool := fun _ ds => decide (uptoBulkAll ds ≤ 1048576)
def OpenSpec.upto (s : _root_.Go.ChangeSpec) : _root_.Go.OpenSpec := { _root_.Go.OpenSpec.ofChange s with cond := some uptoSmall }

/-- 'milepostlaw16.LevelsTell', WHERE WHAT IT READS IS OF BULK AT MOST 1048576: true; the input reads as it did. -/
def levelsTellUptoRow : OpenClaim := { program := "ytjjedebjbgpimaagreat", sum := "1f06ed8e858882ea0adb455e8b3678c73af584e18aaa1b000478144dcc798fda", func := "milepost/milepostlaw16.LevelsTell", spec := "levelsTell", inPlace := ["slices.overlaps[milepost/api.Arc]", "slices.overlaps[int]"], unfollowed := true, recurses := true, plainKeys := false, apart := false, narrowed := true }
def LevelsTellUptoSaid : Prop := levelsTellUptoRow.holds Tryz.pinned (OpenSpec.upto levelsTellSpec)

/-- 'milepostlaw16.LevelsFar', WHERE WHAT IT READS IS OF BULK AT MOST 1048576: true; the input reads as it did. -/
def levelsFarUptoRow : OpenClaim := { program := "ytjjedebjbgpimaagreat", sum := "1f06ed8e858882ea0adb455e8b3678c73af584e18aaa1b000478144dcc798fda", func := "milepost/milepostlaw16.LevelsFar", spec := "levelsFar", inPlace := ["slices.overlaps[milepost/api.Arc]", "slices.overlaps[int]"], unfollowed := true, recurses := true, plainKeys := false, apart := false, narrowed := true }
def LevelsFarUptoSaid : Prop := levelsFarUptoRow.holds Tryz.pinned (OpenSpec.upto levelsFarSpec)

/-- 'milepostlaw16.LevelsOwn', WHERE WHAT IT READS IS OF BULK AT MOST 1048576: true; the input reads as it did. -/
def levelsOwnUptoRow : OpenClaim := { program := "ytjjedebjbgpimaagreat", sum := "1f06ed8e858882ea0adb455e8b3678c73af584e18aaa1b000478144dcc798fda", func := "milepost/milepostlaw16.LevelsOwn", spec := "levelsOwn", inPlace := ["slices.overlaps[milepost/api.Arc]", "slices.overlaps[int]"], unfollowed := true, recurses := true, plainKeys := false, apart := false, narrowed := true }
def LevelsOwnUptoSaid : Prop := levelsOwnUptoRow.holds Tryz.pinned (OpenSpec.upto levelsOwnSpec)

/-- 'milepostlaw17.UnpackTells', WHERE WHAT IT READS IS OF BULK AT MOST 1048576: true; the input reads as it did. -/
def unpackTellsUptoRow : OpenClaim := { program := "ytjjedebjbgpimaagreat", sum := "1f06ed8e858882ea0adb455e8b3678c73af584e18aaa1b000478144dcc798fda", func := "milepost/milepostlaw17.UnpackTells", spec := "unpackTells", inPlace := ["slices.overlaps[milepost/api.Arc]", "slices.overlaps[int]"], unfollowed := true, recurses := true, plainKeys := false, apart := false, narrowed := true }
def UnpackTellsUptoSaid : Prop := unpackTellsUptoRow.holds Tryz.pinned (OpenSpec.upto unpackTellsSpec)

/-- 'milepostlaw17.UnpackArcs', WHERE WHAT IT READS IS OF BULK AT MOST 1048576: true; the input reads as it did. -/
def unpackArcsUptoRow : OpenClaim := { program := "ytjjedebjbgpimaagreat", sum := "1f06ed8e858882ea0adb455e8b3678c73af584e18aaa1b000478144dcc798fda", func := "milepost/milepostlaw17.UnpackArcs", spec := "unpackArcs", inPlace := ["slices.overlaps[milepost/api.Arc]", "slices.overlaps[int]"], unfollowed := true, recurses := true, plainKeys := false, apart := false, narrowed := true }
def UnpackArcsUptoSaid : Prop := unpackArcsUptoRow.holds Tryz.pinned (OpenSpec.upto unpackArcsSpec)

/-- 'milepostlaw17.UnpackRows', WHERE WHAT IT READS IS OF BULK AT MOST 1048576: true; the input reads as it did. -/
def unpackRowsUptoRow : OpenClaim := { program := "ytjjedebjbgpimaagreat", sum := "1f06ed8e858882ea0adb455e8b3678c73af584e18aaa1b000478144dcc798fda", func := "milepost/milepostlaw17.UnpackRows", spec := "unpackRows", inPlace := ["slices.overlaps[milepost/api.Arc]", "slices.overlaps[int]"], unfollowed := true, recurses := true, plainKeys := false, apart := false, narrowed := true }
def UnpackRowsUptoSaid : Prop := unpackRowsUptoRow.holds Tryz.pinned (OpenSpec.upto unpackRowsSpec)

/-- 'milepostlaw18.SearchTells', WHERE WHAT IT READS IS OF BULK AT MOST 1048576: true; the input reads as it did. -/
def searchTellsUptoRow : OpenClaim := { program := "ytjjedebjbgpimaagreat", sum := "1f06ed8e858882ea0adb455e8b3678c73af584e18aaa1b000478144dcc798fda", func := "milepost/milepostlaw18.SearchTells", spec := "searchTells", inPlace := ["slices.overlaps[milepost/api.Arc]", "slices.overlaps[int]"], unfollowed := true, recurses := true, plainKeys := false, apart := false, narrowed := true }
def SearchTellsUptoSaid : Prop := searchTellsUptoRow.holds Tryz.pinned (OpenSpec.upto searchTellsSpec)

/-- 'milepostlaw18.SearchFar', WHERE WHAT IT READS IS OF BULK AT MOST 1048576: true; the input reads as it did. -/
def searchFarUptoRow : OpenClaim := { program := "ytjjedebjbgpimaagreat", sum := "1f06ed8e858882ea0adb455e8b3678c73af584e18aaa1b000478144dcc798fda", func := "milepost/milepostlaw18.SearchFar", spec := "searchFar", inPlace := ["slices.overlaps[milepost/api.Arc]", "slices.overlaps[int]"], unfollowed := true, recurses := true, plainKeys := false, apart := false, narrowed := true }
def SearchFarUptoSaid : Prop := searchFarUptoRow.holds Tryz.pinned (OpenSpec.upto searchFarSpec)

/-- 'milepostlaw18.SearchNearest', WHERE WHAT IT READS IS OF BULK AT MOST 1048576: true; the input reads as it did. -/
def searchNearestUptoRow : OpenClaim := { program := "ytjjedebjbgpimaagreat", sum := "1f06ed8e858882ea0adb455e8b3678c73af584e18aaa1b000478144dcc798fda", func := "milepost/milepostlaw18.SearchNearest", spec := "searchNearest", inPlace := ["slices.overlaps[milepost/api.Arc]", "slices.overlaps[int]"], unfollowed := true, recurses := true, plainKeys := false, apart := false, narrowed := true }
def SearchNearestUptoSaid : Prop := searchNearestUptoRow.holds Tryz.pinned (OpenSpec.upto searchNearestSpec)

/-- 'milepostlaw18.SearchUps', WHERE WHAT IT READS IS OF BULK AT MOST 1048576: true; the input reads as it did. -/
def searchUpsUptoRow : OpenClaim := { program := "ytjjedebjbgpimaagreat", sum := "1f06ed8e858882ea0adb455e8b3678c73af584e18aaa1b000478144dcc798fda", func := "milepost/milepostlaw18.SearchUps", spec := "searchUps", inPlace := ["slices.overlaps[milepost/api.Arc]", "slices.overlaps[int]"], unfollowed := true, recurses := true, plainKeys := false, apart := false, narrowed := true }
def SearchUpsUptoSaid : Prop := searchUpsUptoRow.holds Tryz.pinned (OpenSpec.upto searchUpsSpec)

end Rows
end Go.Proofs.YtjjedebjbgpimaaGreat
