/- taker's Held by contract. -/
import Derived.Test.YtdahoecejnnjkaaTk1
import Derived.Test.YtdahoecejnnjkaaIRowP
import Derived.Deep.DeepCutAuto
import Derived.Deep.CutBlock
namespace Go.Proofs.Ytdahoecejnnjkaa
open Go.RowKit Mile
set_option maxRecDepth 100000
theorem Tk.info3 : (Try.prog.info? 3).map (fun i => (i.zero, i.size, i.bytes)) = some (some (.int .i64 0), 1, 8) := by kernel_rfl
/-- Those that are held, rising: the first j places. -/
def heldT (f : Hld) (N j : Nat) : List Int := ((List.range j).filter (fun i : Nat => (f (N + i)).isSome)).map (fun i : Nat => ((N + i : Nat) : Int))
theorem heldT_succ (f : Hld) (N j : Nat) : heldT f N (j + 1) = heldT f N j ++ (if (f (N + j)).isSome then [((N + j : Nat) : Int)] else []) := by
  unfold heldT
  rw [List.range_succ, List.filter_append, List.map_append]
  congr 1
  cases h : (f (N + j)).isSome <;> simp [h]
theorem heldT_len (f : Hld) (N j : Nat) : (heldT f N j).length ≤ j := by
  unfold heldT
  rw [List.length_map]
  exact Nat.le_trans (List.length_filter_le _ _) (by simp)
theorem heldT_none (N j : Nat) : heldT (fun _ => none) N j = [] := by unfold heldT; simp

end Go.Proofs.Ytdahoecejnnjkaa
