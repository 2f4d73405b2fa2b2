/- turns.Arcs by contract. -/
import Derived.Test.YtbjdjafkpldbnaaTurns
import Derived.Deep.DeepCutAuto
import Derived.Deep.CutBlock
namespace Go.Proofs.Ytbjdjafkpldbnaa
open Go.RowKit Mile
set_option maxRecDepth 100000
theorem infoA : (Try.prog.info? 72).map (fun i => (i.zero, i.size, i.bytes)) = some (some (.agg #[.int .i64 0, .int .i64 0, .int .i64 0, .int .i64 0]), 4, 32) := by kernel_rfl
/-- A row of arcs in new memory. -/
def ARow (xs : List P4) : Value → World → Prop := fun v W => ∃ a c, v = .slice a xs.length c ∧ Rd W 4 (.slice a xs.length c) xs.length (xs.flatMap c4)
theorem ARow.st (xs : List P4) : Stable (Mod (fun _ => False)) (ARow xs) := fun _ _ _ ⟨a, c, h, hr⟩ hm => ⟨a, c, h, hr.keep hm (fun _ _ e => e)⟩
theorem one4 (x : P4) : ∀ u ∈ c4 x, u.oneCell' = true := by
  intro u hu; simp [c4] at hu; rcases hu with rfl | rfl | rfl | rfl <;> rfl
theorem arcsOf_take (G : GD) (a : Int) (k : Nat) (h : k < (nxtR G a).length) : (arcsOf G a).take (k + 1) = (arcsOf G a).take k ++ [arcOf G a ((nxtR G a)[k])] := by
  have hl : k < (arcsOf G a).length := by unfold arcsOf; rw [List.length_map]; exact h
  rw [List.take_succ_eq_append_getElem hl]
  congr 1
  simp [arcsOf]
theorem arcsOf_all (G : GD) (a : Int) (k : Nat) (h : k = (nxtR G a).length) : (arcsOf G a).take k = arcsOf G a := List.take_of_length_le (by unfold arcsOf; rw [List.length_map]; omega)
theorem arcsPart_len (G : GD) (hm : G.E.length ≤ 512) (j : Nat) (hj : j ≤ G.E.length) (k : Nat) : (arcsTo G j ++ (arcsOf G (j : Int)).take k).length ≤ 300000 := by
  rw [List.length_append]
  have h1 := arcsTo_len G j
  have h2 : ((arcsOf G (j : Int)).take k).length ≤ (arcsOf G (j : Int)).length := List.length_take_le' _ _
  have h3 : (arcsOf G (j : Int)).length ≤ G.E.length := by unfold arcsOf; rw [List.length_map]; exact nxtR_len G j
  have h4 : j * G.E.length ≤ 512 * 512 := Nat.mul_le_mul (by omega) hm
  omega
/-- A row of arcs of the call's own, in blocks from B0 on. -/
def AOwn (B0 : Nat) (xs : List P4) (v : Value) (W : World) : Prop := W.ownsRow B0 72 4 v xs.length (xs.flatMap c4)
theorem AOwn.keep {B0 : Nat} {xs : List P4} {v : Value} {W W' : World} (h : AOwn B0 xs v W) (m : Mod (fun _ => False) W W') : AOwn B0 xs v W' := Own.keep h m (fun _ _ e => e)
theorem AOwn.push {B0 : Nat} {xs : List P4} {x : P4} {v v' : Value} {W W' : World} (h : AOwn B0 xs v W) (hz : B0 ≤ W.heap.size) (ha : Appended W W' 72 4 v v' (xs.length + 1) (xs.flatMap c4 ++ c4 x)) : AOwn B0 (xs ++ [x]) v' W' := by
  unfold AOwn
  rw [c4_snoc, List.length_append]
  exact Own.rebase ha.own (ha.low hz (fun k hk => (h.lt k hk).1))

end Go.Proofs.Ytbjdjafkpldbnaa
