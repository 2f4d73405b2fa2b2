/- Package bend without a graph, by contract; what the laws' awake() asks. -/
import Derived.Test.YtagmnkobigecnaaKBend
import Derived.Test.YtagmnkobigecnaaGr8
namespace Go.Proofs.Ytagmnkobigecnaa
open Go.RowKit Mile
set_option maxRecDepth 100000

theorem edges_nil (w : World) : Calls Try.prog 38 #[.pointer none] w fun e w' => e = .returned (.int .i64 0) ∧ w' = w := by
  go_enter Try.func38, Try.ntmps38
  go_wp2_with fail
  go_ret
  exact ⟨rfl, rfl⟩
theorem edge_nil (w : World) : Calls Try.prog 52 #[.pointer none, .int .i64 0] w fun e w' => e = .returned (.tuple #[.agg #[.int .i64 0, .int .i64 0, .int .i64 0], .bool false]) ∧ Mod (fun _ => False) w w' := by
  go_enter Try.func52, Try.ntmps52
  go_wp2_with (go_at_call 38; refine (edges_nil _).mono ?_; rintro e w' ⟨rfl, rfl⟩)
  have b2 := Blk.new w 41 [.int .i64 0, .int .i64 0, .int .i64 0]
  (try simp only [Exit.inBlock, Exit.then])
  refine bodyPost_ret (results_row_tmp rfl _ _ w.heap.size 41 #[.int .i64 0, .int .i64 0, .int .i64 0] (0, 0) _ rfl b2 Try.underlying41 rfl (by kernel_rfl)) rfl ?_
  exact ⟨rfl, Mod.alloc _ w _⟩
theorem way_nil (w : World) : Calls Try.prog 57 #[.pointer none, .int .i64 0] w fun e w' => e = .returned (.tuple #[.int .i64 0, .int .i64 0]) ∧ Mod (fun _ => False) w w' := by
  go_enter Try.func57, Try.ntmps57
  go_wp2_with fail
  refine (edge_nil _).mono ?_
  rintro e w1 ⟨rfl, hM⟩
  have hM2 := hM.trans (Mod.alloc (fun _ => False) w1 (.cells #[.int .i64 0, .int .i64 0, .int .i64 0] 41)) (H := fun _ => False) (fun _ _ e => e) (fun _ _ e => e)
  go_wp2_with fail
  go_ret2
  exact ⟨rfl, hM2⟩
theorem of_nil (w : World) : Calls Try.prog 22 #[.pointer none, .int .i64 0, .int .i64 0] w fun e w' => e = .returned (.int .i64 0) ∧ Mod (fun _ => False) w w' := by
  go_enter Try.func22, Try.ntmps22
  go_wp2_with fail
  refine (way_nil _).mono ?_
  rintro e w1 ⟨rfl, hM⟩
  go_wp2_with fail
  refine (way_nil _).mono ?_
  rintro e w2 ⟨rfl, hM2⟩
  have hM3 := hM.trans hM2 (H := fun _ => False) (fun _ _ e => e) (fun _ _ e => e)
  go_wp2_with (go_at_call 20; refine (class_any _ _ _ _ _).mono ?_; rintro e w' ⟨rfl, rfl⟩)
  go_ret
  exact ⟨rfl, hM3⟩
theorem class_at {ax ay bx dy r : Int} (h : clsC ax ay bx dy = r) (w : World) : Calls Try.prog 20 #[.int .i64 ax, .int .i64 ay, .int .i64 bx, .int .i64 dy] w fun e w' => e = .returned (.int .i64 r) ∧ w' = w :=
  (class_any ax ay bx dy w).mono fun e w' hh => ⟨by rw [hh.1, h], hh.2⟩
theorem mirror_at {c r : Int} (h : mirC c = r) (hc : (Lit.int .i64 c).wf = true) (w : World) : Calls Try.prog 24 #[.int .i64 c] w fun e w' => e = .returned (.int .i64 r) ∧ w' = w :=
  (mirror_any c hc w).mono fun e w' hh => ⟨by rw [hh.1, h], hh.2.symm⟩

set_option maxHeartbeats 4000000 in
theorem awake_any (w : World) : Calls Try.prog 19 #[] w fun e w' => e = .returned (.bool true) ∧ Mod (fun _ => False) w w' := by
  have k0 : clsC 1 0 0 1 = 3 := by decide
  have k1 : clsC 1 0 0 (-1) = 7 := by decide
  have k2 : clsC 4 0 4 1 = 1 := by decide
  have k3 : clsC 2 0 2 1 = 2 := by decide
  have k4 : clsC 1 0 (-1) 1 = 4 := by decide
  have k5 : clsC 1 0 (-1) 0 = 5 := by decide
  have k6 : clsC 0 0 1 1 = 0 := by decide
  have k7 : clsC 4096 0 1 0 = 0 := by decide
  have km : mirC 4 = 8 := by decide
  go_enter Try.func19, Try.ntmps19
  go_wp2_with fail
  refine (class_at k0 _).mono ?_
  rintro e w' ⟨rfl, rfl⟩
  clear k0
  go_wp2_with fail
  refine (class_at k1 _).mono ?_
  rintro e w' ⟨rfl, rfl⟩
  clear k1
  go_wp2_with fail
  refine (class_at k2 _).mono ?_
  rintro e w' ⟨rfl, rfl⟩
  clear k2
  go_wp2_with fail
  refine (class_at k3 _).mono ?_
  rintro e w' ⟨rfl, rfl⟩
  clear k3
  go_wp2_with fail
  refine (class_at k4 _).mono ?_
  rintro e w' ⟨rfl, rfl⟩
  clear k4
  go_wp2_with fail
  refine (class_at k5 _).mono ?_
  rintro e w' ⟨rfl, rfl⟩
  clear k5
  go_wp2_with fail
  refine (class_at k6 _).mono ?_
  rintro e w' ⟨rfl, rfl⟩
  clear k6
  go_wp2_with fail
  refine (class_at k7 _).mono ?_
  rintro e w' ⟨rfl, rfl⟩
  clear k7
  go_wp2_with fail
  refine (mirror_at km (by decide) _).mono ?_
  rintro e w' ⟨rfl, rfl⟩
  clear km
  go_wp2_with fail
  refine (of_nil _).mono ?_
  rintro e w' ⟨rfl, hM⟩
  have HM := Lib.hid hM
  clear hM
  go_wp2_with fail
  go_ret
  exact ⟨rfl, HM.out⟩
end Go.Proofs.Ytagmnkobigecnaa
