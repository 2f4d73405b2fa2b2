/- Law 7's awake by contract. -/
import Derived.Test.YtagmnkobigecnaaTNil
import Derived.Deep.DeepCutAuto
import Derived.Deep.CutBlock
namespace Go.Proofs.Ytagmnkobigecnaa
open Go.RowKit Mile
set_option maxRecDepth 100000
def aG7 : GD := ⟨[(0, 0), (1, 0)], [(0, 1, 5), (1, 0, 6), (1, 1, 7)], [(0, 1)]⟩
theorem aG7_may : May aG7 := by
  refine ⟨⟨⟨by decide, by decide⟩, by decide, by decide⟩, ?_, ?_, ?_⟩
  · intro x hx; simp [aG7] at hx; rcases hx with rfl | rfl <;> exact ⟨⟨by decide, by decide⟩, by decide, by decide⟩
  · intro x hx; simp [aG7] at hx; rcases hx with rfl | rfl | rfl <;> exact ⟨⟨by decide, by decide⟩, ⟨by decide, by decide⟩, by decide, by decide⟩
  · intro i hi
    have hi' : i < 1 := hi
    obtain rfl : i = 0 := by omega
    refine ⟨?_, fun h => by omega⟩
    show BanOk aG7 (0, 1)
    exact ⟨⟨by decide, by decide⟩, ⟨by decide, by decide⟩, by decide⟩
theorem a7n0 : nxtR aG7 0 = [2] := by decide
theorem a7p0 : prvR aG7 0 = [1] := by decide
theorem a7n2 : nxtR aG7 2 = [1, 2] := by decide
theorem a7m1 : turnB aG7 0 1 = false := by decide
theorem a7m2 : turnB aG7 2 2 = true := by decide
theorem a7m3 : turnB aG7 0 9 = false := by decide

set_option maxHeartbeats 16000000 in
theorem awake7_any (w : World) : Calls Try.prog 9 #[] w fun e w' => e = .returned (.bool true) ∧ Mod (fun _ => False) w w' := by
  have HS : Hid (Ev (Mod (fun _ => False) w) w) := Lib.hid (Ev.mod w)
  go_enter Try.func9, Try.ntmps9
  go_wp2_with fail
  have r1 := ((Rd.litN (w := w) 70 2 [.int .i64 0, .int .i64 0, .int .i64 1, .int .i64 0] (0, 0) w.heap.size 2 rfl rfl (by decide)).alloc (.cells #[.int .i64 0, .int .i64 1, .int .i64 5, .int .i64 1, .int .i64 0, .int .i64 6, .int .i64 1, .int .i64 1, .int .i64 7] 41)).alloc (.cells #[.int .i64 0, .int .i64 1] 43)
  have r2 := (Rd.litN (w := World.alloc w (.cells #[.int .i64 0, .int .i64 0, .int .i64 1, .int .i64 0] 70)) 41 3 [.int .i64 0, .int .i64 1, .int .i64 5, .int .i64 1, .int .i64 0, .int .i64 6, .int .i64 1, .int .i64 1, .int .i64 7] (0, 0) (w.heap.size + 1) 3 (by simp) rfl (by decide)).alloc (.cells #[.int .i64 0, .int .i64 1] 43)
  have r3 := Rd.litN (w := World.alloc (World.alloc w (.cells #[.int .i64 0, .int .i64 0, .int .i64 1, .int .i64 0] 70)) (.cells #[.int .i64 0, .int .i64 1, .int .i64 5, .int .i64 1, .int .i64 0, .int .i64 6, .int .i64 1, .int .i64 1, .int .i64 7] 41)) 43 2 [.int .i64 0, .int .i64 1] (0, 0) (w.heap.size + 1 + 1) 1 (by simp) rfl (by decide)
  refine (new_ok aG7 aG7_may _ _ 2 2 _ 3 3 _ 1 1 ⟨rfl, rfl, rfl, r1, r2, r3⟩).mono ?_
  rintro e w1 ⟨p, B, C, rfl, hgo, hm⟩
  replace HS := Lib.hid (HS.out.step ((((Mod.refl (fun _ => False) _).thenAlloc _).thenAlloc _).thenAlloc _ |>.of2 hm))
  replace HS := Lib.hid ((Ev.go hgo).and HS.out)
  clear r1 r2 r3 hm hgo
  go_wp2_with fail
  refine (tnew_any p B C aG7 _ ((HS.out.now).1)).mono ?_
  rintro e wq1 ⟨t, rfl, _, hto, hmm⟩
  replace HS := Lib.hid (HS.out.step hmm)
  clear hmm
  replace HS := Lib.hid ((Ev.to hto).and HS.out)
  clear hto
  go_wp2_with fail
  refine (next_as t p B C aG7 _ ((HS.out.now).1) 0 [2] 1 a7n0 rfl).mono ?_
  rintro e wq2 ⟨ax, cx, rfl, hx', hmm⟩
  replace HS := Lib.hid (HS.out.step hmm)
  clear hmm
  have HX := Lib.hid hx'
  clear hx'
  go_wp2_with fail
  refine (ints_same _ ax 1 cx [2] rfl (HX.out.alloc _) _ 1 1 [2] rfl (Rd.lit 3 [.int .i64 2] (0, 0) _ 1 rfl rfl (by decide)) (by omega) true (by decide)).mono ?_
  rintro e wq3 ⟨rfl, hm⟩
  replace HS := Lib.hid (HS.out.step ((Mod.alloc (fun _ => False) _ _).of2 hm))
  clear hm HX
  go_wp2_with fail
  refine (prev_as t p B C aG7 _ ((HS.out.now).1) 0 [1] 1 a7p0 rfl).mono ?_
  rintro e wq4 ⟨ax, cx, rfl, hx', hmm⟩
  replace HS := Lib.hid (HS.out.step hmm)
  clear hmm
  have HX := Lib.hid hx'
  clear hx'
  go_wp2_with fail
  refine (ints_same _ ax 1 cx [1] rfl (HX.out.alloc _) _ 1 1 [1] rfl (Rd.lit 3 [.int .i64 1] (0, 0) _ 1 rfl rfl (by decide)) (by omega) true (by decide)).mono ?_
  rintro e wq5 ⟨rfl, hm⟩
  replace HS := Lib.hid (HS.out.step ((Mod.alloc (fun _ => False) _ _).of2 hm))
  clear hm HX
  go_wp2_with fail
  refine (next_as t p B C aG7 _ ((HS.out.now).1) 2 [1, 2] 2 a7n2 rfl).mono ?_
  rintro e wq6 ⟨ax, cx, rfl, hx', hmm⟩
  replace HS := Lib.hid (HS.out.step hmm)
  clear hmm
  have HX := Lib.hid hx'
  clear hx'
  go_wp2_with fail
  refine (ints_same _ ax 2 cx [1, 2] rfl (HX.out.alloc _) _ 2 2 [1, 2] rfl (Rd.lit 3 [.int .i64 1, .int .i64 2] (0, 0) _ 2 rfl rfl (by decide)) (by omega) true (by decide)).mono ?_
  rintro e wq7 ⟨rfl, hm⟩
  replace HS := Lib.hid (HS.out.step ((Mod.alloc (fun _ => False) _ _).of2 hm))
  clear hm HX
  go_wp2_with fail
  refine (may_any t p B C aG7 _ ((HS.out.now).1) 0 1).mono ?_
  rintro e wq8 ⟨rfl, hmm⟩
  replace HS := Lib.hid (HS.out.step hmm)
  clear hmm
  rw [a7m1]
  go_wp2_with fail
  refine (may_any t p B C aG7 _ ((HS.out.now).1) 2 2).mono ?_
  rintro e wq9 ⟨rfl, hmm⟩
  replace HS := Lib.hid (HS.out.step hmm)
  clear hmm
  rw [a7m2]
  go_wp2_with fail
  refine (may_any t p B C aG7 _ ((HS.out.now).1) 0 9).mono ?_
  rintro e wq10 ⟨rfl, hmm⟩
  replace HS := Lib.hid (HS.out.step hmm)
  clear hmm
  rw [a7m3]
  have qt := ((HS.out.now).1).blk.cell 0 rfl
  go_wp2_with fail
  refine (edges_any p B C _ aG7 ((HS.out.now).1).go).mono ?_
  rintro e w' ⟨rfl, rfl⟩
  clear qt
  rw [show ((aG7.E.length : Nat) : Int) = 3 from rfl]
  go_wp2_with fail
  refine (tnew_nil _).mono ?_
  rintro e w' ⟨rfl, rfl⟩
  go_wp2_with fail
  refine (next_nil _ 0).mono ?_
  rintro e wq11 ⟨rfl, hmm⟩
  replace HS := Lib.hid (HS.out.step hmm)
  clear hmm
  go_wp2_with fail
  refine (may_nil _ 0 0).mono ?_
  rintro e wq12 ⟨rfl, hmm⟩
  replace HS := Lib.hid (HS.out.step hmm)
  clear hmm
  go_wp2_with fail
  go_ret
  exact ⟨rfl, (HS.out.now).2.2⟩
end Go.Proofs.Ytagmnkobigecnaa
