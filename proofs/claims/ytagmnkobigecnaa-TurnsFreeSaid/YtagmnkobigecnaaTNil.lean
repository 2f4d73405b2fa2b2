/- What nil turns tell; Next and Prev as rows that are known. -/
import Derived.Test.YtagmnkobigecnaaTurns2
import Derived.Deep.DeepCutAuto
import Derived.Deep.CutBlock
namespace Go.Proofs.Ytagmnkobigecnaa
open Go.RowKit Mile
set_option maxRecDepth 100000
set_option maxHeartbeats 2000000 in
theorem tedge_nil (w : World) (v : Int) : Calls Try.prog 46 #[.pointer none, .int .i64 v] w fun e w' => e = .returned (.tuple #[.agg #[.int .i64 0, .int .i64 0, .int .i64 0], .bool false]) ∧ Mod (fun _ => False) w w' := by
  go_enter Try.func46, Try.ntmps46
  go_wp2_with fail
  have b2 := Blk.new w 41 [.int .i64 0, .int .i64 0, .int .i64 0]
  (try simp only [Exit.inBlock, Exit.then])
  refine bodyPost_ret (results_row_tmp rfl _ _ w.heap.size 41 #[.int .i64 0, .int .i64 0, .int .i64 0] (0, 0) _ rfl b2 Try.underlying41 rfl (by kernel_rfl)) rfl ?_
  exact ⟨rfl, Mod.alloc _ w _⟩
theorem next_nil (w : World) (v : Int) : Calls Try.prog 16 #[.pointer none, .int .i64 v] w fun e w' => e = .returned (.slice none 0 0) ∧ Mod (fun _ => False) w w' := by
  go_enter Try.func16, Try.ntmps16
  go_wp2_with fail
  refine (tedge_nil _ v).mono ?_
  rintro e w1 ⟨rfl, hm⟩
  have HM := Lib.hid (((Mod.refl (fun _ => False) w).thenAlloc _).thenAlloc _ |>.of2 hm)
  clear hm
  go_wp2_with fail
  go_ret
  exact ⟨rfl, HM.out.thenAlloc _⟩
theorem may_nil (w : World) (va vb : Int) : Calls Try.prog 37 #[.pointer none, .int .i64 va, .int .i64 vb] w fun e w' => e = .returned (.bool false) ∧ Mod (fun _ => False) w w' := by
  go_enter Try.func37, Try.ntmps37
  go_wp2_with fail
  refine (tedge_nil _ va).mono ?_
  rintro e w1 ⟨rfl, hm⟩
  have HM := Lib.hid hm
  clear hm
  go_wp2_with fail
  refine (tedge_nil _ vb).mono ?_
  rintro e w2 ⟨rfl, hm⟩
  have HM2 := Lib.hid ((HM.out.thenAlloc _).of2 hm)
  clear hm
  go_wp2_with fail
  go_ret
  exact ⟨rfl, HM2.out.thenAlloc _⟩
theorem next_as (t p B C : Nat) (G : GD) (w : World) (h : TO w t p B C G) (ed : Int) (xs : List Int) (n : Nat) (hx : nxtR G ed = xs) (hn : xs.length = n) :
    Calls Try.prog 16 #[.pointer (some ⟨t, 0, none⟩), .int .i64 ed] w fun e w' => ∃ a c, e = .returned (.slice a n c) ∧ Rd w' 1 (.slice a n c) n (xs.map (Value.int .i64)) ∧ Mod (fun _ => False) w w' :=
  (next_any t p B C G w h ed).mono fun _ _ ⟨_, he, ⟨a, c, hv, hr⟩, hm⟩ => by
    subst hx hn hv; exact ⟨a, c, he, hr, hm⟩
theorem prev_as (t p B C : Nat) (G : GD) (w : World) (h : TO w t p B C G) (ed : Int) (xs : List Int) (n : Nat) (hx : prvR G ed = xs) (hn : xs.length = n) :
    Calls Try.prog 36 #[.pointer (some ⟨t, 0, none⟩), .int .i64 ed] w fun e w' => ∃ a c, e = .returned (.slice a n c) ∧ Rd w' 1 (.slice a n c) n (xs.map (Value.int .i64)) ∧ Mod (fun _ => False) w w' :=
  (prev_any t p B C G w h ed).mono fun _ _ ⟨_, he, ⟨a, c, hv, hr⟩, hm⟩ => by
    subst hx hn hv; exact ⟨a, c, he, hr, hm⟩
end Go.Proofs.Ytagmnkobigecnaa
