/- The law's own look at what the document fixes (milepostlaw5.awake). -/
import Derived.Test.YtnibokikmckfiaaNew
import Derived.Test.YtnibokikmckfiaaGr8b
import Derived.Test.YtnibokikmckfiaaBan
import Derived.Test.YtnibokikmckfiaaFew5
import Derived.Test.YtnibokikmckfiaaInts
namespace Go.Proofs.Ytnibokikmckfiaa
open Go.RowKit Mile

def aG : GD := ⟨[(1, 2), (0, 0)], [(0, 1, 5), (1, 0, 6)], [(0, 1)]⟩
theorem aG_may : May aG := by
  refine ⟨⟨⟨by decide, by decide⟩, by decide, by decide⟩, ?_, ?_, ?_⟩
  · intro x hx; simp [aG] at hx; rcases hx with rfl | rfl <;> simp [NodeOk]
  · intro x hx; simp [aG] at hx; rcases hx with rfl | rfl <;> simp [EdgeOk, aG]
  · intro i hi
    obtain rfl : i = 0 := by simp [aG] at hi; omega
    exact ⟨by simp [BanOk, aG, eAt], fun h => by omega⟩
theorem bG_not : ¬ May ⟨[], [], []⟩ := fun h => by have := h.1.1.1; simp at this
theorem cG_not : ¬ May ⟨[(0, 0)], [(0, 0, 0)], []⟩ := fun h => by have := (h.2.2.1 (0, 0, 0) (by simp)).2.2; simp at this

set_option maxHeartbeats 16000000 in
set_option maxRecDepth 100000 in
theorem awake_any (w : World) : Calls Try.prog 9 #[] w fun e w' => e = .returned (.bool true) ∧ Mod (fun _ => False) w w' := by
  go_enter Try.func9, Try.ntmps9
  go_wp2_with fail
  have hM0 : Mod (fun _ => False) w (((w.alloc (.cells #[.int .i64 1, .int .i64 2, .int .i64 0, .int .i64 0] 37)).alloc (.cells #[.int .i64 0, .int .i64 1, .int .i64 5, .int .i64 1, .int .i64 0, .int .i64 6] 41)).alloc (.cells #[.int .i64 0, .int .i64 1] 48)) := (((Mod.refl _ w).thenAlloc _).thenAlloc _).thenAlloc _
  have r1 := ((Rd.litN (w := w) 37 2 [.int .i64 1, .int .i64 2, .int .i64 0, .int .i64 0] (0, 0) w.heap.size 2 rfl rfl (by decide)).alloc (.cells #[.int .i64 0, .int .i64 1, .int .i64 5, .int .i64 1, .int .i64 0, .int .i64 6] 41)).alloc (.cells #[.int .i64 0, .int .i64 1] 48)
  have r2 := (Rd.litN (w := w.alloc (.cells #[.int .i64 1, .int .i64 2, .int .i64 0, .int .i64 0] 37)) 41 3 [.int .i64 0, .int .i64 1, .int .i64 5, .int .i64 1, .int .i64 0, .int .i64 6] (0, 0) (w.heap.size + 1) 2 (by simp) rfl (by decide)).alloc (.cells #[.int .i64 0, .int .i64 1] 48)
  have r3 := Rd.litN (w := (w.alloc (.cells #[.int .i64 1, .int .i64 2, .int .i64 0, .int .i64 0] 37)).alloc (.cells #[.int .i64 0, .int .i64 1, .int .i64 5, .int .i64 1, .int .i64 0, .int .i64 6] 41)) 48 2 [.int .i64 0, .int .i64 1] (0, 0) (w.heap.size + 1 + 1) 1 (by simp) rfl (by decide)
  refine (new_any aG _ _ 2 2 _ 2 2 _ 1 1 ⟨rfl, rfl, rfl, r1, r2, r3⟩).mono ?_
  rintro e w1 (⟨_, p, rfl, hG, hm⟩ | ⟨hno, _⟩)
  case inr => exact absurd aG_may hno
  have hM1 := hM0.trans hm (H := fun _ => False) (fun _ _ e => e) (fun _ _ e => e)
  clear r1 r2 r3 hm hM0
  obtain ⟨B, C, hG⟩ : ∃ B C, GO w1 p B C aG := ⟨_, _, hG⟩
  have HGO : Hid (∀ W, Mod (fun _ => False) w1 W → GO W p B C aG) := Lib.hid fun W h => hG.keep h (fun _ _ _ e => e)
  have HM1 := Lib.hid hM1
  clear hG hM1
  go_wp2_with fail
  refine (new_any ⟨[], [], []⟩ w1 none 0 0 none 0 0 none 0 0 ⟨rfl, rfl, rfl, Rd.nil _ _, Rd.nil _ _, Rd.nil _ _⟩).mono ?_
  rintro e w2 (⟨hno, _⟩ | ⟨_, rfl, hm⟩)
  case inl => exact absurd hno bG_not
  have HM2 := Lib.hid hm
  clear hm
  go_wp2_with fail
  have r1 := (Rd.litN (w := w2) 37 2 [.int .i64 0, .int .i64 0] (0, 0) w2.heap.size 1 rfl rfl (by decide)).alloc (.cells #[.int .i64 0, .int .i64 0, .int .i64 0] 41)
  have r2 := Rd.litN (w := w2.alloc (.cells #[.int .i64 0, .int .i64 0] 37)) 41 3 [.int .i64 0, .int .i64 0, .int .i64 0] (0, 0) (w2.heap.size + 1) 1 (by simp) rfl (by decide)
  refine (new_any ⟨[(0, 0)], [(0, 0, 0)], []⟩ _ _ 1 1 _ 1 1 none 0 0 ⟨rfl, rfl, rfl, r1, r2, Rd.nil _ _⟩).mono ?_
  rintro e w3 (⟨hno, _⟩ | ⟨_, rfl, hm⟩)
  case inl => exact absurd hno cG_not
  have HM3 : Hid (Mod (fun _ => False) w1 w3) := Lib.hid (((HM2.out.thenAlloc _).thenAlloc _).trans hm (fun _ _ e => e) (fun _ _ e => e))
  clear hm r1 r2 HM2
  go_wp2_with fail
  refine (node_any p B C w3 aG (HGO.out _ HM3.out) 0).mono ?_
  rintro e w4 ⟨rfl, hm⟩
  have HM4 : Hid (Mod (fun _ => False) w1 w4) := Lib.hid (HM3.out.trans hm (fun _ _ e => e) (fun _ _ e => e))
  clear hm HM3
  rw [show (if (0 : Int) ≤ 0 ∧ (0 : Int) < (aG.N.length : Int) then nAt aG 0 else (0, 0)) = (1, 2) by decide, show decide ((0 : Int) ≤ 0 ∧ (0 : Int) < (aG.N.length : Int)) = true by decide]
  go_wp2_with fail
  obtain ⟨nb, hnb⟩ : ∃ nb, w4.heap.size = nb := ⟨_, rfl⟩
  have hB1 := Blk.new w4 37 [.int .i64 1, .int .i64 2]
  rw [hnb] at hB1
  obtain ⟨W5, hW5⟩ : ∃ W, w4.alloc (.cells #[.int .i64 1, .int .i64 2] 37) = W := ⟨_, rfl⟩
  have HM5 : Hid (Mod (fun _ => False) w1 W5) := Lib.hid (by rw [← hW5]; exact HM4.out.thenAlloc _)
  have hB1' : Blk W5 nb 37 [.int .i64 1, .int .i64 2] := by rw [← hW5]; exact hB1
  have HNB : Hid (∀ W, Mod (fun _ => False) W5 W → Blk W nb 37 [.int .i64 1, .int .i64 2]) := Lib.hid fun W h => hB1'.keep h (fun e => e)
  rw [hW5, hnb]
  clear hB1 hB1' hW5 hnb HM4
  refine (edge_any p B C W5 aG (HGO.out _ HM5.out) 1).mono ?_
  rintro e w6 ⟨rfl, hm⟩
  have HM6 : Hid (Mod (fun _ => False) w1 w6) := Lib.hid (HM5.out.trans hm (fun _ _ e => e) (fun _ _ e => e))
  have HM56 := Lib.hid hm
  clear hm
  rw [show (if (0 : Int) ≤ 1 ∧ (1 : Int) < (aG.E.length : Int) then eAt aG 1 else (0, 0, 0)) = (1, 0, 6) by decide, show decide ((0 : Int) ≤ 1 ∧ (1 : Int) < (aG.E.length : Int)) = true by decide]
  go_wp2_with fail
  obtain ⟨xb, hxb⟩ : ∃ xb, w6.heap.size = xb := ⟨_, rfl⟩
  have hB1 := Blk.new w6 41 [.int .i64 1, .int .i64 0, .int .i64 6]
  rw [hxb] at hB1
  obtain ⟨W7, hW7⟩ : ∃ W, w6.alloc (.cells #[.int .i64 1, .int .i64 0, .int .i64 6] 41) = W := ⟨_, rfl⟩
  have HM7 : Hid (Mod (fun _ => False) w1 W7) := Lib.hid (by rw [← hW7]; exact HM6.out.thenAlloc _)
  have HM57 : Hid (Mod (fun _ => False) W5 W7) := Lib.hid (by rw [← hW7]; exact HM56.out.thenAlloc _)
  have hB1' : Blk W7 xb 41 [.int .i64 1, .int .i64 0, .int .i64 6] := by rw [← hW7]; exact hB1
  have HXB : Hid (∀ W, Mod (fun _ => False) W7 W → Blk W xb 41 [.int .i64 1, .int .i64 0, .int .i64 6]) := Lib.hid fun W h => hB1'.keep h (fun e => e)
  rw [hW7, hxb]
  clear hB1 hB1' hW7 hxb HM6 HM56
  refine (edge_any p B C W7 aG (HGO.out _ HM7.out) 2).mono ?_
  rintro e w8 ⟨rfl, hm⟩
  have HM8 : Hid (Mod (fun _ => False) W7 w8) := Lib.hid hm
  clear hm
  rw [show (if (0 : Int) ≤ 2 ∧ (2 : Int) < (aG.E.length : Int) then eAt aG 2 else (0, 0, 0)) = (0, 0, 0) by decide, show decide ((0 : Int) ≤ 2 ∧ (2 : Int) < (aG.E.length : Int)) = false by decide]
  go_wp2_with fail
  obtain ⟨W9, hW9⟩ : ∃ W, w8.alloc (.cells #[.int .i64 0, .int .i64 0, .int .i64 0] 41) = W := ⟨_, rfl⟩
  have HM9 : Hid (Mod (fun _ => False) W7 W9) := Lib.hid (by rw [← hW9]; exact HM8.out.thenAlloc _)
  rw [hW9]
  clear hW9 HM8
  have HM19 : Hid (Mod (fun _ => False) w1 W9) := Lib.hid (HM7.out.trans HM9.out (fun _ _ e => e) (fun _ _ e => e))
  have hG9 := HGO.out _ HM19.out
  have k1 := (HNB.out W9 (HM57.out.trans HM9.out (fun _ _ e => e) (fun _ _ e => e))).cell 1 rfl
  have k2 := (HXB.out W9 HM9.out).cell 2 rfl
  refine (nodes_any p B C W9 aG hG9).mono ?_
  rintro e w10 ⟨rfl, rfl⟩
  rw [show ((aG.N.length : Nat) : Int) = 2 by decide]
  go_wp2_with fail
  refine (edges_any p B C W9 aG hG9).mono ?_
  rintro e w10 ⟨rfl, rfl⟩
  rw [show ((aG.E.length : Nat) : Int) = 2 by decide]
  clear hG9
  go_wp2_with fail
  refine (banned_any p B C W9 aG (HGO.out _ HM19.out) 0 1).mono ?_
  rintro e w11 ⟨rfl, hm⟩
  have HM11 : Hid (Mod (fun _ => False) w1 w11) := Lib.hid (HM19.out.trans hm (fun _ _ e => e) (fun _ _ e => e))
  rw [show decide (((0 : Int), (1 : Int)) ∈ aG.B) = true by decide]
  clear hm k1 k2 HM9 HNB HXB HM57
  go_wp2_with fail
  refine (banned_any p B C w11 aG (HGO.out _ HM11.out) 1 0).mono ?_
  rintro e w12 ⟨rfl, hm⟩
  have HM12 : Hid (Mod (fun _ => False) w1 w12) := Lib.hid (HM11.out.trans hm (fun _ _ e => e) (fun _ _ e => e))
  rw [show decide (((1 : Int), (0 : Int)) ∈ aG.B) = false by decide]
  clear hm HM11
  go_wp2_with fail
  refine (out_any p B C w12 aG (HGO.out _ HM12.out) 1).mono ?_
  rintro e w13 ⟨oa, oc, rfl, ho, hm⟩
  have HM13 : Hid (Mod (fun _ => False) w1 w13) := Lib.hid (HM12.out.trans hm (fun _ _ e => e) (fun _ _ e => e))
  rw [show (if (0 : Int) ≤ 1 ∧ (1 : Int) < (aG.N.length : Int) then (idx (aG.E.map (·.1)) 1).length else 0) = 1 by decide] at ho ⊢
  rw [show (if (0 : Int) ≤ 1 ∧ (1 : Int) < (aG.N.length : Int) then idx (aG.E.map (·.1)) 1 else []) = [1] by decide] at ho
  have HO := Lib.hid (Rd.ofOwn ho)
  clear hm HM12 ho
  go_wp2_with fail
  have hlit := Rd.lit (w := w13) 3 [.int .i64 1] (0, 0) w13.heap.size 1 rfl rfl (by decide)
  refine (ints_any _ oa 1 oc [1] rfl (HO.out.alloc _) _ 1 1 [1] rfl hlit (by decide)).mono ?_
  rintro e w14 ⟨rfl, n14, hw14⟩
  have HM14 : Hid (Mod (fun _ => False) w1 w14) := Lib.hid (by rw [hw14]; exact (HM13.out.thenAlloc _).trans (Mod.drewN (fun _ => False) _ _) (fun _ _ e => e) (fun _ _ e => e))
  rw [show decide (([1] : List Int) = [1]) = true by decide]
  clear hw14 hlit HO HM13
  go_wp2_with fail
  refine (in_any p B C w14 aG (HGO.out _ HM14.out) 1).mono ?_
  rintro e w15 ⟨oa, oc, rfl, ho, hm⟩
  have HM15 : Hid (Mod (fun _ => False) w1 w15) := Lib.hid (HM14.out.trans hm (fun _ _ e => e) (fun _ _ e => e))
  rw [show (if (0 : Int) ≤ 1 ∧ (1 : Int) < (aG.N.length : Int) then (idx (aG.E.map (·.2.1)) 1).length else 0) = 1 by decide] at ho ⊢
  rw [show (if (0 : Int) ≤ 1 ∧ (1 : Int) < (aG.N.length : Int) then idx (aG.E.map (·.2.1)) 1 else []) = [0] by decide] at ho
  have HO := Lib.hid (Rd.ofOwn ho)
  clear hm HM14 ho
  go_wp2_with fail
  have hlit := Rd.lit (w := w15) 3 [.int .i64 0] (0, 0) w15.heap.size 1 rfl rfl (by decide)
  refine (ints_any _ oa 1 oc [0] rfl (HO.out.alloc _) _ 1 1 [0] rfl hlit (by decide)).mono ?_
  rintro e w16 ⟨rfl, n16, hw16⟩
  have HM16 : Hid (Mod (fun _ => False) w1 w16) := Lib.hid (by rw [hw16]; exact (HM15.out.thenAlloc _).trans (Mod.drewN (fun _ => False) _ _) (fun _ _ e => e) (fun _ _ e => e))
  rw [show decide (([0] : List Int) = [0]) = true by decide]
  clear hw16 hlit HO HM15
  go_wp2_with fail
  refine (nodes_nil w16).mono ?_
  rintro e w17 ⟨rfl, rfl⟩
  go_wp2_with fail
  refine (out_nil w16 0).mono ?_
  rintro e w17 ⟨rfl, rfl⟩
  go_wp2_with fail
  go_ret
  exact ⟨rfl, HM1.out.trans HM16.out (fun _ _ e => e) (fun _ _ e => e)⟩
end Go.Proofs.Ytnibokikmckfiaa
