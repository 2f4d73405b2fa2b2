/- turns.May by contract; milepostref4's Turn, Next, Prev by contract. -/
import Derived.Test.YtagmnkobigecnaaTurns
import Derived.Test.YtagmnkobigecnaaR4
import Derived.Deep.DeepCutAuto
import Derived.Deep.CutBlock
import Derived.Test.YtagmnkobigecnaaWalkP
import Derived.Test.YtagmnkobigecnaaIRow
import Derived.Test.YtagmnkobigecnaaRegion2
namespace Go.Proofs.Ytagmnkobigecnaa
open Go.RowKit Mile
set_option maxRecDepth 100000

set_option maxHeartbeats 8000000 in
theorem may_any (t p B C : Nat) (G : GD) (w : World) (h : TO w t p B C G) (va vb : Int) :
    Calls Try.prog 37 #[.pointer (some ⟨t, 0, none⟩), .int .i64 va, .int .i64 vb] w fun e w' => e = .returned (.bool (turnB G va vb)) ∧ Mod (fun _ => False) w w' := by
  have HS : Hid (Ev (Mod (fun _ => False) w) w) := Lib.hid (Ev.mod w)
  replace HS := Lib.hid ((Ev.to h).and HS.out)
  by_cases hA : 0 ≤ va ∧ va < (G.E.length : Int)
  case neg =>
    rw [turnB_no1 G va vb hA]
    have HA := Lib.hid hA
    clear hA
    obtain ⟨xa, hxa⟩ : ∃ x, (eAt G va).1 = x := ⟨_, rfl⟩
    have Hxa := Lib.hid hxa
    obtain ⟨ya, hya⟩ : ∃ x, (eAt G va).2.1 = x := ⟨_, rfl⟩
    have Hya := Lib.hid hya
    obtain ⟨za, hza⟩ : ∃ x, (eAt G va).2.2 = x := ⟨_, rfl⟩
    have Hza := Lib.hid hza
    obtain ⟨xb, hxb⟩ : ∃ x, (eAt G vb).1 = x := ⟨_, rfl⟩
    have Hxb := Lib.hid hxb
    obtain ⟨yb, hyb⟩ : ∃ x, (eAt G vb).2.1 = x := ⟨_, rfl⟩
    have Hyb := Lib.hid hyb
    obtain ⟨zb, hzb⟩ : ∃ x, (eAt G vb).2.2 = x := ⟨_, rfl⟩
    have Hzb := Lib.hid hzb
    clear hxa hya hza hxb hyb hzb
    go_enter Try.func37, Try.ntmps37
    go_wp2_with fail
    refine (tedge_any t p B C G _ ((HS.out.now).1) va).mono ?_
    rintro e wq1 ⟨rfl, hmm⟩
    replace HS := Lib.hid (HS.out.step hmm)
    clear hmm
    rw [if_neg HA.out, decide_eq_false HA.out]
    go_wp2_with fail
    obtain ⟨b7, hb7⟩ : ∃ b, wq1.heap.size = b := ⟨_, rfl⟩
    obtain ⟨wq2, hwq2⟩ : ∃ W, World.alloc wq1 (.cells #[.int .i64 0, .int .i64 0, .int .i64 0] 41) = W := ⟨_, rfl⟩
    have hBb7 : Blk wq2 b7 41 [.int .i64 0, .int .i64 0, .int .i64 0] := by rw [← hwq2, ← hb7]; exact Blk.new _ 41 [.int .i64 0, .int .i64 0, .int .i64 0]
    have hzb7 : wq2.heap.size = b7 + 1 := by rw [← hwq2, ← hb7]; exact heap_size_alloc _ _
    replace HS := Lib.hid (HS.out.step (w' := wq2) (by rw [← hwq2]; exact Mod.alloc _ _ _))
    replace HS := Lib.hid ((Ev.blk hBb7).and HS.out)
    try rw [hwq2]
    try rw [hb7]
    clear hzb7 hBb7 hb7 hwq2
    refine (tedge_any t p B C G _ ((HS.out.now).2.1) vb).mono ?_
    rintro e wq3 ⟨rfl, hmm⟩
    replace HS := Lib.hid (HS.out.step hmm)
    clear hmm
    obtain ⟨ok, hok⟩ : ∃ b, decide (0 ≤ vb ∧ vb < (G.E.length : Int)) = b := ⟨_, rfl⟩
    rw [hok]
    clear hok
    cases ok
    all_goals
      go_wp2_with fail
      all_goals
        go_ret
        exact ⟨rfl, ((HS.out.now).2.2).thenAlloc _⟩
  by_cases hB : 0 ≤ vb ∧ vb < (G.E.length : Int)
  case neg =>
    rw [turnB_no2 G va vb hB]
    have HA := Lib.hid hA
    have HB := Lib.hid hB
    clear hA hB
    obtain ⟨xa, hxa⟩ : ∃ x, (eAt G va).1 = x := ⟨_, rfl⟩
    have Hxa := Lib.hid hxa
    obtain ⟨ya, hya⟩ : ∃ x, (eAt G va).2.1 = x := ⟨_, rfl⟩
    have Hya := Lib.hid hya
    obtain ⟨za, hza⟩ : ∃ x, (eAt G va).2.2 = x := ⟨_, rfl⟩
    have Hza := Lib.hid hza
    obtain ⟨xb, hxb⟩ : ∃ x, (eAt G vb).1 = x := ⟨_, rfl⟩
    have Hxb := Lib.hid hxb
    obtain ⟨yb, hyb⟩ : ∃ x, (eAt G vb).2.1 = x := ⟨_, rfl⟩
    have Hyb := Lib.hid hyb
    obtain ⟨zb, hzb⟩ : ∃ x, (eAt G vb).2.2 = x := ⟨_, rfl⟩
    have Hzb := Lib.hid hzb
    clear hxa hya hza hxb hyb hzb
    go_enter Try.func37, Try.ntmps37
    go_wp2_with fail
    refine (tedge_any t p B C G _ ((HS.out.now).1) va).mono ?_
    rintro e wq4 ⟨rfl, hmm⟩
    replace HS := Lib.hid (HS.out.step hmm)
    clear hmm
    rw [if_pos HA.out, decide_eq_true HA.out, Hxa.out, Hya.out, Hza.out]
    go_wp2_with fail
    obtain ⟨b7, hb7⟩ : ∃ b, wq4.heap.size = b := ⟨_, rfl⟩
    obtain ⟨wq5, hwq5⟩ : ∃ W, World.alloc wq4 (.cells #[.int .i64 xa, .int .i64 ya, .int .i64 za] 41) = W := ⟨_, rfl⟩
    have hBb7 : Blk wq5 b7 41 [.int .i64 xa, .int .i64 ya, .int .i64 za] := by rw [← hwq5, ← hb7]; exact Blk.new _ 41 [.int .i64 xa, .int .i64 ya, .int .i64 za]
    have hzb7 : wq5.heap.size = b7 + 1 := by rw [← hwq5, ← hb7]; exact heap_size_alloc _ _
    replace HS := Lib.hid (HS.out.step (w' := wq5) (by rw [← hwq5]; exact Mod.alloc _ _ _))
    replace HS := Lib.hid ((Ev.blk hBb7).and HS.out)
    try rw [hwq5]
    try rw [hb7]
    clear hzb7 hBb7 hb7 hwq5
    refine (tedge_any t p B C G _ ((HS.out.now).2.1) vb).mono ?_
    rintro e wq6 ⟨rfl, hmm⟩
    replace HS := Lib.hid (HS.out.step hmm)
    clear hmm
    rw [if_neg HB.out, decide_eq_false HB.out]
    go_wp2_with fail
    go_ret
    exact ⟨rfl, ((HS.out.now).2.2).thenAlloc _⟩
  by_cases hE : (eAt G va).2.1 = (eAt G vb).1
  case neg =>
    rw [show turnB G va vb = false from decide_eq_false fun h => hE h.2.2.1]
    have HA := Lib.hid hA
    have HB := Lib.hid hB
    have HE := Lib.hid hE
    clear hA hB hE
    obtain ⟨xa, hxa⟩ : ∃ x, (eAt G va).1 = x := ⟨_, rfl⟩
    have Hxa := Lib.hid hxa
    obtain ⟨ya, hya⟩ : ∃ x, (eAt G va).2.1 = x := ⟨_, rfl⟩
    have Hya := Lib.hid hya
    obtain ⟨za, hza⟩ : ∃ x, (eAt G va).2.2 = x := ⟨_, rfl⟩
    have Hza := Lib.hid hza
    obtain ⟨xb, hxb⟩ : ∃ x, (eAt G vb).1 = x := ⟨_, rfl⟩
    have Hxb := Lib.hid hxb
    obtain ⟨yb, hyb⟩ : ∃ x, (eAt G vb).2.1 = x := ⟨_, rfl⟩
    have Hyb := Lib.hid hyb
    obtain ⟨zb, hzb⟩ : ∃ x, (eAt G vb).2.2 = x := ⟨_, rfl⟩
    have Hzb := Lib.hid hzb
    clear hxa hya hza hxb hyb hzb
    go_enter Try.func37, Try.ntmps37
    go_wp2_with fail
    refine (tedge_any t p B C G _ ((HS.out.now).1) va).mono ?_
    rintro e wq7 ⟨rfl, hmm⟩
    replace HS := Lib.hid (HS.out.step hmm)
    clear hmm
    rw [if_pos HA.out, decide_eq_true HA.out, Hxa.out, Hya.out, Hza.out]
    go_wp2_with fail
    obtain ⟨b7, hb7⟩ : ∃ b, wq7.heap.size = b := ⟨_, rfl⟩
    obtain ⟨wq8, hwq8⟩ : ∃ W, World.alloc wq7 (.cells #[.int .i64 xa, .int .i64 ya, .int .i64 za] 41) = W := ⟨_, rfl⟩
    have hBb7 : Blk wq8 b7 41 [.int .i64 xa, .int .i64 ya, .int .i64 za] := by rw [← hwq8, ← hb7]; exact Blk.new _ 41 [.int .i64 xa, .int .i64 ya, .int .i64 za]
    have hzb7 : wq8.heap.size = b7 + 1 := by rw [← hwq8, ← hb7]; exact heap_size_alloc _ _
    replace HS := Lib.hid (HS.out.step (w' := wq8) (by rw [← hwq8]; exact Mod.alloc _ _ _))
    replace HS := Lib.hid ((Ev.blk hBb7).and HS.out)
    try rw [hwq8]
    try rw [hb7]
    clear hzb7 hBb7 hb7 hwq8
    refine (tedge_any t p B C G _ ((HS.out.now).2.1) vb).mono ?_
    rintro e wq9 ⟨rfl, hmm⟩
    replace HS := Lib.hid (HS.out.step hmm)
    clear hmm
    rw [if_pos HB.out, decide_eq_true HB.out, Hxb.out, Hyb.out, Hzb.out]
    have hbb7 := (HS.out.now).1
    have qb7_0 := hbb7.cell 0 rfl
    have qb7_1 := hbb7.cell 1 rfl
    have qb7_2 := hbb7.cell 2 rfl
    have lb7 := hbb7.lt
    clear hbb7
    have zE : (ya == xb) = false := by have h := HE.out; rw [Hya.out, Hxb.out] at h; simpa using h
    go_wp2_with fail
    go_ret
    exact ⟨rfl, ((HS.out.now).2.2).thenAlloc _⟩
  obtain ⟨bb, hbb⟩ : ∃ b, decide ((va, vb) ∈ G.B) = b := ⟨_, rfl⟩
  rw [show turnB G va vb = !bb from by rw [← hbb]; unfold turnB; by_cases h : (va, vb) ∈ G.B <;> simp [h, hA, hB, hE]]
  have HBB := Lib.hid hbb
  have HA := Lib.hid hA
  have HB := Lib.hid hB
  have HE := Lib.hid hE
  clear hA hB hE hbb
  obtain ⟨xa, hxa⟩ : ∃ x, (eAt G va).1 = x := ⟨_, rfl⟩
  have Hxa := Lib.hid hxa
  obtain ⟨ya, hya⟩ : ∃ x, (eAt G va).2.1 = x := ⟨_, rfl⟩
  have Hya := Lib.hid hya
  obtain ⟨za, hza⟩ : ∃ x, (eAt G va).2.2 = x := ⟨_, rfl⟩
  have Hza := Lib.hid hza
  obtain ⟨xb, hxb⟩ : ∃ x, (eAt G vb).1 = x := ⟨_, rfl⟩
  have Hxb := Lib.hid hxb
  obtain ⟨yb, hyb⟩ : ∃ x, (eAt G vb).2.1 = x := ⟨_, rfl⟩
  have Hyb := Lib.hid hyb
  obtain ⟨zb, hzb⟩ : ∃ x, (eAt G vb).2.2 = x := ⟨_, rfl⟩
  have Hzb := Lib.hid hzb
  clear hxa hya hza hxb hyb hzb
  go_enter Try.func37, Try.ntmps37
  go_wp2_with fail
  refine (tedge_any t p B C G _ ((HS.out.now).1) va).mono ?_
  rintro e wq10 ⟨rfl, hmm⟩
  replace HS := Lib.hid (HS.out.step hmm)
  clear hmm
  rw [if_pos HA.out, decide_eq_true HA.out, Hxa.out, Hya.out, Hza.out]
  go_wp2_with fail
  obtain ⟨b7, hb7⟩ : ∃ b, wq10.heap.size = b := ⟨_, rfl⟩
  obtain ⟨wq11, hwq11⟩ : ∃ W, World.alloc wq10 (.cells #[.int .i64 xa, .int .i64 ya, .int .i64 za] 41) = W := ⟨_, rfl⟩
  have hBb7 : Blk wq11 b7 41 [.int .i64 xa, .int .i64 ya, .int .i64 za] := by rw [← hwq11, ← hb7]; exact Blk.new _ 41 [.int .i64 xa, .int .i64 ya, .int .i64 za]
  have hzb7 : wq11.heap.size = b7 + 1 := by rw [← hwq11, ← hb7]; exact heap_size_alloc _ _
  replace HS := Lib.hid (HS.out.step (w' := wq11) (by rw [← hwq11]; exact Mod.alloc _ _ _))
  replace HS := Lib.hid ((Ev.blk hBb7).and HS.out)
  try rw [hwq11]
  try rw [hb7]
  clear hzb7 hBb7 hb7 hwq11
  refine (tedge_any t p B C G _ ((HS.out.now).2.1) vb).mono ?_
  rintro e wq12 ⟨rfl, hmm⟩
  replace HS := Lib.hid (HS.out.step hmm)
  clear hmm
  rw [if_pos HB.out, decide_eq_true HB.out, Hxb.out, Hyb.out, Hzb.out]
  have hbb7 := (HS.out.now).1
  have qb7_0 := hbb7.cell 0 rfl
  have qb7_1 := hbb7.cell 1 rfl
  have qb7_2 := hbb7.cell 2 rfl
  have lb7 := hbb7.lt
  clear hbb7
  have zE : (ya == xb) = true := by have h := HE.out; rw [Hya.out, Hxb.out] at h; simpa using h
  go_upto_region 3 with fail
  clear qb7_0 qb7_1 qb7_2 lb7
  obtain ⟨b9, hb9⟩ : ∃ b, wq12.heap.size = b := ⟨_, rfl⟩
  obtain ⟨wq13, hwq13⟩ : ∃ W, World.alloc wq12 (.cells #[.int .i64 xb, .int .i64 yb, .int .i64 zb] 41) = W := ⟨_, rfl⟩
  have hBb9 : Blk wq13 b9 41 [.int .i64 xb, .int .i64 yb, .int .i64 zb] := by rw [← hwq13, ← hb9]; exact Blk.new _ 41 [.int .i64 xb, .int .i64 yb, .int .i64 zb]
  have hzb9 : wq13.heap.size = b9 + 1 := by rw [← hwq13, ← hb9]; exact heap_size_alloc _ _
  replace HS := Lib.hid (HS.out.step (w' := wq13) (by rw [← hwq13]; exact Mod.alloc _ _ _))
  replace HS := Lib.hid ((Ev.blk hBb9).and HS.out)
  try rw [hwq13]
  try rw [hb9]
  clear hzb9 hBb9 hb9 hwq13
  have hbb7 := (HS.out.now).2.1
  have qb7_0 := hbb7.cell 0 rfl
  have qb7_1 := hbb7.cell 1 rfl
  have qb7_2 := hbb7.cell 2 rfl
  have lb7 := hbb7.lt
  clear hbb7
  have hbb9 := (HS.out.now).1
  have qb9_0 := hbb9.cell 0 rfl
  have qb9_1 := hbb9.cell 1 rfl
  have qb9_2 := hbb9.cell 2 rfl
  have lb9 := hbb9.lt
  clear hbb9
  have qt := ((HS.out.now).2.2.1).blk.cell 0 rfl
  have lt := ((HS.out.now).2.2.1).blk.lt
  go_wp2_with fail
  clear qt lt
  refine (banned_any p B C _ G ((HS.out.now).2.2.1).go va vb).mono ?_
  rintro e wq14 ⟨rfl, hmm⟩
  replace HS := Lib.hid (HS.out.step hmm)
  clear hmm
  rw [HBB.out]
  clear qb7_0 qb7_1 qb7_2 lb7 qb9_0 qb9_1 qb9_2 lb9
  go_wp2_with fail
  go_ret
  exact ⟨rfl, (HS.out.now).2.2.2⟩
end Go.Proofs.Ytagmnkobigecnaa
namespace Go.Proofs.Ytagmnkobigecnaa
open Go.RowKit Mile
set_option maxRecDepth 100000
set_option maxHeartbeats 2000000 in
theorem tedge_nil (w : World) (v : Int) : Calls Try.prog 46 #[.pointer none, .int .i64 v] w fun e w' => e = .returned (.tuple #[.agg #[.int .i64 0, .int .i64 0, .int .i64 0], .bool false]) ∧ Mod (fun _ => False) w w' := by
  go_enter Try.func46, Try.ntmps46
  go_wp2_with fail
  have b2 := Blk.new w 41 [.int .i64 0, .int .i64 0, .int .i64 0]
  (try simp only [Exit.inBlock, Exit.then])
  refine bodyPost_ret (results_row_tmp rfl _ _ w.heap.size 41 #[.int .i64 0, .int .i64 0, .int .i64 0] (0, 0) _ rfl b2 Try.underlying41 rfl (by kernel_rfl)) rfl ?_
  exact ⟨rfl, Mod.alloc _ w _⟩
theorem next_nil (w : World) (v : Int) : Calls Try.prog 16 #[.pointer none, .int .i64 v] w fun e w' => e = .returned (.slice none 0 0) ∧ Mod (fun _ => False) w w' := by
  go_enter Try.func16, Try.ntmps16
  go_wp2_with fail
  refine (tedge_nil _ v).mono ?_
  rintro e w1 ⟨rfl, hm⟩
  have HM := Lib.hid (((Mod.refl (fun _ => False) w).thenAlloc _).thenAlloc _ |>.of2 hm)
  clear hm
  go_wp2_with fail
  go_ret
  exact ⟨rfl, HM.out.thenAlloc _⟩
theorem may_nil (w : World) (va vb : Int) : Calls Try.prog 37 #[.pointer none, .int .i64 va, .int .i64 vb] w fun e w' => e = .returned (.bool false) ∧ Mod (fun _ => False) w w' := by
  go_enter Try.func37, Try.ntmps37
  go_wp2_with fail
  refine (tedge_nil _ va).mono ?_
  rintro e w1 ⟨rfl, hm⟩
  have HM := Lib.hid hm
  clear hm
  go_wp2_with fail
  refine (tedge_nil _ vb).mono ?_
  rintro e w2 ⟨rfl, hm⟩
  have HM2 := Lib.hid ((HM.out.thenAlloc _).of2 hm)
  clear hm
  go_wp2_with fail
  go_ret
  exact ⟨rfl, HM2.out.thenAlloc _⟩
theorem next_as (t p B C : Nat) (G : GD) (w : World) (h : TO w t p B C G) (ed : Int) (xs : List Int) (n : Nat) (hx : nxtR G ed = xs) (hn : xs.length = n) :
    Calls Try.prog 16 #[.pointer (some ⟨t, 0, none⟩), .int .i64 ed] w fun e w' => ∃ a c, e = .returned (.slice a n c) ∧ Rd w' 1 (.slice a n c) n (xs.map (Value.int .i64)) ∧ Mod (fun _ => False) w w' :=
  (next_any t p B C G w h ed).mono fun _ _ ⟨_, he, ⟨a, c, hv, hr⟩, hm⟩ => by
    subst hx hn hv; exact ⟨a, c, he, hr, hm⟩
theorem prev_as (t p B C : Nat) (G : GD) (w : World) (h : TO w t p B C G) (ed : Int) (xs : List Int) (n : Nat) (hx : prvR G ed = xs) (hn : xs.length = n) :
    Calls Try.prog 36 #[.pointer (some ⟨t, 0, none⟩), .int .i64 ed] w fun e w' => ∃ a c, e = .returned (.slice a n c) ∧ Rd w' 1 (.slice a n c) n (xs.map (Value.int .i64)) ∧ Mod (fun _ => False) w w' :=
  (prev_any t p B C G w h ed).mono fun _ _ ⟨_, he, ⟨a, c, hv, hr⟩, hm⟩ => by
    subst hx hn hv; exact ⟨a, c, he, hr, hm⟩
end Go.Proofs.Ytagmnkobigecnaa
namespace Go.Proofs.Ytagmnkobigecnaa
open Go.RowKit Mile
set_option maxRecDepth 100000
set_option maxHeartbeats 2000000 in
theorem wedge_any (t p B C : Nat) (G : GD) (w : World) (h : TO w t p B C G) (v : Int) :
    Calls Try.prog 81 #[.pointer (some ⟨t, 0, none⟩), .int .i64 v] w (EdgeP G v w) := by
  have hA := h.keep (Mod.alloc (fun _ => False) w (.cells #[.int .i64 0, .int .i64 0, .int .i64 0] 41))
  obtain ⟨q, hq⟩ : ∃ q, w.heap.size = q := ⟨_, rfl⟩
  have hs : Blk (w.alloc (.cells #[.int .i64 0, .int .i64 0, .int .i64 0] 41)) q 41 [.int .i64 0, .int .i64 0, .int .i64 0] := by rw [← hq]; exact Blk.new w 41 [.int .i64 0, .int .i64 0, .int .i64 0]
  have c0 := hA.blk.cell 0 rfl
  have HA := Lib.hid hA
  have HS := Lib.hid hs
  clear hA hs
  go_enter Try.func81, Try.ntmps81
  go_wp2_with fail
  refine (edge_any p B C _ G HA.out.go v).mono ?_
  rintro e w1 ⟨rfl, hm⟩
  have hb := HS.out.keep hm (fun e => e)
  have k0 := hb.cell 0 rfl
  have k1 := hb.cell 1 rfl
  have k2 := hb.cell 2 rfl
  have f0 := hb.free 0
  have f1 := hb.free 1
  have f2 := hb.free 2
  have lq := hb.lt
  obtain ⟨x, hx⟩ : ∃ x, (if 0 ≤ v ∧ v < (G.E.length : Int) then eAt G v else (0, 0, 0)).1 = x := ⟨_, rfl⟩
  obtain ⟨y, hy⟩ : ∃ x, (if 0 ≤ v ∧ v < (G.E.length : Int) then eAt G v else (0, 0, 0)).2.1 = x := ⟨_, rfl⟩
  obtain ⟨z, hz⟩ : ∃ x, (if 0 ≤ v ∧ v < (G.E.length : Int) then eAt G v else (0, 0, 0)).2.2 = x := ⟨_, rfl⟩
  obtain ⟨b, hbb⟩ : ∃ b, decide (0 ≤ v ∧ v < (G.E.length : Int)) = b := ⟨_, rfl⟩
  have HM : Hid (Mod (fun _ => False) (w.alloc (.cells #[.int .i64 0, .int .i64 0, .int .i64 0] 41)) w1) := Lib.hid hm
  rw [hx, hy, hz, hbb]
  try rw [hq]
  have HX := Lib.hid hx
  have HY := Lib.hid hy
  have HZ := Lib.hid hz
  have HBB := Lib.hid hbb
  have HQ := Lib.hid hq
  have HB := Lib.hid hb
  clear hm hx hy hz hbb hb c0 hq
  go_wp2_with fail
  have b2 := ((HB.out.set 0 (.int .i64 x)).set 1 (.int .i64 y)).set 2 (.int .i64 z)
  (try simp only [Exit.inBlock, Exit.then])
  refine bodyPost_ret (results_row_tmp rfl _ _ q 41 #[.int .i64 x, .int .i64 y, .int .i64 z] (0, 0) _ rfl b2 Try.underlying41 rfl (by kernel_rfl)) rfl ?_
  refine ⟨by rw [HX.out, HY.out, HZ.out, HBB.out]; rfl, ?_⟩
  have m1 : Mod (fun _ => False) w w1 := (Mod.alloc (fun _ => False) w _).of2 HM.out
  exact ((m1.thenSet _ _ (fun e => by have := HQ.out; simp only at e; omega)).thenSet _ _ (fun e => by have := HQ.out; simp only at e; omega)).thenSet _ _ (fun e => by have := HQ.out; simp only at e; omega)
set_option maxHeartbeats 2000000 in
theorem wedge_nil (w : World) (v : Int) : Calls Try.prog 81 #[.pointer none, .int .i64 v] w fun e w' => e = .returned (.tuple #[.agg #[.int .i64 0, .int .i64 0, .int .i64 0], .bool false]) ∧ Mod (fun _ => False) w w' := by
  go_enter Try.func81, Try.ntmps81
  go_wp2_with fail
  have b2 := Blk.new w 41 [.int .i64 0, .int .i64 0, .int .i64 0]
  (try simp only [Exit.inBlock, Exit.then])
  refine bodyPost_ret (results_row_tmp rfl _ _ w.heap.size 41 #[.int .i64 0, .int .i64 0, .int .i64 0] (0, 0) _ rfl b2 Try.underlying41 rfl (by kernel_rfl)) rfl ?_
  exact ⟨rfl, Mod.alloc _ w _⟩

set_option maxHeartbeats 8000000 in
theorem wweight_any (t p B C : Nat) (G : GD) (hmay : May G) (w : World) (h : TO w t p B C G) (a : Option Addr) (n c : Nat) (xs : List Int) (hn : xs.length = n) (hr : Rd w 1 (.slice a n c) n (xs.map (Value.int .i64))) (hb : n ≤ 100000) :
    Calls Try.prog 60 #[.pointer (some ⟨t, 0, none⟩), .slice a n c] w fun e w' => e = .returned (.tuple #[.int .i64 (wtN G xs), .bool (allE G xs)]) ∧ Mod (fun _ => False) w w' := by
  obtain ⟨iI, hiI, hzI, hsI, hbI⟩ := info_parts GR.infoI
  have HN := Lib.hid hn
  have HMAY := Lib.hid hmay
  clear hn hmay
  have HS : Hid (Ev (Mod (fun _ => False) w) w) := Lib.hid (Ev.mod w)
  replace HS := Lib.hid ((Ev.to h).and HS.out)
  replace HS := Lib.hid ((Ev.rd hr).and HS.out)
  clear h hr
  go_enter Try.func60, Try.ntmps60
  go_wp2_with fail
  replace HS := Lib.hid ((Ev.mod w).and HS.out)
  go_loopw [6, 13] (fun s i wr => ∃ (k : Nat) (s0 : Int), k ≤ n ∧ i = .int .i64 k ∧ s = .int .i64 s0 ∧ s0 = wS G (xs.take k) ∧ allE G (xs.take k) = true ∧ Mod (fun _ => False) w wr) (fun s i _ => n - (intOf i).toNat)
  case atStart => exact ⟨0, 0, by omega, rfl, rfl, rfl, rfl, Mod.refl _ _⟩
  case round =>
    obtain ⟨k, s0, hk, rfl, rfl, hs, hall, hmr⟩ := hrel
    obtain ⟨wo, hwo⟩ : ∃ x : World, x = wr := ⟨_, rfl⟩
    subst hwo
    replace HS := Lib.hid (HS.out.step hmr)
    clear hmr
    have hsb : 0 ≤ s0 ∧ s0 ≤ 6553500000 := by have h1 := wS_le G HMAY.out (xs.take k) hall; have h2 : (xs.take k).length ≤ k := List.length_take_le _ _; rw [hs]; omega
    have hs1 := hsb.1
    have hs2 := hsb.2
    clear hsb
    have HSUM := Lib.hid hs
    have HALL := Lib.hid hall
    clear hs hall
    by_cases hlt : k < n
    case pos =>
      have hkl : k < xs.length := by rw [HN.out]; exact hlt
      have ht1 := Lib.hid (allE_take G xs k hkl)
      have ht2 := Lib.hid (wS_take G xs k hkl)
      have hno := Lib.hid (allE_no G xs k hkl)
      obtain ⟨x, HX0⟩ : ∃ qz, xs[k] = qz := ⟨_, rfl⟩
      have HX := Lib.hid HX0
      clear HX0
      rw [HX.out] at ht1 ht2 hno
      obtain ⟨eb, eo, hpl, e0⟩ := rd1 (HS.out.now).2.1 k hkl
      have hix := fun wx => run_indexS (P := Try.prog) wx 22 3 iI 1 Try.underlying22 hiI hsI a n c k hlt ((HS.out.now).2.1.some_ (by have := hlt; omega))
      rw [hpl] at hix
      have HIe := Lib.hid hix
      clear hix hpl
      rw [HX.out] at e0
      replace HS := Lib.hid ((Ev.cell e0).and HS.out)
      clear e0
      have qe := (HS.out.now).1
      have hix := HIe.out
      have z0 : decide ((k : Int) < (n : Int)) = true := by simp; omega
      go_wp2_with fail
      by_cases hx : 0 ≤ x ∧ x < (G.E.length : Int)
      case pos =>
        have hz := wt_le G HMAY.out x (decide_eq_true hx)
        have HXE := Lib.hid hx
        clear hx
        obtain ⟨x0, Hx00⟩ : ∃ qz, (eAt G x).1 = qz := ⟨_, rfl⟩
        have Hx0 := Lib.hid Hx00
        clear Hx00
        obtain ⟨y0, Hy00⟩ : ∃ qz, (eAt G x).2.1 = qz := ⟨_, rfl⟩
        have Hy0 := Lib.hid Hy00
        clear Hy00
        obtain ⟨z0v, Hz0v0⟩ : ∃ qz, (eAt G x).2.2 = qz := ⟨_, rfl⟩
        have Hz0v := Lib.hid Hz0v0
        clear Hz0v0
        rw [Hz0v.out] at hz
        have hz1 := hz.1
        have hz2 := hz.2
        clear hz
        refine (wedge_any t p B C G _ ((HS.out.now).2.2.2.1) x).mono ?_
        rintro e wq1 ⟨rfl, hmm⟩
        replace HS := Lib.hid (HS.out.step hmm)
        clear hmm
        clear qe hix
        rw [if_pos HXE.out, decide_eq_true HXE.out, Hx0.out, Hy0.out, Hz0v.out]
        go_wp2_with fail
        go_roundw
        case rel => exact ⟨k + 1, s0 + z0v, hlt, by go_num, by go_num, by rw [ht2.out, ← HSUM.out, Hz0v.out], by rw [ht1.out, HALL.out]; exact decide_eq_true HXE.out, ((HS.out.now).2.1).thenAlloc _⟩
        case measure => simp [intOf]; omega
      case neg =>
        have HXE := Lib.hid hx
        clear hx
        refine (wedge_any t p B C G _ ((HS.out.now).2.2.2.1) x).mono ?_
        rintro e wq2 ⟨rfl, hmm⟩
        replace HS := Lib.hid (HS.out.step hmm)
        clear hmm
        clear qe hix
        rw [if_neg HXE.out, decide_eq_false HXE.out]
        have hf := hno.out (decide_eq_false HXE.out)
        have HF := Lib.hid hf
        clear hf
        go_wp2_with fail
        go_ret2
        refine ⟨?_, ((HS.out.now).2.2.2.2).thenAlloc _⟩
        unfold wtN
        rw [HF.out]; rfl
    case neg =>
      obtain rfl : k = n := by omega
      have z0 : decide ((k : Int) < (k : Int)) = false := by simp
      go_wp2_with fail
      go_ret2
      refine ⟨?_, (HS.out.now).2.2.2⟩
      have ht : xs.take k = xs := List.take_of_length_le (by rw [HN.out]; exact Nat.le_refl _)
      have h1 := HALL.out
      rw [ht] at h1
      unfold wtN
      rw [h1, HSUM.out, ht]; rfl

set_option maxHeartbeats 8000000 in
theorem wend_any (t p B C : Nat) (G : GD) (w : World) (h : TO w t p B C G) (f : Int) (a : Option Addr) (n c : Nat) (xs : List Int) (hn : xs.length = n) (hr : Rd w 1 (.slice a n c) n (xs.map (Value.int .i64))) (hb : n ≤ 100000) :
    Calls Try.prog 80 #[.pointer (some ⟨t, 0, none⟩), .int .i64 f, .slice a n c] w fun e w' => e = .returned (.tuple #[.int .i64 (endN G f xs), .bool (validB G f xs)]) ∧ Mod (fun _ => False) w w' := by
  obtain ⟨iI, hiI, hzI, hsI, hbI⟩ := info_parts GR.infoI
  have HN := Lib.hid hn
  clear hn
  have HS : Hid (Ev (Mod (fun _ => False) w) w) := Lib.hid (Ev.mod w)
  replace HS := Lib.hid ((Ev.to h).and HS.out)
  replace HS := Lib.hid ((Ev.rd hr).and HS.out)
  clear h hr
  go_enter Try.func80, Try.ntmps80
  go_wp2_with fail
  replace HS := Lib.hid ((Ev.mod w).and HS.out)
  go_loopw [8, 15] (fun s i wr => ∃ (k : Nat) (f0 : Int), k ≤ n ∧ i = .int .i64 k ∧ s = .int .i64 f0 ∧ f0 = lastD f (xs.take k) ∧ wlk G f (xs.take k) = true ∧ Mod (fun _ => False) w wr) (fun s i _ => n - (intOf i).toNat)
  case atStart => exact ⟨0, f, by omega, rfl, rfl, rfl, rfl, Mod.refl _ _⟩
  case round =>
    obtain ⟨k, f0, hk, rfl, rfl, hs, hall, hmr⟩ := hrel
    obtain ⟨wo, hwo⟩ : ∃ x : World, x = wr := ⟨_, rfl⟩
    subst hwo
    replace HS := Lib.hid (HS.out.step hmr)
    clear hmr
    have HSUM := Lib.hid hs
    have HALL := Lib.hid hall
    clear hs hall
    by_cases hlt : k < n
    case pos =>
      have hkl : k < xs.length := by rw [HN.out]; exact hlt
      have ht1 := Lib.hid (wlk_take G f xs k hkl)
      have ht2 := Lib.hid (lastD_take f xs k hkl)
      have hno := Lib.hid (wlk_no G f xs k hkl)
      obtain ⟨x, HX0⟩ : ∃ qz, xs[k] = qz := ⟨_, rfl⟩
      have HX := Lib.hid HX0
      clear HX0
      rw [HX.out] at ht1 ht2
      obtain ⟨eb, eo, hpl, e0⟩ := rd1 (HS.out.now).2.1 k hkl
      have hix := fun wx => run_indexS (P := Try.prog) wx 22 3 iI 1 Try.underlying22 hiI hsI a n c k hlt ((HS.out.now).2.1.some_ (by have := hlt; omega))
      rw [hpl] at hix
      have HIe := Lib.hid hix
      clear hix hpl
      rw [HX.out] at e0
      replace HS := Lib.hid ((Ev.cell e0).and HS.out)
      clear e0
      have qe := (HS.out.now).1
      have hix := HIe.out
      have z0 : decide ((k : Int) < (n : Int)) = true := by simp; omega
      obtain ⟨b, HB0⟩ : ∃ qz, turnB G f0 x = qz := ⟨_, rfl⟩
      have HB := Lib.hid HB0
      clear HB0
      go_wp2_with fail
      refine (may_any t p B C G _ ((HS.out.now).2.2.2.1) f0 x).mono ?_
      rintro e wq1 ⟨rfl, hmm⟩
      replace HS := Lib.hid (HS.out.step hmm)
      clear hmm
      clear qe hix
      rw [HB.out]
      cases b with
      | true =>
        go_wp2_with fail
        go_roundw
        case rel => exact ⟨k + 1, x, hlt, by go_num, rfl, ht2.out.symm, by rw [ht1.out, HALL.out, ← HSUM.out]; exact HB.out, (HS.out.now).2.1⟩
        case measure => simp [intOf]; omega
      | false =>
        have hf := hno.out (by rw [ht1.out, HALL.out, ← HSUM.out]; exact HB.out)
        have HF := Lib.hid hf
        clear hf
        go_wp2_with fail
        go_ret2
        refine ⟨?_, (HS.out.now).2.2.2.2⟩
        unfold endN validB
        rw [HF.out, Bool.and_false]; rfl
    case neg =>
      obtain rfl : k = n := by omega
      have z0 : decide ((k : Int) < (k : Int)) = false := by simp
      have ht : xs.take k = xs := List.take_of_length_le (by rw [HN.out]; exact Nat.le_refl _)
      have h1 := HALL.out
      have h2 := HSUM.out
      rw [ht] at h1 h2
      have HL := Lib.hid (valid_last G f xs h1)
      have HW := Lib.hid h1
      have HF := Lib.hid h2
      clear ht h1 h2
      go_wp2_with fail
      by_cases hx : 0 ≤ f0 ∧ f0 < (G.E.length : Int)
      case pos =>
        have HXE := Lib.hid hx
        clear hx
        obtain ⟨x0, Hx00⟩ : ∃ qz, (eAt G f0).1 = qz := ⟨_, rfl⟩
        have Hx0 := Lib.hid Hx00
        clear Hx00
        obtain ⟨y0, Hy00⟩ : ∃ qz, (eAt G f0).2.1 = qz := ⟨_, rfl⟩
        have Hy0 := Lib.hid Hy00
        clear Hy00
        obtain ⟨z0v, Hz0v0⟩ : ∃ qz, (eAt G f0).2.2 = qz := ⟨_, rfl⟩
        have Hz0v := Lib.hid Hz0v0
        clear Hz0v0
        refine (wedge_any t p B C G _ ((HS.out.now).2.2.1) f0).mono ?_
        rintro e wq2 ⟨rfl, hmm⟩
        replace HS := Lib.hid (HS.out.step hmm)
        clear hmm
        rw [if_pos HXE.out, decide_eq_true HXE.out, Hx0.out, Hy0.out, Hz0v.out]
        have HV : Hid (validB G f xs = true) := Lib.hid (by unfold validB; rw [HW.out, ← HL.out, ← HF.out]; simpa [edB] using HXE.out)
        go_wp2_with fail
        go_ret2
        refine ⟨?_, ((HS.out.now).2.2.2).thenAlloc _⟩
        unfold endN
        rw [HV.out, ← HF.out]; simp only [if_true]; rw [Hy0.out]; rfl
      case neg =>
        have HXE := Lib.hid hx
        clear hx
        refine (wedge_any t p B C G _ ((HS.out.now).2.2.1) f0).mono ?_
        rintro e wq3 ⟨rfl, hmm⟩
        replace HS := Lib.hid (HS.out.step hmm)
        clear hmm
        rw [if_neg HXE.out, decide_eq_false HXE.out]
        have HV : Hid (validB G f xs = false) := Lib.hid (by unfold validB; rw [HW.out, ← HL.out, ← HF.out, Bool.and_true]; exact decide_eq_false HXE.out)
        go_wp2_with fail
        go_ret2
        refine ⟨?_, ((HS.out.now).2.2.2).thenAlloc _⟩
        unfold endN
        rw [HV.out]; rfl

set_option maxHeartbeats 4000000 in
theorem wvalid_any (t p B C : Nat) (G : GD) (w : World) (h : TO w t p B C G) (f : Int) (a : Option Addr) (n c : Nat) (xs : List Int) (hn : xs.length = n) (hr : Rd w 1 (.slice a n c) n (xs.map (Value.int .i64))) (hb : n ≤ 100000) :
    Calls Try.prog 59 #[.pointer (some ⟨t, 0, none⟩), .int .i64 f, .slice a n c] w fun e w' => e = .returned (.bool (validB G f xs)) ∧ Mod (fun _ => False) w w' := by
  have HS : Hid (Ev (Mod (fun _ => False) w) w) := Lib.hid (Ev.mod w)
  go_enter Try.func59, Try.ntmps59
  go_wp2_with fail
  refine (wend_any t p B C G _ h f a n c xs hn hr hb).mono ?_
  rintro e wq1 ⟨rfl, hmm⟩
  replace HS := Lib.hid (HS.out.step hmm)
  clear hmm
  go_wp2_with fail
  go_ret
  exact ⟨rfl, (HS.out.now)⟩
end Go.Proofs.Ytagmnkobigecnaa
