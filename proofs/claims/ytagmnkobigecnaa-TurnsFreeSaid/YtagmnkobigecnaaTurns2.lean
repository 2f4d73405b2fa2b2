/- turns.May by contract; milepostref4's Turn, Next, Prev by contract. -/
import Derived.Test.YtagmnkobigecnaaTurns
import Derived.Test.YtagmnkobigecnaaR4
import Derived.Deep.DeepCutAuto
import Derived.Deep.CutBlock
namespace Go.Proofs.Ytagmnkobigecnaa
open Go.RowKit Mile
set_option maxRecDepth 100000

set_option maxHeartbeats 8000000 in
theorem may_any (t p B C : Nat) (G : GD) (w : World) (h : TO w t p B C G) (va vb : Int) :
    Calls Try.prog 37 #[.pointer (some ⟨t, 0, none⟩), .int .i64 va, .int .i64 vb] w fun e w' => e = .returned (.bool (turnB G va vb)) ∧ Mod (fun _ => False) w w' := by
  have HS : Hid (Ev (Mod (fun _ => False) w) w) := Lib.hid (Ev.mod w)
  replace HS := Lib.hid ((Ev.to h).and HS.out)
  by_cases hA : 0 ≤ va ∧ va < (G.E.length : Int)
  case neg =>
    rw [turnB_no1 G va vb hA]
    have HA := Lib.hid hA
    clear hA
    obtain ⟨xa, hxa⟩ : ∃ x, (eAt G va).1 = x := ⟨_, rfl⟩
    have Hxa := Lib.hid hxa
    obtain ⟨ya, hya⟩ : ∃ x, (eAt G va).2.1 = x := ⟨_, rfl⟩
    have Hya := Lib.hid hya
    obtain ⟨za, hza⟩ : ∃ x, (eAt G va).2.2 = x := ⟨_, rfl⟩
    have Hza := Lib.hid hza
    obtain ⟨xb, hxb⟩ : ∃ x, (eAt G vb).1 = x := ⟨_, rfl⟩
    have Hxb := Lib.hid hxb
    obtain ⟨yb, hyb⟩ : ∃ x, (eAt G vb).2.1 = x := ⟨_, rfl⟩
    have Hyb := Lib.hid hyb
    obtain ⟨zb, hzb⟩ : ∃ x, (eAt G vb).2.2 = x := ⟨_, rfl⟩
    have Hzb := Lib.hid hzb
    clear hxa hya hza hxb hyb hzb
    go_enter Try.func37, Try.ntmps37
    go_wp2_with fail
    refine (tedge_any t p B C G _ ((HS.out.now).1) va).mono ?_
    rintro e wq1 ⟨rfl, hmm⟩
    replace HS := Lib.hid (HS.out.step hmm)
    clear hmm
    rw [if_neg HA.out, decide_eq_false HA.out]
    go_wp2_with fail
    obtain ⟨b7, hb7⟩ : ∃ b, wq1.heap.size = b := ⟨_, rfl⟩
    obtain ⟨wq2, hwq2⟩ : ∃ W, World.alloc wq1 (.cells #[.int .i64 0, .int .i64 0, .int .i64 0] 41) = W := ⟨_, rfl⟩
    have hBb7 : Blk wq2 b7 41 [.int .i64 0, .int .i64 0, .int .i64 0] := by rw [← hwq2, ← hb7]; exact Blk.new _ 41 [.int .i64 0, .int .i64 0, .int .i64 0]
    have hzb7 : wq2.heap.size = b7 + 1 := by rw [← hwq2, ← hb7]; exact heap_size_alloc _ _
    replace HS := Lib.hid (HS.out.step (w' := wq2) (by rw [← hwq2]; exact Mod.alloc _ _ _))
    replace HS := Lib.hid ((Ev.blk hBb7).and HS.out)
    try rw [hwq2]
    try rw [hb7]
    clear hzb7 hBb7 hb7 hwq2
    refine (tedge_any t p B C G _ ((HS.out.now).2.1) vb).mono ?_
    rintro e wq3 ⟨rfl, hmm⟩
    replace HS := Lib.hid (HS.out.step hmm)
    clear hmm
    obtain ⟨ok, hok⟩ : ∃ b, decide (0 ≤ vb ∧ vb < (G.E.length : Int)) = b := ⟨_, rfl⟩
    rw [hok]
    clear hok
    cases ok
    all_goals
      go_wp2_with fail
      all_goals
        go_ret
        exact ⟨rfl, ((HS.out.now).2.2).thenAlloc _⟩
  by_cases hB : 0 ≤ vb ∧ vb < (G.E.length : Int)
  case neg =>
    rw [turnB_no2 G va vb hB]
    have HA := Lib.hid hA
    have HB := Lib.hid hB
    clear hA hB
    obtain ⟨xa, hxa⟩ : ∃ x, (eAt G va).1 = x := ⟨_, rfl⟩
    have Hxa := Lib.hid hxa
    obtain ⟨ya, hya⟩ : ∃ x, (eAt G va).2.1 = x := ⟨_, rfl⟩
    have Hya := Lib.hid hya
    obtain ⟨za, hza⟩ : ∃ x, (eAt G va).2.2 = x := ⟨_, rfl⟩
    have Hza := Lib.hid hza
    obtain ⟨xb, hxb⟩ : ∃ x, (eAt G vb).1 = x := ⟨_, rfl⟩
    have Hxb := Lib.hid hxb
    obtain ⟨yb, hyb⟩ : ∃ x, (eAt G vb).2.1 = x := ⟨_, rfl⟩
    have Hyb := Lib.hid hyb
    obtain ⟨zb, hzb⟩ : ∃ x, (eAt G vb).2.2 = x := ⟨_, rfl⟩
    have Hzb := Lib.hid hzb
    clear hxa hya hza hxb hyb hzb
    go_enter Try.func37, Try.ntmps37
    go_wp2_with fail
    refine (tedge_any t p B C G _ ((HS.out.now).1) va).mono ?_
    rintro e wq4 ⟨rfl, hmm⟩
    replace HS := Lib.hid (HS.out.step hmm)
    clear hmm
    rw [if_pos HA.out, decide_eq_true HA.out, Hxa.out, Hya.out, Hza.out]
    go_wp2_with fail
    obtain ⟨b7, hb7⟩ : ∃ b, wq4.heap.size = b := ⟨_, rfl⟩
    obtain ⟨wq5, hwq5⟩ : ∃ W, World.alloc wq4 (.cells #[.int .i64 xa, .int .i64 ya, .int .i64 za] 41) = W := ⟨_, rfl⟩
    have hBb7 : Blk wq5 b7 41 [.int .i64 xa, .int .i64 ya, .int .i64 za] := by rw [← hwq5, ← hb7]; exact Blk.new _ 41 [.int .i64 xa, .int .i64 ya, .int .i64 za]
    have hzb7 : wq5.heap.size = b7 + 1 := by rw [← hwq5, ← hb7]; exact heap_size_alloc _ _
    replace HS := Lib.hid (HS.out.step (w' := wq5) (by rw [← hwq5]; exact Mod.alloc _ _ _))
    replace HS := Lib.hid ((Ev.blk hBb7).and HS.out)
    try rw [hwq5]
    try rw [hb7]
    clear hzb7 hBb7 hb7 hwq5
    refine (tedge_any t p B C G _ ((HS.out.now).2.1) vb).mono ?_
    rintro e wq6 ⟨rfl, hmm⟩
    replace HS := Lib.hid (HS.out.step hmm)
    clear hmm
    rw [if_neg HB.out, decide_eq_false HB.out]
    go_wp2_with fail
    go_ret
    exact ⟨rfl, ((HS.out.now).2.2).thenAlloc _⟩
  by_cases hE : (eAt G va).2.1 = (eAt G vb).1
  case neg =>
    rw [show turnB G va vb = false from decide_eq_false fun h => hE h.2.2.1]
    have HA := Lib.hid hA
    have HB := Lib.hid hB
    have HE := Lib.hid hE
    clear hA hB hE
    obtain ⟨xa, hxa⟩ : ∃ x, (eAt G va).1 = x := ⟨_, rfl⟩
    have Hxa := Lib.hid hxa
    obtain ⟨ya, hya⟩ : ∃ x, (eAt G va).2.1 = x := ⟨_, rfl⟩
    have Hya := Lib.hid hya
    obtain ⟨za, hza⟩ : ∃ x, (eAt G va).2.2 = x := ⟨_, rfl⟩
    have Hza := Lib.hid hza
    obtain ⟨xb, hxb⟩ : ∃ x, (eAt G vb).1 = x := ⟨_, rfl⟩
    have Hxb := Lib.hid hxb
    obtain ⟨yb, hyb⟩ : ∃ x, (eAt G vb).2.1 = x := ⟨_, rfl⟩
    have Hyb := Lib.hid hyb
    obtain ⟨zb, hzb⟩ : ∃ x, (eAt G vb).2.2 = x := ⟨_, rfl⟩
    have Hzb := Lib.hid hzb
    clear hxa hya hza hxb hyb hzb
    go_enter Try.func37, Try.ntmps37
    go_wp2_with fail
    refine (tedge_any t p B C G _ ((HS.out.now).1) va).mono ?_
    rintro e wq7 ⟨rfl, hmm⟩
    replace HS := Lib.hid (HS.out.step hmm)
    clear hmm
    rw [if_pos HA.out, decide_eq_true HA.out, Hxa.out, Hya.out, Hza.out]
    go_wp2_with fail
    obtain ⟨b7, hb7⟩ : ∃ b, wq7.heap.size = b := ⟨_, rfl⟩
    obtain ⟨wq8, hwq8⟩ : ∃ W, World.alloc wq7 (.cells #[.int .i64 xa, .int .i64 ya, .int .i64 za] 41) = W := ⟨_, rfl⟩
    have hBb7 : Blk wq8 b7 41 [.int .i64 xa, .int .i64 ya, .int .i64 za] := by rw [← hwq8, ← hb7]; exact Blk.new _ 41 [.int .i64 xa, .int .i64 ya, .int .i64 za]
    have hzb7 : wq8.heap.size = b7 + 1 := by rw [← hwq8, ← hb7]; exact heap_size_alloc _ _
    replace HS := Lib.hid (HS.out.step (w' := wq8) (by rw [← hwq8]; exact Mod.alloc _ _ _))
    replace HS := Lib.hid ((Ev.blk hBb7).and HS.out)
    try rw [hwq8]
    try rw [hb7]
    clear hzb7 hBb7 hb7 hwq8
    refine (tedge_any t p B C G _ ((HS.out.now).2.1) vb).mono ?_
    rintro e wq9 ⟨rfl, hmm⟩
    replace HS := Lib.hid (HS.out.step hmm)
    clear hmm
    rw [if_pos HB.out, decide_eq_true HB.out, Hxb.out, Hyb.out, Hzb.out]
    have hbb7 := (HS.out.now).1
    have qb7_0 := hbb7.cell 0 rfl
    have qb7_1 := hbb7.cell 1 rfl
    have qb7_2 := hbb7.cell 2 rfl
    have lb7 := hbb7.lt
    clear hbb7
    have zE : (ya == xb) = false := by have h := HE.out; rw [Hya.out, Hxb.out] at h; simpa using h
    go_wp2_with fail
    go_ret
    exact ⟨rfl, ((HS.out.now).2.2).thenAlloc _⟩
  obtain ⟨bb, hbb⟩ : ∃ b, decide ((va, vb) ∈ G.B) = b := ⟨_, rfl⟩
  rw [show turnB G va vb = !bb from by rw [← hbb]; unfold turnB; by_cases h : (va, vb) ∈ G.B <;> simp [h, hA, hB, hE]]
  have HBB := Lib.hid hbb
  have HA := Lib.hid hA
  have HB := Lib.hid hB
  have HE := Lib.hid hE
  clear hA hB hE hbb
  obtain ⟨xa, hxa⟩ : ∃ x, (eAt G va).1 = x := ⟨_, rfl⟩
  have Hxa := Lib.hid hxa
  obtain ⟨ya, hya⟩ : ∃ x, (eAt G va).2.1 = x := ⟨_, rfl⟩
  have Hya := Lib.hid hya
  obtain ⟨za, hza⟩ : ∃ x, (eAt G va).2.2 = x := ⟨_, rfl⟩
  have Hza := Lib.hid hza
  obtain ⟨xb, hxb⟩ : ∃ x, (eAt G vb).1 = x := ⟨_, rfl⟩
  have Hxb := Lib.hid hxb
  obtain ⟨yb, hyb⟩ : ∃ x, (eAt G vb).2.1 = x := ⟨_, rfl⟩
  have Hyb := Lib.hid hyb
  obtain ⟨zb, hzb⟩ : ∃ x, (eAt G vb).2.2 = x := ⟨_, rfl⟩
  have Hzb := Lib.hid hzb
  clear hxa hya hza hxb hyb hzb
  go_enter Try.func37, Try.ntmps37
  go_wp2_with fail
  refine (tedge_any t p B C G _ ((HS.out.now).1) va).mono ?_
  rintro e wq10 ⟨rfl, hmm⟩
  replace HS := Lib.hid (HS.out.step hmm)
  clear hmm
  rw [if_pos HA.out, decide_eq_true HA.out, Hxa.out, Hya.out, Hza.out]
  go_wp2_with fail
  obtain ⟨b7, hb7⟩ : ∃ b, wq10.heap.size = b := ⟨_, rfl⟩
  obtain ⟨wq11, hwq11⟩ : ∃ W, World.alloc wq10 (.cells #[.int .i64 xa, .int .i64 ya, .int .i64 za] 41) = W := ⟨_, rfl⟩
  have hBb7 : Blk wq11 b7 41 [.int .i64 xa, .int .i64 ya, .int .i64 za] := by rw [← hwq11, ← hb7]; exact Blk.new _ 41 [.int .i64 xa, .int .i64 ya, .int .i64 za]
  have hzb7 : wq11.heap.size = b7 + 1 := by rw [← hwq11, ← hb7]; exact heap_size_alloc _ _
  replace HS := Lib.hid (HS.out.step (w' := wq11) (by rw [← hwq11]; exact Mod.alloc _ _ _))
  replace HS := Lib.hid ((Ev.blk hBb7).and HS.out)
  try rw [hwq11]
  try rw [hb7]
  clear hzb7 hBb7 hb7 hwq11
  refine (tedge_any t p B C G _ ((HS.out.now).2.1) vb).mono ?_
  rintro e wq12 ⟨rfl, hmm⟩
  replace HS := Lib.hid (HS.out.step hmm)
  clear hmm
  rw [if_pos HB.out, decide_eq_true HB.out, Hxb.out, Hyb.out, Hzb.out]
  have hbb7 := (HS.out.now).1
  have qb7_0 := hbb7.cell 0 rfl
  have qb7_1 := hbb7.cell 1 rfl
  have qb7_2 := hbb7.cell 2 rfl
  have lb7 := hbb7.lt
  clear hbb7
  have zE : (ya == xb) = true := by have h := HE.out; rw [Hya.out, Hxb.out] at h; simpa using h
  go_upto_region 3 with fail
  clear qb7_0 qb7_1 qb7_2 lb7
  obtain ⟨b9, hb9⟩ : ∃ b, wq12.heap.size = b := ⟨_, rfl⟩
  obtain ⟨wq13, hwq13⟩ : ∃ W, World.alloc wq12 (.cells #[.int .i64 xb, .int .i64 yb, .int .i64 zb] 41) = W := ⟨_, rfl⟩
  have hBb9 : Blk wq13 b9 41 [.int .i64 xb, .int .i64 yb, .int .i64 zb] := by rw [← hwq13, ← hb9]; exact Blk.new _ 41 [.int .i64 xb, .int .i64 yb, .int .i64 zb]
  have hzb9 : wq13.heap.size = b9 + 1 := by rw [← hwq13, ← hb9]; exact heap_size_alloc _ _
  replace HS := Lib.hid (HS.out.step (w' := wq13) (by rw [← hwq13]; exact Mod.alloc _ _ _))
  replace HS := Lib.hid ((Ev.blk hBb9).and HS.out)
  try rw [hwq13]
  try rw [hb9]
  clear hzb9 hBb9 hb9 hwq13
  have hbb7 := (HS.out.now).2.1
  have qb7_0 := hbb7.cell 0 rfl
  have qb7_1 := hbb7.cell 1 rfl
  have qb7_2 := hbb7.cell 2 rfl
  have lb7 := hbb7.lt
  clear hbb7
  have hbb9 := (HS.out.now).1
  have qb9_0 := hbb9.cell 0 rfl
  have qb9_1 := hbb9.cell 1 rfl
  have qb9_2 := hbb9.cell 2 rfl
  have lb9 := hbb9.lt
  clear hbb9
  have qt := ((HS.out.now).2.2.1).blk.cell 0 rfl
  have lt := ((HS.out.now).2.2.1).blk.lt
  go_wp2_with fail
  clear qt lt
  refine (banned_any p B C _ G ((HS.out.now).2.2.1).go va vb).mono ?_
  rintro e wq14 ⟨rfl, hmm⟩
  replace HS := Lib.hid (HS.out.step hmm)
  clear hmm
  rw [HBB.out]
  clear qb7_0 qb7_1 qb7_2 lb7 qb9_0 qb9_1 qb9_2 lb9
  go_wp2_with fail
  go_ret
  exact ⟨rfl, (HS.out.now).2.2.2⟩
end Go.Proofs.Ytagmnkobigecnaa
