/- GramFields walked. -/
import Derived.Test.YtabfmnlpipbegaaGramA
import Derived.Test.YtabfmnlpipbegaaGramN
import Derived.Deep.DeepCutAuto
import Derived.Deep.CutBlock
namespace Go.Proofs.Ytabfmnlpipbegaa
open Go.RowKit Mile
set_option maxRecDepth 100000
set_option maxHeartbeats 16000000 in
theorem gfields_all (w : World) (g : GrD) (a : Option Addr) (n c : Nat) (hn : g.body.length = n) (hr : Rd w 1 (.slice a n c) n (g.body.map (Value.int .u8))) (hb : ∀ x ∈ g.body, 0 ≤ x ∧ x < 256)
    (o : GrD) (a2 : Option Addr) (n2 c2 : Nat) (hn2 : o.body.length = n2) (hr2 : Rd w 1 (.slice a2 n2 c2) n2 (o.body.map (Value.int .u8))) (hb2 : ∀ x ∈ o.body, 0 ≤ x ∧ x < 256) :
    Calls Try.prog 8 #[gramV g a n c, gramV o a2 n2 c2] w fun e w' => e = .returned (.bool true) ∧ Mod (fun _ => False) w w' := by
  obtain ⟨gc, gk, gs, ga, gd, bo⟩ := g
  obtain ⟨oc, ok, os, oa, od, b2⟩ := o
  replace hn : bo.length = n := hn
  replace hr : Rd w 1 (.slice a n c) n (bo.map (Value.int .u8)) := hr
  replace hb : ∀ x ∈ bo, 0 ≤ x ∧ x < 256 := hb
  replace hn2 : b2.length = n2 := hn2
  replace hr2 : Rd w 1 (.slice a2 n2 c2) n2 (b2.map (Value.int .u8)) := hr2
  replace hb2 : ∀ x ∈ b2, 0 ≤ x ∧ x < 256 := hb2
  unfold gramV
  simp only
  obtain ⟨bx, hbx⟩ : ∃ b, w.heap.size = b := ⟨_, rfl⟩
  obtain ⟨w0, hw0⟩ : ∃ W, w.alloc (.cells #[.int .i64 gc, .int .i64 gk, .int .i64 gs, .int .i64 ga, .int .i64 gd, .slice a n c] 44) = W := ⟨_, rfl⟩
  obtain ⟨by_, hby⟩ : ∃ b, w0.heap.size = b := ⟨_, rfl⟩
  obtain ⟨w1, hw1⟩ : ∃ W, w0.alloc (.cells #[.int .i64 oc, .int .i64 ok, .int .i64 os, .int .i64 oa, .int .i64 od, .slice a2 n2 c2] 44) = W := ⟨_, rfl⟩
  have hm0 : Mod (fun _ => False) w w0 := by rw [← hw0]; exact Mod.alloc _ _ _
  have hm1 : Mod (fun _ => False) w0 w1 := by rw [← hw1]; exact Mod.alloc _ _ _
  have hB1 : Blk w0 bx 44 [.int .i64 gc, .int .i64 gk, .int .i64 gs, .int .i64 ga, .int .i64 gd, .slice a n c] := by rw [← hw0, ← hbx]; exact Blk.new _ _ [.int .i64 gc, .int .i64 gk, .int .i64 gs, .int .i64 ga, .int .i64 gd, .slice a n c]
  have hB2 : Blk w1 by_ 44 [.int .i64 oc, .int .i64 ok, .int .i64 os, .int .i64 oa, .int .i64 od, .slice a2 n2 c2] := by rw [← hw1, ← hby]; exact Blk.new _ _ [.int .i64 oc, .int .i64 ok, .int .i64 os, .int .i64 oa, .int .i64 od, .slice a2 n2 c2]
  have hm01 := hm0.of2 hm1
  have HBX := Lib.hid (hB1.keep hm1 (fun e => e))
  have HBY := Lib.hid hB2
  have HM1 := Lib.hid hm01
  have HR := Lib.hid (hr.keep hm01 (fun _ _ e => e))
  have HR2 := Lib.hid (hr2.keep hm01 (fun _ _ e => e))
  have HN := Lib.hid hn
  have HN2 := Lib.hid hn2
  have HG := Lib.hid hb
  have HG2 := Lib.hid hb2
  clear hB1 hB2 hm0 hm1 hm01 hr hr2 hn hn2 hb hb2
  by_cases hlen0 : n ≤ 300
  case neg =>
    have z0 : decide (300 < (n : Int)) = true := by simp; omega
    have hbk := HBX.out
    have q0 := hbk.cell 0 rfl
    have q1 := hbk.cell 1 rfl
    have q2 := hbk.cell 2 rfl
    have q3 := hbk.cell 3 rfl
    have q4 := hbk.cell 4 rfl
    have q5 := hbk.cell 5 rfl
    have lq := hbk.lt
    clear hbk
    have hbk := HBY.out
    have p0 := hbk.cell 0 rfl
    have p1 := hbk.cell 1 rfl
    have p2 := hbk.cell 2 rfl
    have p3 := hbk.cell 3 rfl
    have p4 := hbk.cell 4 rfl
    have p5 := hbk.cell 5 rfl
    have lp := hbk.lt
    clear hbk
    go_enter Try.func8, Try.ntmps8
    go_upto_region 1 with fail
    try rw [hw0]
    try rw [hbx]
    try rw [hw1]
    try rw [hby]
    clear hw0 hbx hw1 hby
    go_wp2_with fail
    refine (awake23_any _).mono ?_
    rintro e w' ⟨rfl, hmz⟩
    go_wp2_with fail
    go_ret
    exact ⟨rfl, HM1.out.of2 hmz⟩
  by_cases hlen1 : n2 ≤ 300
  case neg =>
    have y0 : decide (300 < (n : Int)) = false := by simp; omega
    have z0 : decide (300 < (n2 : Int)) = true := by simp; omega
    have hbk := HBX.out
    have q0 := hbk.cell 0 rfl
    have q1 := hbk.cell 1 rfl
    have q2 := hbk.cell 2 rfl
    have q3 := hbk.cell 3 rfl
    have q4 := hbk.cell 4 rfl
    have q5 := hbk.cell 5 rfl
    have lq := hbk.lt
    clear hbk
    have hbk := HBY.out
    have p0 := hbk.cell 0 rfl
    have p1 := hbk.cell 1 rfl
    have p2 := hbk.cell 2 rfl
    have p3 := hbk.cell 3 rfl
    have p4 := hbk.cell 4 rfl
    have p5 := hbk.cell 5 rfl
    have lp := hbk.lt
    clear hbk
    go_enter Try.func8, Try.ntmps8
    go_upto_region 1 with fail
    try rw [hw0]
    try rw [hbx]
    try rw [hw1]
    try rw [hby]
    clear hw0 hbx hw1 hby
    go_wp2_with fail
    refine (awake23_any _).mono ?_
    rintro e w' ⟨rfl, hmz⟩
    go_wp2_with fail
    go_ret
    exact ⟨rfl, HM1.out.of2 hmz⟩
  have y0 : decide (300 < (n : Int)) = false := by simp; omega
  have y1 : decide (300 < (n2 : Int)) = false := by simp; omega
  have hbk := HBX.out
  have q0 := hbk.cell 0 rfl
  have q1 := hbk.cell 1 rfl
  have q2 := hbk.cell 2 rfl
  have q3 := hbk.cell 3 rfl
  have q4 := hbk.cell 4 rfl
  have q5 := hbk.cell 5 rfl
  have lq := hbk.lt
  clear hbk
  have hbk := HBY.out
  have p0 := hbk.cell 0 rfl
  have p1 := hbk.cell 1 rfl
  have p2 := hbk.cell 2 rfl
  have p3 := hbk.cell 3 rfl
  have p4 := hbk.cell 4 rfl
  have p5 := hbk.cell 5 rfl
  have lp := hbk.lt
  clear hbk
  go_enter Try.func8, Try.ntmps8
  go_upto_region 1 with fail
  try rw [hw0]
  try rw [hbx]
  try rw [hw1]
  try rw [hby]
  clear hw0 hbx hw1 hby
  go_wp2_with fail
  refine (gencode_any w1 ⟨gc, gk, gs, ga, gd, bo⟩ a n c HN.out HR.out HG.out (by omega)).mono ?_
  rintro e w2 ⟨v1, rfl, hF, hm2, a3, c3, rfl⟩
  obtain ⟨en, hen⟩ : ∃ x, encG ⟨gc, gk, gs, ga, gd, bo⟩ = x := ⟨_, rfl⟩
  rw [hen] at hF ⊢
  obtain ⟨X, hX⟩ : ∃ x, en.getD [] = x := ⟨_, rfl⟩
  rw [hX] at hF ⊢
  obtain ⟨L, hL⟩ : ∃ x, X.length = x := ⟨_, rfl⟩
  obtain ⟨er, her⟩ : ∃ z : Int, (if en.isNone = true then (1 : Int) else 0) = z := ⟨_, rfl⟩
  have hx1 : Rd w2 1 (.slice a3 L c3) L (X.map (Value.int .u8)) := by have h := Rd.ofOwn hF; rw [hL] at h; exact h
  rw [hL, her]
  have HEN := Lib.hid hen
  have HXX := Lib.hid hX
  have HL := Lib.hid hL
  have HER := Lib.hid her
  clear hF hen hX hL her
  clear q0 q1 q2 q3 q4 q5 lq
  clear p0 p1 p2 p3 p4 p5 lp
  have hbk := HBX.out.keep hm2 (fun e => e)
  have q0 := hbk.cell 0 rfl
  have q1 := hbk.cell 1 rfl
  have q2 := hbk.cell 2 rfl
  have q3 := hbk.cell 3 rfl
  have q4 := hbk.cell 4 rfl
  have q5 := hbk.cell 5 rfl
  have lq := hbk.lt
  clear hbk
  have hbk := HBY.out.keep hm2 (fun e => e)
  have p0 := hbk.cell 0 rfl
  have p1 := hbk.cell 1 rfl
  have p2 := hbk.cell 2 rfl
  have p3 := hbk.cell 3 rfl
  have p4 := hbk.cell 4 rfl
  have p5 := hbk.cell 5 rfl
  have lp := hbk.lt
  clear hbk
  go_upto_region 5 with fail
  obtain ⟨gx, hg_⟩ : ∃ b, w2.heap.size = b := ⟨_, rfl⟩
  obtain ⟨w3, hw_⟩ : ∃ W, w2.alloc (.cells #[.int .i64 oc, .int .i64 ok, .int .i64 os, .int .i64 oa, .int .i64 od, .slice a2 n2 c2] 44) = W := ⟨_, rfl⟩
  have hm_ : Mod (fun _ => False) w2 w3 := by rw [← hw_]; exact Mod.alloc _ _ _
  have hB_ : Blk w3 gx 44 [.int .i64 oc, .int .i64 ok, .int .i64 os, .int .i64 oa, .int .i64 od, .slice a2 n2 c2] := by rw [← hw_, ← hg_]; exact Blk.new _ _ [.int .i64 oc, .int .i64 ok, .int .i64 os, .int .i64 oa, .int .i64 od, .slice a2 n2 c2]
  have hwx : w.heap.size ≤ gx := by have h1 := HM1.out.size; have h2 := hm2.size; omega
  have hbg : bx ≠ gx := by have h1 := HBX.out.lt; have h2 := hm2.size; omega
  have hgs : w2.heap.size ≤ gx := by omega
  rw [hw_, hg_]
  clear hw_ hg_
  clear q0 q1 q2 q3 q4 q5 lq
  clear p0 p1 p2 p3 p4 p5 lp
  have hmm := hm2.of2 hm_
  have HGX := Lib.hid hB_
  have HM3 := Lib.hid (HM1.out.of2 hmm)
  have HBX3 := Lib.hid (HBX.out.keep hmm (fun e => e))
  have HR3 := Lib.hid (HR.out.keep hmm (fun _ _ e => e))
  have HR23 := Lib.hid (HR2.out.keep hmm (fun _ _ e => e))
  have HX3 := Lib.hid (hx1.keep hm_ (fun _ _ e => e))
  have HAP1 := Lib.hid (fun k (hk : Value.ownBlock (.slice a n c) = some k) (e : k = gx) => (HR.out.keep hm2 (fun _ _ e => e)).lt hk (by omega))
  have HAP2 := Lib.hid (fun k (hk : Value.ownBlock (.slice a2 n2 c2) = some k) (e : k = gx) => (HR2.out.keep hm2 (fun _ _ e => e)).lt hk (by omega))
  have HAPX := Lib.hid (fun k (hk : Value.ownBlock (.slice a3 L c3) = some k) (e : k = gx) => hx1.lt hk (by omega))
  have HMX3 := Lib.hid (Mod.refl (fun k => k = gx) w3)
  clear hmm hm2 hm_ hB_ hx1 HBX HBY HR HR2 HM1
  have hbk := HBX3.out
  have q0 := hbk.cell 0 rfl
  have q1 := hbk.cell 1 rfl
  have q2 := hbk.cell 2 rfl
  have q3 := hbk.cell 3 rfl
  have q4 := hbk.cell 4 rfl
  have q5 := hbk.cell 5 rfl
  have lq := hbk.lt
  clear hbk
  have hbk := HGX.out
  have p0 := hbk.cell 0 rfl
  have p1 := hbk.cell 1 rfl
  have p2 := hbk.cell 2 rfl
  have p3 := hbk.cell 3 rfl
  have p4 := hbk.cell 4 rfl
  have p5 := hbk.cell 5 rfl
  have fp0 := hbk.free 0
  have fp1 := hbk.free 1
  have fp2 := hbk.free 2
  have fp3 := hbk.free 3
  have fp4 := hbk.free 4
  have fp5 := hbk.free 5
  have lp := hbk.lt
  clear hbk
  go_region
  clear q0 q1 q2 q3 q4 q5 lq
  clear p0 p1 p2 p3 p4 p5 fp0 fp1 fp2 fp3 fp4 fp5 lp
  obtain ⟨w4, hw_⟩ : ∃ W, World.drew (World.setCell (World.setCell (w3) ⟨gx, 1, none⟩ (.int .i64 gk)) ⟨gx, 0, none⟩ (.int .i64 gc)) = W := ⟨_, rfl⟩
  rw [hw_]
  have hs_ : Mod (fun k => k = gx) w3 w4 := by rw [← hw_]; exact (((Mod.setCell (F := fun k => k = gx) (w3) ⟨gx, 1, none⟩ (.int .i64 gk) rfl).trans (Mod.setCell (F := fun k => k = gx) (World.setCell (w3) ⟨gx, 1, none⟩ (.int .i64 gk)) ⟨gx, 0, none⟩ (.int .i64 gc) rfl) (fun _ _ e => e) (fun _ _ e => e)).thenDrew)
  have HGX4 := Lib.hid (show Blk w4 gx 44 [.int .i64 gc, .int .i64 gk, .int .i64 os, .int .i64 oa, .int .i64 od, .slice a2 n2 c2] from by rw [← hw_]; exact ((HGX.out.set 1 (.int .i64 gk)).set 0 (.int .i64 gc)))
  have HMX4 := Lib.hid (HMX3.out.trans hs_ (fun _ _ e => e) (fun _ _ e => e))
  clear hs_ hw_
  have hbk := HBX3.out.keep HMX4.out (fun e => hbg e)
  have q0 := hbk.cell 0 rfl
  have q1 := hbk.cell 1 rfl
  have q2 := hbk.cell 2 rfl
  have q3 := hbk.cell 3 rfl
  have q4 := hbk.cell 4 rfl
  have q5 := hbk.cell 5 rfl
  have lq := hbk.lt
  clear hbk
  have hbk := HGX4.out
  have p0 := hbk.cell 0 rfl
  have p1 := hbk.cell 1 rfl
  have p2 := hbk.cell 2 rfl
  have p3 := hbk.cell 3 rfl
  have p4 := hbk.cell 4 rfl
  have p5 := hbk.cell 5 rfl
  have fp0 := hbk.free 0
  have fp1 := hbk.free 1
  have fp2 := hbk.free 2
  have fp3 := hbk.free 3
  have fp4 := hbk.free 4
  have fp5 := hbk.free 5
  have lp := hbk.lt
  clear hbk
  go_upto_block 0 with fail
  clear q0 q1 q2 q3 q4 q5 lq
  clear p0 p1 p2 p3 p4 p5 fp0 fp1 fp2 fp3 fp4 fp5 lp
  go_cut [38] (fun _ wx => ∃ (xs xa xd : Int) (ax : Option Addr) (nx cx : Nat) (xb : List Int), Blk wx gx 44 [.int .i64 gc, .int .i64 gk, .int .i64 xs, .int .i64 xa, .int .i64 xd, .slice ax nx cx] ∧ xb.length = nx ∧ nx ≤ 300 ∧ (∀ y ∈ xb, 0 ≤ y ∧ y < 256) ∧ Rd w3 1 (.slice ax nx cx) nx (xb.map (Value.int .u8)) ∧ (∀ k, Value.ownBlock (.slice ax nx cx) = some k → k = gx → xb.map (Value.int .u8) = []) ∧ encG ⟨gc, gk, xs, xa, xd, xb⟩ = encG ⟨gc, gk, gs, ga, gd, bo⟩ ∧ Mod (fun k => k = gx) w3 wx)
  case first =>
    by_cases k1 : gk = 1
    case pos =>
      have z1 : (gk == 1) = true := by rw [k1]; rfl
      have K1 := Lib.hid k1
      clear k1
      have hbk := HBX3.out.keep HMX4.out (fun e => hbg e)
      have q0 := hbk.cell 0 rfl
      have q1 := hbk.cell 1 rfl
      have q2 := hbk.cell 2 rfl
      have q3 := hbk.cell 3 rfl
      have q4 := hbk.cell 4 rfl
      have q5 := hbk.cell 5 rfl
      have lq := hbk.lt
      clear hbk
      have hbk := HGX4.out
      have p0 := hbk.cell 0 rfl
      have p1 := hbk.cell 1 rfl
      have p2 := hbk.cell 2 rfl
      have p3 := hbk.cell 3 rfl
      have p4 := hbk.cell 4 rfl
      have p5 := hbk.cell 5 rfl
      have fp0 := hbk.free 0
      have fp1 := hbk.free 1
      have fp2 := hbk.free 2
      have fp3 := hbk.free 3
      have fp4 := hbk.free 4
      have fp5 := hbk.free 5
      have lp := hbk.lt
      clear hbk
      go_upto_region 8 with fail
      go_region
      clear q0 q1 q2 q3 q4 q5 lq
      clear p0 p1 p2 p3 p4 p5 fp0 fp1 fp2 fp3 fp4 fp5 lp
      obtain ⟨w5, hw_⟩ : ∃ W, World.drew (World.setCell (World.setCell (World.setCell (w4) ⟨gx, 2, none⟩ (.int .i64 gs)) ⟨gx, 3, none⟩ (.int .i64 ga)) ⟨gx, 5, none⟩ (.slice a n c)) = W := ⟨_, rfl⟩
      rw [hw_]
      have hs_ : Mod (fun k => k = gx) w4 w5 := by rw [← hw_]; exact ((((Mod.setCell (F := fun k => k = gx) (w4) ⟨gx, 2, none⟩ (.int .i64 gs) rfl).trans (Mod.setCell (F := fun k => k = gx) (World.setCell (w4) ⟨gx, 2, none⟩ (.int .i64 gs)) ⟨gx, 3, none⟩ (.int .i64 ga) rfl) (fun _ _ e => e) (fun _ _ e => e)).trans (Mod.setCell (F := fun k => k = gx) (World.setCell (World.setCell (w4) ⟨gx, 2, none⟩ (.int .i64 gs)) ⟨gx, 3, none⟩ (.int .i64 ga)) ⟨gx, 5, none⟩ (.slice a n c) rfl) (fun _ _ e => e) (fun _ _ e => e)).thenDrew)
      have HGX5 := Lib.hid (show Blk w5 gx 44 [.int .i64 gc, .int .i64 gk, .int .i64 gs, .int .i64 ga, .int .i64 od, .slice a n c] from by rw [← hw_]; exact (((HGX4.out.set 2 (.int .i64 gs)).set 3 (.int .i64 ga)).set 5 (.slice a n c)))
      have HMX5 := Lib.hid (HMX4.out.trans hs_ (fun _ _ e => e) (fun _ _ e => e))
      clear hs_ hw_
      go_wp2_with fail
      go_meet
      exact ⟨gs, ga, od, a, n, c, bo, HGX5.out, HN.out, hlen0, HG.out, HR3.out, HAP1.out, by rw [K1.out]; rfl, HMX5.out⟩
    case neg =>
      have z1 : (gk == 1) = false := beq_eq_false_iff_ne.2 k1
      have K1 := Lib.hid k1
      clear k1
      by_cases k2 : gk = 2
      case pos =>
        have z2 : (gk == 2) = true := by rw [k2]; rfl
        have K2 := Lib.hid k2
        clear k2
        have hbk := HBX3.out.keep HMX4.out (fun e => hbg e)
        have q0 := hbk.cell 0 rfl
        have q1 := hbk.cell 1 rfl
        have q2 := hbk.cell 2 rfl
        have q3 := hbk.cell 3 rfl
        have q4 := hbk.cell 4 rfl
        have q5 := hbk.cell 5 rfl
        have lq := hbk.lt
        clear hbk
        have hbk := HGX4.out
        have p0 := hbk.cell 0 rfl
        have p1 := hbk.cell 1 rfl
        have p2 := hbk.cell 2 rfl
        have p3 := hbk.cell 3 rfl
        have p4 := hbk.cell 4 rfl
        have p5 := hbk.cell 5 rfl
        have fp0 := hbk.free 0
        have fp1 := hbk.free 1
        have fp2 := hbk.free 2
        have fp3 := hbk.free 3
        have fp4 := hbk.free 4
        have fp5 := hbk.free 5
        have lp := hbk.lt
        clear hbk
        go_wp2_with fail
        go_meet
        refine ⟨os, ga, od, a2, n2, c2, b2, ?_, HN2.out, hlen1, HG2.out, HR23.out, HAP2.out, by rw [K2.out]; rfl, ?_⟩
        · exact HGX4.out.set 3 (.int .i64 ga)
        · exact HMX4.out.trans (Mod.setCell (F := fun k => k = gx) _ ⟨gx, 3, none⟩ _ rfl) (fun _ _ e => e) (fun _ _ e => e)
      case neg =>
        have z2 : (gk == 2) = false := beq_eq_false_iff_ne.2 k2
        have K2 := Lib.hid k2
        clear k2
        by_cases k3 : gk = 3
        case pos =>
          have z3 : (gk == 3) = true := by rw [k3]; rfl
          have K3 := Lib.hid k3
          clear k3
          have hbk := HBX3.out.keep HMX4.out (fun e => hbg e)
          have q0 := hbk.cell 0 rfl
          have q1 := hbk.cell 1 rfl
          have q2 := hbk.cell 2 rfl
          have q3 := hbk.cell 3 rfl
          have q4 := hbk.cell 4 rfl
          have q5 := hbk.cell 5 rfl
          have lq := hbk.lt
          clear hbk
          have hbk := HGX4.out
          have p0 := hbk.cell 0 rfl
          have p1 := hbk.cell 1 rfl
          have p2 := hbk.cell 2 rfl
          have p3 := hbk.cell 3 rfl
          have p4 := hbk.cell 4 rfl
          have p5 := hbk.cell 5 rfl
          have fp0 := hbk.free 0
          have fp1 := hbk.free 1
          have fp2 := hbk.free 2
          have fp3 := hbk.free 3
          have fp4 := hbk.free 4
          have fp5 := hbk.free 5
          have lp := hbk.lt
          clear hbk
          go_wp2_with fail
          go_meet
          refine ⟨os, oa, gd, a2, n2, c2, b2, ?_, HN2.out, hlen1, HG2.out, HR23.out, HAP2.out, by rw [K3.out]; rfl, ?_⟩
          · exact HGX4.out.set 4 (.int .i64 gd)
          · exact HMX4.out.trans (Mod.setCell (F := fun k => k = gx) _ ⟨gx, 4, none⟩ _ rfl) (fun _ _ e => e) (fun _ _ e => e)
        case neg =>
          have z3 : (gk == 3) = false := beq_eq_false_iff_ne.2 k3
          have K3 := Lib.hid k3
          clear k3
          have hbk := HBX3.out.keep HMX4.out (fun e => hbg e)
          have q0 := hbk.cell 0 rfl
          have q1 := hbk.cell 1 rfl
          have q2 := hbk.cell 2 rfl
          have q3 := hbk.cell 3 rfl
          have q4 := hbk.cell 4 rfl
          have q5 := hbk.cell 5 rfl
          have lq := hbk.lt
          clear hbk
          go_wp2_with fail
          go_meet
          exact ⟨os, oa, od, a2, n2, c2, b2, HGX4.out, HN2.out, hlen1, HG2.out, HR23.out, HAP2.out, by unfold encG gBody; simp only; rw [if_neg K1.out, if_neg K2.out, if_neg K3.out, if_neg K1.out, if_neg K2.out, if_neg K3.out], HMX4.out⟩
  case rest =>
    obtain ⟨xs, xa, xd, ax, nx, cx, xb, hgx, hxn, hx300, hxg, hxr, hxa, hxe, hmx⟩ := hcut
    have HEX : Hid (encG ⟨gc, gk, xs, xa, xd, xb⟩ = en) := Lib.hid (by rw [hxe]; exact HEN.out)
    have HXN := Lib.hid hxn
    have HXG := Lib.hid hxg
    have HXR := Lib.hid (hxr.keepA hmx hxa)
    have HMX := Lib.hid hmx
    have HGX9 := Lib.hid hgx
    have HX9 := Lib.hid (HX3.out.keepA hmx HAPX.out)
    have HR9 := Lib.hid (HR3.out.keepA hmx HAP1.out)
    have HBX9 := Lib.hid (HBX3.out.keep hmx (fun e => hbg e))
    have HM9 := Lib.hid (HM3.out.old hmx (fun i hi => by rw [hi]; exact hwx))
    clear hgx hxn hxg hxr hxa hxe hmx
    have hbk := HGX9.out
    have p0 := hbk.cell 0 rfl
    have p1 := hbk.cell 1 rfl
    have p2 := hbk.cell 2 rfl
    have p3 := hbk.cell 3 rfl
    have p4 := hbk.cell 4 rfl
    have p5 := hbk.cell 5 rfl
    have lp := hbk.lt
    clear hbk
    go_wp2_with fail
    refine (gencode_any wc ⟨gc, gk, xs, xa, xd, xb⟩ ax nx cx HXN.out HXR.out HXG.out (by omega)).mono ?_
    rintro e w10 ⟨v8, rfl, hF, hm10, a8, c8, rfl⟩
    rw [HEX.out, HXX.out] at hF
    rw [HEX.out, HXX.out]
    have hx8 : Rd w10 1 (.slice a8 L c8) L (X.map (Value.int .u8)) := by have h := Rd.ofOwn hF; rw [HL.out] at h; exact h
    rw [HL.out, HER.out]
    clear p0 p1 p2 p3 p4 p5 lp
    have hx3 := HX9.out.keep hm10 (fun _ _ e => e)
    have HX8 := Lib.hid hx8
    have HR10 := Lib.hid (HR9.out.keep hm10 (fun _ _ e => e))
    have HBX10 := Lib.hid (HBX9.out.keep hm10 (fun e => e))
    have HM10 := Lib.hid (HM9.out.of2 hm10)
    have k1 := run_strS w10 27 9 5 Try.underlying27 Try.underlying5 Try.underlying9 hx3
    have k2 := run_strS w10 27 9 5 Try.underlying27 Try.underlying5 Try.underlying9 hx8
    obtain ⟨Y, hY⟩ : ∃ Y, strOf X = Y := ⟨_, rfl⟩
    rw [hY] at k1 k2
    have zer : (er != er) = false := by simp
    clear hY hF hx3 hx8 hm10 HX9 HR9 HBX9 HM9
    go_upto_region 16 with fail
    clear k1 k2 zer
    cases hen : en with
    | none =>
      have her := HER.out
      rw [hen] at her
      replace her : (1 : Int) = er := her
      subst her
      clear hen
      go_wp2_with fail
      refine (awake23_any _).mono ?_
      rintro e w' ⟨rfl, hmz⟩
      go_wp2_with fail
      go_ret
      exact ⟨rfl, HM10.out.of2 hmz⟩
    | some bs =>
      have her := HER.out
      rw [hen] at her
      replace her : (0 : Int) = er := her
      subst her
      have hxx := HXX.out
      rw [hen] at hxx
      replace hxx : bs = X := hxx
      subst hxx
      have he2 := HEN.out
      rw [hen] at he2
      obtain ⟨hd1, hd2, hd3⟩ := dec_enc he2
      have hrg := encG_range (g := ⟨gc, gk, gs, ga, gd, bo⟩) HG.out he2
      rw [HL.out] at hd3
      have HD1 := Lib.hid hd1
      have HRG := Lib.hid hrg
      have hL4 : L ≤ 100000 := by have h := HN.out; simp only at hd3; split at hd3 <;> omega
      clear hd1 hrg hen he2 HEN HEX
      rcases hd2 with hk | hk | hk
      · replace hk : gk = 1 := hk
        subst hk
        go_wp2_with fail
        refine (gdecode_any w10 a8 L c8 bs HL.out HX8.out HRG.out (by omega)).mono ?_
        rintro e w11 ⟨a9, c9, rfl, hF, hm11⟩
        rw [HD1.out] at hF
        rw [HD1.out]
        have HR11 := Lib.hid (HR10.out.keep hm11 (fun _ _ e => e))
        have HBX11 := Lib.hid (HBX10.out.keep hm11 (fun e => e))
        have HM11 := Lib.hid (HM10.out.of2 hm11)
        have hx9 : Rd w11 1 (.slice a9 n c9) n (bo.map (Value.int .u8)) := by have h := Rd.ofOwn hF; rw [show (normG ⟨gc, 1, gs, ga, gd, bo⟩).body = bo from rfl, HN.out] at h; exact h
        rw [show gramV (normG ⟨gc, 1, gs, ga, gd, bo⟩) a9 (normG ⟨gc, 1, gs, ga, gd, bo⟩).body.length c9 = .agg #[.int .i64 gc, .int .i64 1, .int .i64 gs, .int .i64 ga, .int .i64 0, .slice a9 n c9] from by rw [← HN.out]; rfl]
        go_upto_region 19 with fail
        obtain ⟨gy, hg_⟩ : ∃ b, w11.heap.size = b := ⟨_, rfl⟩
        obtain ⟨w12, hw_⟩ : ∃ W, w11.alloc (.cells #[.int .i64 gc, .int .i64 1, .int .i64 gs, .int .i64 ga, .int .i64 0, .slice a9 n c9] 44) = W := ⟨_, rfl⟩
        have hm_ : Mod (fun _ => False) w11 w12 := by rw [← hw_]; exact Mod.alloc _ _ _
        have hB_ : Blk w12 gy 44 [.int .i64 gc, .int .i64 1, .int .i64 gs, .int .i64 ga, .int .i64 0, .slice a9 n c9] := by rw [← hw_, ← hg_]; exact Blk.new _ _ [.int .i64 gc, .int .i64 1, .int .i64 gs, .int .i64 ga, .int .i64 0, .slice a9 n c9]
        rw [hw_, hg_]
        clear hw_ hg_
        have hbk := HBX11.out.keep hm_ (fun e => e)
        have q0 := hbk.cell 0 rfl
        have q1 := hbk.cell 1 rfl
        have q2 := hbk.cell 2 rfl
        have q3 := hbk.cell 3 rfl
        have q4 := hbk.cell 4 rfl
        have q5 := hbk.cell 5 rfl
        have lq := hbk.lt
        clear hbk
        have hbk := hB_
        have p0 := hbk.cell 0 rfl
        have p1 := hbk.cell 1 rfl
        have p2 := hbk.cell 2 rfl
        have p3 := hbk.cell 3 rfl
        have p4 := hbk.cell 4 rfl
        have p5 := hbk.cell 5 rfl
        have lp := hbk.lt
        clear hbk
        have k1 := run_strS w12 27 9 5 Try.underlying27 Try.underlying5 Try.underlying9 (hx9.keep hm_ (fun _ _ e => e))
        have k2 := run_strS w12 27 9 5 Try.underlying27 Try.underlying5 Try.underlying9 (HR11.out.keep hm_ (fun _ _ e => e))
        obtain ⟨Y, hY⟩ : ∃ Y, strOf bo = Y := ⟨_, rfl⟩
        rw [hY] at k1 k2
        clear hY hx9
        have zl : ((L : Int) == 21 + (n : Int)) = true := by have h := HN.out; simp only [if_true] at hd3; rw [beq_iff_eq]; omega
        have HM12 := Lib.hid (HM11.out.of2 hm_)
        clear hF hm11 hm_ hB_ hd3
        simp only [List.append]
        go_wp2_with fail
        refine (awake23_any _).mono ?_
        rintro e w' ⟨rfl, hmz⟩
        go_wp2_with fail
        go_ret
        exact ⟨rfl, HM12.out.of2 hmz⟩
      · replace hk : gk = 2 := hk
        subst hk
        go_wp2_with fail
        refine (gdecode_any w10 a8 L c8 bs HL.out HX8.out HRG.out (by omega)).mono ?_
        rintro e w11 ⟨a9, c9, rfl, hF, hm11⟩
        rw [HD1.out] at hF
        rw [HD1.out]
        have HR11 := Lib.hid (HR10.out.keep hm11 (fun _ _ e => e))
        have HBX11 := Lib.hid (HBX10.out.keep hm11 (fun e => e))
        have HM11 := Lib.hid (HM10.out.of2 hm11)
        rw [show gramV (normG ⟨gc, 2, gs, ga, gd, bo⟩) a9 (normG ⟨gc, 2, gs, ga, gd, bo⟩).body.length c9 = .agg #[.int .i64 gc, .int .i64 2, .int .i64 0, .int .i64 ga, .int .i64 0, .slice a9 0 c9] from rfl]
        go_upto_region 19 with fail
        obtain ⟨gy, hg_⟩ : ∃ b, w11.heap.size = b := ⟨_, rfl⟩
        obtain ⟨w12, hw_⟩ : ∃ W, w11.alloc (.cells #[.int .i64 gc, .int .i64 2, .int .i64 0, .int .i64 ga, .int .i64 0, .slice a9 0 c9] 44) = W := ⟨_, rfl⟩
        have hm_ : Mod (fun _ => False) w11 w12 := by rw [← hw_]; exact Mod.alloc _ _ _
        have hB_ : Blk w12 gy 44 [.int .i64 gc, .int .i64 2, .int .i64 0, .int .i64 ga, .int .i64 0, .slice a9 0 c9] := by rw [← hw_, ← hg_]; exact Blk.new _ _ [.int .i64 gc, .int .i64 2, .int .i64 0, .int .i64 ga, .int .i64 0, .slice a9 0 c9]
        rw [hw_, hg_]
        clear hw_ hg_
        have hbk := HBX11.out.keep hm_ (fun e => e)
        have q0 := hbk.cell 0 rfl
        have q1 := hbk.cell 1 rfl
        have q2 := hbk.cell 2 rfl
        have q3 := hbk.cell 3 rfl
        have q4 := hbk.cell 4 rfl
        have q5 := hbk.cell 5 rfl
        have lq := hbk.lt
        clear hbk
        have hbk := hB_
        have p0 := hbk.cell 0 rfl
        have p1 := hbk.cell 1 rfl
        have p2 := hbk.cell 2 rfl
        have p3 := hbk.cell 3 rfl
        have p4 := hbk.cell 4 rfl
        have p5 := hbk.cell 5 rfl
        have lp := hbk.lt
        clear hbk
        have zl : ((L : Int) == 17) = true := by simp at hd3; rw [beq_iff_eq]; omega
        have HM12 := Lib.hid (HM11.out.of2 hm_)
        clear hF hm11 hm_ hB_ hd3
        simp only [List.append]
        go_wp2_with fail
        refine (awake23_any _).mono ?_
        rintro e w' ⟨rfl, hmz⟩
        go_wp2_with fail
        go_ret
        exact ⟨rfl, HM12.out.of2 hmz⟩
      · replace hk : gk = 3 := hk
        subst hk
        go_wp2_with fail
        refine (gdecode_any w10 a8 L c8 bs HL.out HX8.out HRG.out (by omega)).mono ?_
        rintro e w11 ⟨a9, c9, rfl, hF, hm11⟩
        rw [HD1.out] at hF
        rw [HD1.out]
        have HR11 := Lib.hid (HR10.out.keep hm11 (fun _ _ e => e))
        have HBX11 := Lib.hid (HBX10.out.keep hm11 (fun e => e))
        have HM11 := Lib.hid (HM10.out.of2 hm11)
        rw [show gramV (normG ⟨gc, 3, gs, ga, gd, bo⟩) a9 (normG ⟨gc, 3, gs, ga, gd, bo⟩).body.length c9 = .agg #[.int .i64 gc, .int .i64 3, .int .i64 0, .int .i64 0, .int .i64 gd, .slice a9 0 c9] from rfl]
        go_upto_region 19 with fail
        obtain ⟨gy, hg_⟩ : ∃ b, w11.heap.size = b := ⟨_, rfl⟩
        obtain ⟨w12, hw_⟩ : ∃ W, w11.alloc (.cells #[.int .i64 gc, .int .i64 3, .int .i64 0, .int .i64 0, .int .i64 gd, .slice a9 0 c9] 44) = W := ⟨_, rfl⟩
        have hm_ : Mod (fun _ => False) w11 w12 := by rw [← hw_]; exact Mod.alloc _ _ _
        have hB_ : Blk w12 gy 44 [.int .i64 gc, .int .i64 3, .int .i64 0, .int .i64 0, .int .i64 gd, .slice a9 0 c9] := by rw [← hw_, ← hg_]; exact Blk.new _ _ [.int .i64 gc, .int .i64 3, .int .i64 0, .int .i64 0, .int .i64 gd, .slice a9 0 c9]
        rw [hw_, hg_]
        clear hw_ hg_
        have hbk := HBX11.out.keep hm_ (fun e => e)
        have q0 := hbk.cell 0 rfl
        have q1 := hbk.cell 1 rfl
        have q2 := hbk.cell 2 rfl
        have q3 := hbk.cell 3 rfl
        have q4 := hbk.cell 4 rfl
        have q5 := hbk.cell 5 rfl
        have lq := hbk.lt
        clear hbk
        have hbk := hB_
        have p0 := hbk.cell 0 rfl
        have p1 := hbk.cell 1 rfl
        have p2 := hbk.cell 2 rfl
        have p3 := hbk.cell 3 rfl
        have p4 := hbk.cell 4 rfl
        have p5 := hbk.cell 5 rfl
        have lp := hbk.lt
        clear hbk
        have zl : ((L : Int) == 14) = true := by simp at hd3; rw [beq_iff_eq]; omega
        have HM12 := Lib.hid (HM11.out.of2 hm_)
        clear hF hm11 hm_ hB_ hd3
        simp only [List.append]
        go_wp2_with fail
        refine (awake23_any _).mono ?_
        rintro e w' ⟨rfl, hmz⟩
        go_wp2_with fail
        go_ret
        exact ⟨rfl, HM12.out.of2 hmz⟩
theorem gfields_law (w : World) (cs : Array Value) (x : GramD) (hcs : cs.toList = encGram.img x) (ok : encGram.ok w x) (cs2 : Array Value) (x2 : GramD) (hcs2 : cs2.toList = encGram.img x2) (ok2 : encGram.ok w x2) :
    Calls Try.prog 8 #[.agg cs, .agg cs2] w fun e w' => e = .returned (.bool true) ∧ Below w.heap.size w w' := by
  obtain ⟨g, a, n, c, hv, hn, hr, hb⟩ := gram_in hcs ok
  obtain ⟨g2, a2, n2, c2, hv2, hn2, hr2, hb2⟩ := gram_in hcs2 ok2
  rw [hv, hv2]
  exact (gfields_all w g a n c hn hr hb g2 a2 n2 c2 hn2 hr2 hb2).mono fun e w' h => ⟨h.1, h.2.below (Nat.le_refl _) (fun _ e => e.elim)⟩
end Go.Proofs.Ytabfmnlpipbegaa
