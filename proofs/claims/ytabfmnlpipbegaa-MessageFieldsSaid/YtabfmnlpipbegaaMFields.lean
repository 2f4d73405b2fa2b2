/- MessageFields walked. -/
import Derived.Test.YtabfmnlpipbegaaMsgA
import Derived.Test.YtabfmnlpipbegaaInts
import Derived.Deep.DeepCutAuto
import Derived.Deep.CutBlock
namespace Go.Proofs.Ytabfmnlpipbegaa
open Go.RowKit Mile
set_option maxRecDepth 100000
set_option maxHeartbeats 32000000 in
theorem mfields_all (w : World) (g : MsD) (a : Option Addr) (n c : Nat) (hn : g.edges.length = n) (hr : Rd w 1 (.slice a n c) n (g.edges.map (Value.int .i64))) (hb : -9223372036854775808 ≤ g.he ∧ g.he ≤ 9223372036854775807)
    (o : MsD) (a2 : Option Addr) (n2 c2 : Nat) (hn2 : o.edges.length = n2) (hr2 : Rd w 1 (.slice a2 n2 c2) n2 (o.edges.map (Value.int .i64))) (hb2 : -9223372036854775808 ≤ o.he ∧ o.he ≤ 9223372036854775807) :
    Calls Try.prog 5 #[msgV g a n c, msgV o a2 n2 c2] w fun e w' => e = .returned (.bool true) ∧ Mod (fun _ => False) w w' := by
  obtain ⟨mk, mp, md, ed, mw, mc, me, mf, ml⟩ := g
  obtain ⟨yk, yp, yd, ye, yw, yc, yh, yf, yl⟩ := o
  replace hn : ed.length = n := hn
  replace hr : Rd w 1 (.slice a n c) n (ed.map (Value.int .i64)) := hr
  replace hb : -9223372036854775808 ≤ me ∧ me ≤ 9223372036854775807 := hb
  replace hn2 : ye.length = n2 := hn2
  replace hr2 : Rd w 1 (.slice a2 n2 c2) n2 (ye.map (Value.int .i64)) := hr2
  replace hb2 : -9223372036854775808 ≤ yh ∧ yh ≤ 9223372036854775807 := hb2
  unfold msgV
  simp only
  obtain ⟨bx, hbx⟩ : ∃ b, w.heap.size = b := ⟨_, rfl⟩
  obtain ⟨w0, hw0⟩ : ∃ W, w.alloc (.cells #[.int .i64 mk, .int .i64 mp, .int .i64 md, .slice a n c, .int .i64 mw, .int .i64 mc, .int .i64 me, .int .i64 mf, .int .i64 ml] 26) = W := ⟨_, rfl⟩
  obtain ⟨by_, hby⟩ : ∃ b, w0.heap.size = b := ⟨_, rfl⟩
  obtain ⟨w1, hw1⟩ : ∃ W, w0.alloc (.cells #[.int .i64 yk, .int .i64 yp, .int .i64 yd, .slice a2 n2 c2, .int .i64 yw, .int .i64 yc, .int .i64 yh, .int .i64 yf, .int .i64 yl] 26) = W := ⟨_, rfl⟩
  have hm0 : Mod (fun _ => False) w w0 := by rw [← hw0]; exact Mod.alloc _ _ _
  have hm1 : Mod (fun _ => False) w0 w1 := by rw [← hw1]; exact Mod.alloc _ _ _
  have hB1 : Blk w0 bx 26 [.int .i64 mk, .int .i64 mp, .int .i64 md, .slice a n c, .int .i64 mw, .int .i64 mc, .int .i64 me, .int .i64 mf, .int .i64 ml] := by rw [← hw0, ← hbx]; exact Blk.new _ _ [.int .i64 mk, .int .i64 mp, .int .i64 md, .slice a n c, .int .i64 mw, .int .i64 mc, .int .i64 me, .int .i64 mf, .int .i64 ml]
  have hB2 : Blk w1 by_ 26 [.int .i64 yk, .int .i64 yp, .int .i64 yd, .slice a2 n2 c2, .int .i64 yw, .int .i64 yc, .int .i64 yh, .int .i64 yf, .int .i64 yl] := by rw [← hw1, ← hby]; exact Blk.new _ _ [.int .i64 yk, .int .i64 yp, .int .i64 yd, .slice a2 n2 c2, .int .i64 yw, .int .i64 yc, .int .i64 yh, .int .i64 yf, .int .i64 yl]
  have hm01 := hm0.of2 hm1
  have HBX := Lib.hid (hB1.keep hm1 (fun e => e))
  have HBY := Lib.hid hB2
  have HM1 := Lib.hid hm01
  have HR := Lib.hid (hr.keep hm01 (fun _ _ e => e))
  have HR2 := Lib.hid (hr2.keep hm01 (fun _ _ e => e))
  have HN := Lib.hid hn
  have HN2 := Lib.hid hn2
  have HG := Lib.hid hb
  have HG2 := Lib.hid hb2
  clear hB1 hB2 hm0 hm1 hm01 hr hr2 hn hn2 hb hb2
  by_cases hlen0 : n ≤ 100
  case neg =>
    have z0 : decide (100 < (n : Int)) = true := by simp; omega
    have hbk := HBX.out
    have q0 := hbk.cell 0 rfl
    have q1 := hbk.cell 1 rfl
    have q2 := hbk.cell 2 rfl
    have q3 := hbk.cell 3 rfl
    have q4 := hbk.cell 4 rfl
    have q5 := hbk.cell 5 rfl
    have q6 := hbk.cell 6 rfl
    have q7 := hbk.cell 7 rfl
    have q8 := hbk.cell 8 rfl
    have lq := hbk.lt
    clear hbk
    have hbk := HBY.out
    have p0 := hbk.cell 0 rfl
    have p1 := hbk.cell 1 rfl
    have p2 := hbk.cell 2 rfl
    have p3 := hbk.cell 3 rfl
    have p4 := hbk.cell 4 rfl
    have p5 := hbk.cell 5 rfl
    have p6 := hbk.cell 6 rfl
    have p7 := hbk.cell 7 rfl
    have p8 := hbk.cell 8 rfl
    have lp := hbk.lt
    clear hbk
    go_enter Try.func5, Try.ntmps5
    go_upto_region 1 with fail
    try rw [hw0]
    try rw [hbx]
    try rw [hw1]
    try rw [hby]
    clear hw0 hbx hw1 hby
    go_wp2_with fail
    refine (awake22_any _).mono ?_
    rintro e w' ⟨rfl, hmz⟩
    go_wp2_with fail
    go_ret
    exact ⟨rfl, HM1.out.of2 hmz⟩
  by_cases hlen1 : n2 ≤ 100
  case neg =>
    have y0 : decide (100 < (n : Int)) = false := by simp; omega
    have z0 : decide (100 < (n2 : Int)) = true := by simp; omega
    have hbk := HBX.out
    have q0 := hbk.cell 0 rfl
    have q1 := hbk.cell 1 rfl
    have q2 := hbk.cell 2 rfl
    have q3 := hbk.cell 3 rfl
    have q4 := hbk.cell 4 rfl
    have q5 := hbk.cell 5 rfl
    have q6 := hbk.cell 6 rfl
    have q7 := hbk.cell 7 rfl
    have q8 := hbk.cell 8 rfl
    have lq := hbk.lt
    clear hbk
    have hbk := HBY.out
    have p0 := hbk.cell 0 rfl
    have p1 := hbk.cell 1 rfl
    have p2 := hbk.cell 2 rfl
    have p3 := hbk.cell 3 rfl
    have p4 := hbk.cell 4 rfl
    have p5 := hbk.cell 5 rfl
    have p6 := hbk.cell 6 rfl
    have p7 := hbk.cell 7 rfl
    have p8 := hbk.cell 8 rfl
    have lp := hbk.lt
    clear hbk
    go_enter Try.func5, Try.ntmps5
    go_upto_region 1 with fail
    try rw [hw0]
    try rw [hbx]
    try rw [hw1]
    try rw [hby]
    clear hw0 hbx hw1 hby
    go_wp2_with fail
    refine (awake22_any _).mono ?_
    rintro e w' ⟨rfl, hmz⟩
    go_wp2_with fail
    go_ret
    exact ⟨rfl, HM1.out.of2 hmz⟩
  have y0 : decide (100 < (n : Int)) = false := by simp; omega
  have y1 : decide (100 < (n2 : Int)) = false := by simp; omega
  have hbk := HBX.out
  have q0 := hbk.cell 0 rfl
  have q1 := hbk.cell 1 rfl
  have q2 := hbk.cell 2 rfl
  have q3 := hbk.cell 3 rfl
  have q4 := hbk.cell 4 rfl
  have q5 := hbk.cell 5 rfl
  have q6 := hbk.cell 6 rfl
  have q7 := hbk.cell 7 rfl
  have q8 := hbk.cell 8 rfl
  have lq := hbk.lt
  clear hbk
  have hbk := HBY.out
  have p0 := hbk.cell 0 rfl
  have p1 := hbk.cell 1 rfl
  have p2 := hbk.cell 2 rfl
  have p3 := hbk.cell 3 rfl
  have p4 := hbk.cell 4 rfl
  have p5 := hbk.cell 5 rfl
  have p6 := hbk.cell 6 rfl
  have p7 := hbk.cell 7 rfl
  have p8 := hbk.cell 8 rfl
  have lp := hbk.lt
  clear hbk
  go_enter Try.func5, Try.ntmps5
  go_upto_region 1 with fail
  try rw [hw0]
  try rw [hbx]
  try rw [hw1]
  try rw [hby]
  clear hw0 hbx hw1 hby
  have C10 := mencode_any w1 ⟨mk, mp, md, ed, mw, mc, me, mf, ml⟩ a n c HN.out (HR.out) (by omega) HG.out
  unfold msgV at C10
  simp only at C10
  have C1 := Lib.hid C10
  clear C10
  go_wp2_with fail
  refine C1.out.mono ?_
  clear C1
  rintro e w2 ⟨a3, c3, rfl, hF, hm2⟩
  obtain ⟨en, hen⟩ : ∃ x, mBytes ⟨mk, mp, md, ed, mw, mc, me, mf, ml⟩ = x := ⟨_, rfl⟩
  rw [hen] at hF ⊢
  obtain ⟨X, hX⟩ : ∃ x, en.getD [] = x := ⟨_, rfl⟩
  rw [hX] at hF ⊢
  obtain ⟨L, hL⟩ : ∃ x, X.length = x := ⟨_, rfl⟩
  obtain ⟨er, her⟩ : ∃ z : Int, (if en.isNone = true then (1 : Int) else 0) = z := ⟨_, rfl⟩
  have hx1 : Rd w2 1 (.slice a3 L c3) L (X.map (Value.int .u8)) := by have h := Rd.ofOwn hF; rw [hL] at h; exact h
  rw [hL, her]
  have HEN := Lib.hid hen
  have HXX := Lib.hid hX
  have HL := Lib.hid hL
  have HER := Lib.hid her
  clear hF hen hX hL her
  clear q0 q1 q2 q3 q4 q5 q6 q7 q8 lq
  clear p0 p1 p2 p3 p4 p5 p6 p7 p8 lp
  have hbk := HBX.out.keep hm2 (fun e => e)
  have q0 := hbk.cell 0 rfl
  have q1 := hbk.cell 1 rfl
  have q2 := hbk.cell 2 rfl
  have q3 := hbk.cell 3 rfl
  have q4 := hbk.cell 4 rfl
  have q5 := hbk.cell 5 rfl
  have q6 := hbk.cell 6 rfl
  have q7 := hbk.cell 7 rfl
  have q8 := hbk.cell 8 rfl
  have lq := hbk.lt
  clear hbk
  have hbk := HBY.out.keep hm2 (fun e => e)
  have p0 := hbk.cell 0 rfl
  have p1 := hbk.cell 1 rfl
  have p2 := hbk.cell 2 rfl
  have p3 := hbk.cell 3 rfl
  have p4 := hbk.cell 4 rfl
  have p5 := hbk.cell 5 rfl
  have p6 := hbk.cell 6 rfl
  have p7 := hbk.cell 7 rfl
  have p8 := hbk.cell 8 rfl
  have lp := hbk.lt
  clear hbk
  go_upto_region 5 with fail
  obtain ⟨gx, hg_⟩ : ∃ b, w2.heap.size = b := ⟨_, rfl⟩
  obtain ⟨w3, hw_⟩ : ∃ W, w2.alloc (.cells #[.int .i64 yk, .int .i64 yp, .int .i64 yd, .slice a2 n2 c2, .int .i64 yw, .int .i64 yc, .int .i64 yh, .int .i64 yf, .int .i64 yl] 26) = W := ⟨_, rfl⟩
  have hm_ : Mod (fun _ => False) w2 w3 := by rw [← hw_]; exact Mod.alloc _ _ _
  have hB_ : Blk w3 gx 26 [.int .i64 yk, .int .i64 yp, .int .i64 yd, .slice a2 n2 c2, .int .i64 yw, .int .i64 yc, .int .i64 yh, .int .i64 yf, .int .i64 yl] := by rw [← hw_, ← hg_]; exact Blk.new _ _ [.int .i64 yk, .int .i64 yp, .int .i64 yd, .slice a2 n2 c2, .int .i64 yw, .int .i64 yc, .int .i64 yh, .int .i64 yf, .int .i64 yl]
  have hwx : w.heap.size ≤ gx := by have h1 := HM1.out.size; have h2 := hm2.size; omega
  have hbg : bx ≠ gx := by have h1 := HBX.out.lt; have h2 := hm2.size; omega
  have hgs : w2.heap.size ≤ gx := by omega
  rw [hw_, hg_]
  clear hw_ hg_
  clear q0 q1 q2 q3 q4 q5 q6 q7 q8 lq
  clear p0 p1 p2 p3 p4 p5 p6 p7 p8 lp
  have hmm := hm2.of2 hm_
  have HGX := Lib.hid hB_
  have HM3 := Lib.hid (HM1.out.of2 hmm)
  have HBX3 := Lib.hid (HBX.out.keep hmm (fun e => e))
  have HR3 := Lib.hid (HR.out.keep hmm (fun _ _ e => e))
  have HR23 := Lib.hid (HR2.out.keep hmm (fun _ _ e => e))
  have HX3 := Lib.hid (hx1.keep hm_ (fun _ _ e => e))
  have HAP1 := Lib.hid (fun k (hk : Value.ownBlock (.slice a n c) = some k) (e : k = gx) => (HR.out.keep hm2 (fun _ _ e => e)).lt hk (by omega))
  have HAP2 := Lib.hid (fun k (hk : Value.ownBlock (.slice a2 n2 c2) = some k) (e : k = gx) => (HR2.out.keep hm2 (fun _ _ e => e)).lt hk (by omega))
  have HAPX := Lib.hid (fun k (hk : Value.ownBlock (.slice a3 L c3) = some k) (e : k = gx) => hx1.lt hk (by omega))
  have HMX3 := Lib.hid (Mod.refl (fun k => k = gx) w3)
  clear hmm hm2 hm_ hB_ hx1 HBX HBY HR HR2 HM1
  have hbk := HBX3.out
  have q0 := hbk.cell 0 rfl
  have q1 := hbk.cell 1 rfl
  have q2 := hbk.cell 2 rfl
  have q3 := hbk.cell 3 rfl
  have q4 := hbk.cell 4 rfl
  have q5 := hbk.cell 5 rfl
  have q6 := hbk.cell 6 rfl
  have q7 := hbk.cell 7 rfl
  have q8 := hbk.cell 8 rfl
  have lq := hbk.lt
  clear hbk
  have hbk := HGX.out
  have p0 := hbk.cell 0 rfl
  have p1 := hbk.cell 1 rfl
  have p2 := hbk.cell 2 rfl
  have p3 := hbk.cell 3 rfl
  have p4 := hbk.cell 4 rfl
  have p5 := hbk.cell 5 rfl
  have p6 := hbk.cell 6 rfl
  have p7 := hbk.cell 7 rfl
  have p8 := hbk.cell 8 rfl
  have fp0 := hbk.free 0
  have fp1 := hbk.free 1
  have fp2 := hbk.free 2
  have fp3 := hbk.free 3
  have fp4 := hbk.free 4
  have fp5 := hbk.free 5
  have fp6 := hbk.free 6
  have fp7 := hbk.free 7
  have fp8 := hbk.free 8
  have lp := hbk.lt
  clear hbk
  go_upto_region 6 with fail
  clear q0 q1 q2 q3 q4 q5 q6 q7 q8 lq
  clear p0 p1 p2 p3 p4 p5 p6 p7 p8 fp0 fp1 fp2 fp3 fp4 fp5 fp6 fp7 fp8 lp
  obtain ⟨w4, hw_⟩ : ∃ W, World.setCell (w3) ⟨gx, 0, none⟩ (.int .i64 mk) = W := ⟨_, rfl⟩
  rw [hw_]
  have hs_ : Mod (fun k => k = gx) w3 w4 := by rw [← hw_]; exact (Mod.setCell (F := fun k => k = gx) (w3) ⟨gx, 0, none⟩ (.int .i64 mk) rfl)
  have HGX4 := Lib.hid (show Blk w4 gx 26 [.int .i64 mk, .int .i64 yp, .int .i64 yd, .slice a2 n2 c2, .int .i64 yw, .int .i64 yc, .int .i64 yh, .int .i64 yf, .int .i64 yl] from by rw [← hw_]; exact (HGX.out.set 0 (.int .i64 mk)))
  have HMX4 := Lib.hid (HMX3.out.trans hs_ (fun _ _ e => e) (fun _ _ e => e))
  clear hs_ hw_
  have hbk := HBX3.out.keep HMX4.out (fun e => hbg e)
  have q0 := hbk.cell 0 rfl
  have q1 := hbk.cell 1 rfl
  have q2 := hbk.cell 2 rfl
  have q3 := hbk.cell 3 rfl
  have q4 := hbk.cell 4 rfl
  have q5 := hbk.cell 5 rfl
  have q6 := hbk.cell 6 rfl
  have q7 := hbk.cell 7 rfl
  have q8 := hbk.cell 8 rfl
  have lq := hbk.lt
  clear hbk
  have hbk := HGX4.out
  have p0 := hbk.cell 0 rfl
  have p1 := hbk.cell 1 rfl
  have p2 := hbk.cell 2 rfl
  have p3 := hbk.cell 3 rfl
  have p4 := hbk.cell 4 rfl
  have p5 := hbk.cell 5 rfl
  have p6 := hbk.cell 6 rfl
  have p7 := hbk.cell 7 rfl
  have p8 := hbk.cell 8 rfl
  have fp0 := hbk.free 0
  have fp1 := hbk.free 1
  have fp2 := hbk.free 2
  have fp3 := hbk.free 3
  have fp4 := hbk.free 4
  have fp5 := hbk.free 5
  have fp6 := hbk.free 6
  have fp7 := hbk.free 7
  have fp8 := hbk.free 8
  have lp := hbk.lt
  clear hbk
  go_upto_block 0 with fail
  clear q0 q1 q2 q3 q4 q5 q6 q7 q8 lq
  clear p0 p1 p2 p3 p4 p5 p6 p7 p8 fp0 fp1 fp2 fp3 fp4 fp5 fp6 fp7 fp8 lp
  go_cut [34] (fun _ wx => ∃ (xp xd xw xc xh xf xl : Int) (ax : Option Addr) (nx cx : Nat) (xb : List Int), Blk wx gx 26 [.int .i64 mk, .int .i64 xp, .int .i64 xd, .slice ax nx cx, .int .i64 xw, .int .i64 xc, .int .i64 xh, .int .i64 xf, .int .i64 xl] ∧ xb.length = nx ∧ nx ≤ 100 ∧ (-9223372036854775808 ≤ xh ∧ xh ≤ 9223372036854775807) ∧ Rd w3 1 (.slice ax nx cx) nx (xb.map (Value.int .i64)) ∧ (∀ k, Value.ownBlock (.slice ax nx cx) = some k → k = gx → xb.map (Value.int .i64) = []) ∧ mBytes ⟨mk, xp, xd, xb, xw, xc, xh, xf, xl⟩ = mBytes ⟨mk, mp, md, ed, mw, mc, me, mf, ml⟩ ∧ Mod (fun k => k = gx) w3 wx)
  case first =>
    by_cases k1 : mk = 1
    case pos =>
      have z1 : (mk == 1) = true := by rw [k1]; rfl
      have K1 := Lib.hid k1
      clear k1
      have hbk := HBX3.out.keep HMX4.out (fun e => hbg e)
      have q0 := hbk.cell 0 rfl
      have q1 := hbk.cell 1 rfl
      have q2 := hbk.cell 2 rfl
      have q3 := hbk.cell 3 rfl
      have q4 := hbk.cell 4 rfl
      have q5 := hbk.cell 5 rfl
      have q6 := hbk.cell 6 rfl
      have q7 := hbk.cell 7 rfl
      have q8 := hbk.cell 8 rfl
      have lq := hbk.lt
      clear hbk
      have hbk := HGX4.out
      have p0 := hbk.cell 0 rfl
      have p1 := hbk.cell 1 rfl
      have p2 := hbk.cell 2 rfl
      have p3 := hbk.cell 3 rfl
      have p4 := hbk.cell 4 rfl
      have p5 := hbk.cell 5 rfl
      have p6 := hbk.cell 6 rfl
      have p7 := hbk.cell 7 rfl
      have p8 := hbk.cell 8 rfl
      have fp0 := hbk.free 0
      have fp1 := hbk.free 1
      have fp2 := hbk.free 2
      have fp3 := hbk.free 3
      have fp4 := hbk.free 4
      have fp5 := hbk.free 5
      have fp6 := hbk.free 6
      have fp7 := hbk.free 7
      have fp8 := hbk.free 8
      have lp := hbk.lt
      clear hbk
      go_upto_region 8 with fail
      go_region
      clear q0 q1 q2 q3 q4 q5 q6 q7 q8 lq
      clear p0 p1 p2 p3 p4 p5 p6 p7 p8 fp0 fp1 fp2 fp3 fp4 fp5 fp6 fp7 fp8 lp
      obtain ⟨w5, hw_⟩ : ∃ W, World.drew (World.setCell (World.setCell (w4) ⟨gx, 1, none⟩ (.int .i64 mp)) ⟨gx, 2, none⟩ (.int .i64 md)) = W := ⟨_, rfl⟩
      rw [hw_]
      have hs_ : Mod (fun k => k = gx) w4 w5 := by rw [← hw_]; exact (((Mod.setCell (F := fun k => k = gx) (w4) ⟨gx, 1, none⟩ (.int .i64 mp) rfl).trans (Mod.setCell (F := fun k => k = gx) (World.setCell (w4) ⟨gx, 1, none⟩ (.int .i64 mp)) ⟨gx, 2, none⟩ (.int .i64 md) rfl) (fun _ _ e => e) (fun _ _ e => e)).thenDrew)
      have HGX5 := Lib.hid (show Blk w5 gx 26 [.int .i64 mk, .int .i64 mp, .int .i64 md, .slice a2 n2 c2, .int .i64 yw, .int .i64 yc, .int .i64 yh, .int .i64 yf, .int .i64 yl] from by rw [← hw_]; exact ((HGX4.out.set 1 (.int .i64 mp)).set 2 (.int .i64 md)))
      have HMX5 := Lib.hid (HMX4.out.trans hs_ (fun _ _ e => e) (fun _ _ e => e))
      clear hs_ hw_
      go_wp2_with fail
      go_meet
      exact ⟨mp, md, yw, yc, yh, yf, yl, a2, n2, c2, ye, HGX5.out, HN2.out, hlen1, HG2.out, HR23.out, HAP2.out, by rw [K1.out]; simp [mBytes], HMX5.out⟩
    case neg =>
      have z1 : (mk == 1) = false := beq_eq_false_iff_ne.2 k1
      have K1 := Lib.hid k1
      clear k1
      by_cases k2 : mk = 2
      case pos =>
        have z2 : (mk == 2) = true := by rw [k2]; rfl
        have K2 := Lib.hid k2
        clear k2
        have hbk := HBX3.out.keep HMX4.out (fun e => hbg e)
        have q0 := hbk.cell 0 rfl
        have q1 := hbk.cell 1 rfl
        have q2 := hbk.cell 2 rfl
        have q3 := hbk.cell 3 rfl
        have q4 := hbk.cell 4 rfl
        have q5 := hbk.cell 5 rfl
        have q6 := hbk.cell 6 rfl
        have q7 := hbk.cell 7 rfl
        have q8 := hbk.cell 8 rfl
        have lq := hbk.lt
        clear hbk
        have hbk := HGX4.out
        have p0 := hbk.cell 0 rfl
        have p1 := hbk.cell 1 rfl
        have p2 := hbk.cell 2 rfl
        have p3 := hbk.cell 3 rfl
        have p4 := hbk.cell 4 rfl
        have p5 := hbk.cell 5 rfl
        have p6 := hbk.cell 6 rfl
        have p7 := hbk.cell 7 rfl
        have p8 := hbk.cell 8 rfl
        have fp0 := hbk.free 0
        have fp1 := hbk.free 1
        have fp2 := hbk.free 2
        have fp3 := hbk.free 3
        have fp4 := hbk.free 4
        have fp5 := hbk.free 5
        have fp6 := hbk.free 6
        have fp7 := hbk.free 7
        have fp8 := hbk.free 8
        have lp := hbk.lt
        clear hbk
        go_wp2_with fail
        go_meet
        refine ⟨mp, yd, yw, yc, yh, yf, yl, a2, n2, c2, ye, ?_, HN2.out, hlen1, HG2.out, HR23.out, HAP2.out, by rw [K2.out]; simp [mBytes], ?_⟩
        · exact HGX4.out.set 1 (.int .i64 mp)
        · exact HMX4.out.trans (Mod.setCell (F := fun k => k = gx) _ ⟨gx, 1, none⟩ _ rfl) (fun _ _ e => e) (fun _ _ e => e)
      case neg =>
        have z2 : (mk == 2) = false := beq_eq_false_iff_ne.2 k2
        have K2 := Lib.hid k2
        clear k2
        by_cases k9 : mk = 9
        case pos =>
          have z9 : (mk == 9) = true := by rw [k9]; rfl
          have K9 := Lib.hid k9
          clear k9
          have hbk := HBX3.out.keep HMX4.out (fun e => hbg e)
          have q0 := hbk.cell 0 rfl
          have q1 := hbk.cell 1 rfl
          have q2 := hbk.cell 2 rfl
          have q3 := hbk.cell 3 rfl
          have q4 := hbk.cell 4 rfl
          have q5 := hbk.cell 5 rfl
          have q6 := hbk.cell 6 rfl
          have q7 := hbk.cell 7 rfl
          have q8 := hbk.cell 8 rfl
          have lq := hbk.lt
          clear hbk
          have hbk := HGX4.out
          have p0 := hbk.cell 0 rfl
          have p1 := hbk.cell 1 rfl
          have p2 := hbk.cell 2 rfl
          have p3 := hbk.cell 3 rfl
          have p4 := hbk.cell 4 rfl
          have p5 := hbk.cell 5 rfl
          have p6 := hbk.cell 6 rfl
          have p7 := hbk.cell 7 rfl
          have p8 := hbk.cell 8 rfl
          have fp0 := hbk.free 0
          have fp1 := hbk.free 1
          have fp2 := hbk.free 2
          have fp3 := hbk.free 3
          have fp4 := hbk.free 4
          have fp5 := hbk.free 5
          have fp6 := hbk.free 6
          have fp7 := hbk.free 7
          have fp8 := hbk.free 8
          have lp := hbk.lt
          clear hbk
          go_wp2_with fail
          go_meet
          refine ⟨mp, yd, yw, yc, yh, yf, yl, a2, n2, c2, ye, ?_, HN2.out, hlen1, HG2.out, HR23.out, HAP2.out, by rw [K9.out]; simp [mBytes], ?_⟩
          · exact HGX4.out.set 1 (.int .i64 mp)
          · exact HMX4.out.trans (Mod.setCell (F := fun k => k = gx) _ ⟨gx, 1, none⟩ _ rfl) (fun _ _ e => e) (fun _ _ e => e)
        case neg =>
          have z9 : (mk == 9) = false := beq_eq_false_iff_ne.2 k9
          have K9 := Lib.hid k9
          clear k9
          by_cases k5 : mk = 5
          case pos =>
            have z5 : (mk == 5) = true := by rw [k5]; rfl
            have K5 := Lib.hid k5
            clear k5
            have hbk := HBX3.out.keep HMX4.out (fun e => hbg e)
            have q0 := hbk.cell 0 rfl
            have q1 := hbk.cell 1 rfl
            have q2 := hbk.cell 2 rfl
            have q3 := hbk.cell 3 rfl
            have q4 := hbk.cell 4 rfl
            have q5 := hbk.cell 5 rfl
            have q6 := hbk.cell 6 rfl
            have q7 := hbk.cell 7 rfl
            have q8 := hbk.cell 8 rfl
            have lq := hbk.lt
            clear hbk
            have hbk := HGX4.out
            have p0 := hbk.cell 0 rfl
            have p1 := hbk.cell 1 rfl
            have p2 := hbk.cell 2 rfl
            have p3 := hbk.cell 3 rfl
            have p4 := hbk.cell 4 rfl
            have p5 := hbk.cell 5 rfl
            have p6 := hbk.cell 6 rfl
            have p7 := hbk.cell 7 rfl
            have p8 := hbk.cell 8 rfl
            have fp0 := hbk.free 0
            have fp1 := hbk.free 1
            have fp2 := hbk.free 2
            have fp3 := hbk.free 3
            have fp4 := hbk.free 4
            have fp5 := hbk.free 5
            have fp6 := hbk.free 6
            have fp7 := hbk.free 7
            have fp8 := hbk.free 8
            have lp := hbk.lt
            clear hbk
            go_upto_region 13 with fail
            go_region
            clear q0 q1 q2 q3 q4 q5 q6 q7 q8 lq
            clear p0 p1 p2 p3 p4 p5 p6 p7 p8 fp0 fp1 fp2 fp3 fp4 fp5 fp6 fp7 fp8 lp
            obtain ⟨w5, hw_⟩ : ∃ W, World.drew (World.setCell (World.setCell (w4) ⟨gx, 3, none⟩ (.slice a n c)) ⟨gx, 4, none⟩ (.int .i64 mw)) = W := ⟨_, rfl⟩
            rw [hw_]
            have hs_ : Mod (fun k => k = gx) w4 w5 := by rw [← hw_]; exact (((Mod.setCell (F := fun k => k = gx) (w4) ⟨gx, 3, none⟩ (.slice a n c) rfl).trans (Mod.setCell (F := fun k => k = gx) (World.setCell (w4) ⟨gx, 3, none⟩ (.slice a n c)) ⟨gx, 4, none⟩ (.int .i64 mw) rfl) (fun _ _ e => e) (fun _ _ e => e)).thenDrew)
            have HGX5 := Lib.hid (show Blk w5 gx 26 [.int .i64 mk, .int .i64 yp, .int .i64 yd, .slice a n c, .int .i64 mw, .int .i64 yc, .int .i64 yh, .int .i64 yf, .int .i64 yl] from by rw [← hw_]; exact ((HGX4.out.set 3 (.slice a n c)).set 4 (.int .i64 mw)))
            have HMX5 := Lib.hid (HMX4.out.trans hs_ (fun _ _ e => e) (fun _ _ e => e))
            clear hs_ hw_
            go_wp2_with fail
            go_meet
            exact ⟨yp, yd, mw, yc, yh, yf, yl, a, n, c, ed, HGX5.out, HN.out, hlen0, HG2.out, HR3.out, HAP1.out, by rw [K5.out]; simp [mBytes], HMX5.out⟩
          case neg =>
            have z5 : (mk == 5) = false := beq_eq_false_iff_ne.2 k5
            have K5 := Lib.hid k5
            clear k5
            by_cases k7 : mk = 7
            case pos =>
              have z7 : (mk == 7) = true := by rw [k7]; rfl
              have K7 := Lib.hid k7
              clear k7
              have hbk := HBX3.out.keep HMX4.out (fun e => hbg e)
              have q0 := hbk.cell 0 rfl
              have q1 := hbk.cell 1 rfl
              have q2 := hbk.cell 2 rfl
              have q3 := hbk.cell 3 rfl
              have q4 := hbk.cell 4 rfl
              have q5 := hbk.cell 5 rfl
              have q6 := hbk.cell 6 rfl
              have q7 := hbk.cell 7 rfl
              have q8 := hbk.cell 8 rfl
              have lq := hbk.lt
              clear hbk
              have hbk := HGX4.out
              have p0 := hbk.cell 0 rfl
              have p1 := hbk.cell 1 rfl
              have p2 := hbk.cell 2 rfl
              have p3 := hbk.cell 3 rfl
              have p4 := hbk.cell 4 rfl
              have p5 := hbk.cell 5 rfl
              have p6 := hbk.cell 6 rfl
              have p7 := hbk.cell 7 rfl
              have p8 := hbk.cell 8 rfl
              have fp0 := hbk.free 0
              have fp1 := hbk.free 1
              have fp2 := hbk.free 2
              have fp3 := hbk.free 3
              have fp4 := hbk.free 4
              have fp5 := hbk.free 5
              have fp6 := hbk.free 6
              have fp7 := hbk.free 7
              have fp8 := hbk.free 8
              have lp := hbk.lt
              clear hbk
              go_wp2_with fail
              go_meet
              refine ⟨yp, yd, yw, mc, me, mf, ml, a2, n2, c2, ye, ?_, HN2.out, hlen1, HG.out, HR23.out, HAP2.out, by rw [K7.out]; simp [mBytes], ?_⟩
              · exact (((HGX4.out.set 5 (.int .i64 mc)).set 6 (.int .i64 me)).set 7 (.int .i64 mf)).set 8 (.int .i64 ml)
              · exact ((((HMX4.out.trans (Mod.setCell (F := fun k => k = gx) _ ⟨gx, 5, none⟩ _ rfl) (fun _ _ e => e) (fun _ _ e => e)).trans (Mod.setCell (F := fun k => k = gx) _ ⟨gx, 6, none⟩ _ rfl) (fun _ _ e => e) (fun _ _ e => e)).trans (Mod.setCell (F := fun k => k = gx) _ ⟨gx, 7, none⟩ _ rfl) (fun _ _ e => e) (fun _ _ e => e)).trans (Mod.setCell (F := fun k => k = gx) _ ⟨gx, 8, none⟩ _ rfl) (fun _ _ e => e) (fun _ _ e => e))
            case neg =>
              have z7 : (mk == 7) = false := beq_eq_false_iff_ne.2 k7
              have K7 := Lib.hid k7
              clear k7
              have hbk := HBX3.out.keep HMX4.out (fun e => hbg e)
              have q0 := hbk.cell 0 rfl
              have q1 := hbk.cell 1 rfl
              have q2 := hbk.cell 2 rfl
              have q3 := hbk.cell 3 rfl
              have q4 := hbk.cell 4 rfl
              have q5 := hbk.cell 5 rfl
              have q6 := hbk.cell 6 rfl
              have q7 := hbk.cell 7 rfl
              have q8 := hbk.cell 8 rfl
              have lq := hbk.lt
              clear hbk
              go_wp2_with fail
              go_meet
              exact ⟨yp, yd, yw, yc, yh, yf, yl, a2, n2, c2, ye, HGX4.out, HN2.out, hlen1, HG2.out, HR23.out, HAP2.out, by unfold mBytes; simp only [if_neg K1.out, if_neg (fun h : mk = 2 ∨ mk = 9 => h.elim K2.out K9.out), if_neg K5.out, if_neg K7.out], HMX4.out⟩
  case rest =>
    obtain ⟨xp, xd, xw, xc, xh, xf, xl, ax, nx, cx, xb, hgx, hxn, hx100, hxg, hxr, hxa, hxe, hmx⟩ := hcut
    have HEX : Hid (mBytes ⟨mk, xp, xd, xb, xw, xc, xh, xf, xl⟩ = en) := Lib.hid (by rw [hxe]; exact HEN.out)
    have HXN := Lib.hid hxn
    have HXG := Lib.hid hxg
    have HXR := Lib.hid (hxr.keepA hmx hxa)
    have HMX := Lib.hid hmx
    have HGX9 := Lib.hid hgx
    have HX9 := Lib.hid (HX3.out.keepA hmx HAPX.out)
    have HR9 := Lib.hid (HR3.out.keepA hmx HAP1.out)
    have HBX9 := Lib.hid (HBX3.out.keep hmx (fun e => hbg e))
    have HM9 := Lib.hid (HM3.out.old hmx (fun i hi => by rw [hi]; exact hwx))
    clear hgx hxn hxg hxr hxa hxe hmx
    have hbk := HGX9.out
    have p0 := hbk.cell 0 rfl
    have p1 := hbk.cell 1 rfl
    have p2 := hbk.cell 2 rfl
    have p3 := hbk.cell 3 rfl
    have p4 := hbk.cell 4 rfl
    have p5 := hbk.cell 5 rfl
    have p6 := hbk.cell 6 rfl
    have p7 := hbk.cell 7 rfl
    have p8 := hbk.cell 8 rfl
    have lp := hbk.lt
    clear hbk
    have C20 := mencode_any wc ⟨mk, xp, xd, xb, xw, xc, xh, xf, xl⟩ ax nx cx HXN.out (HXR.out) (by omega) HXG.out
    unfold msgV at C20
    simp only at C20
    have C2 := Lib.hid C20
    clear C20
    go_wp2_with fail
    refine C2.out.mono ?_
    clear C2
    rintro e w10 ⟨a8, c8, rfl, hF, hm10⟩
    rw [HEX.out, HXX.out] at hF
    rw [HEX.out, HXX.out]
    have hx8 : Rd w10 1 (.slice a8 L c8) L (X.map (Value.int .u8)) := by have h := Rd.ofOwn hF; rw [HL.out] at h; exact h
    rw [HL.out, HER.out]
    clear p0 p1 p2 p3 p4 p5 p6 p7 p8 lp
    have hx3 := HX9.out.keep hm10 (fun _ _ e => e)
    have HX8 := Lib.hid hx8
    have HR10 := Lib.hid (HR9.out.keep hm10 (fun _ _ e => e))
    have HBX10 := Lib.hid (HBX9.out.keep hm10 (fun e => e))
    have HM10 := Lib.hid (HM9.out.of2 hm10)
    have k1 := run_strS w10 27 9 5 Try.underlying27 Try.underlying5 Try.underlying9 hx3
    have k2 := run_strS w10 27 9 5 Try.underlying27 Try.underlying5 Try.underlying9 hx8
    obtain ⟨Y, hY⟩ : ∃ Y, strOf X = Y := ⟨_, rfl⟩
    rw [hY] at k1 k2
    have zer : (er != er) = false := by simp
    clear hY hF hx3 hx8 hm10 HX9 HR9 HBX9 HM9
    go_upto_region 19 with fail
    clear k1 k2 zer
    cases hen : en with
    | none =>
      have her := HER.out
      rw [hen] at her
      replace her : (1 : Int) = er := her
      subst her
      clear hen
      go_wp2_with fail
      refine (awake22_any _).mono ?_
      rintro e w' ⟨rfl, hmz⟩
      go_wp2_with fail
      go_ret
      exact ⟨rfl, HM10.out.of2 hmz⟩
    | some bs =>
      have her := HER.out
      rw [hen] at her
      replace her : (0 : Int) = er := her
      subst her
      have hxx := HXX.out
      rw [hen] at hxx
      replace hxx : bs = X := hxx
      subst hxx
      have he2 := HEN.out
      rw [hen] at he2
      have hd1 := dec_encM he2
      have hrg := mBytes_range he2
      have hL4 := mBytes_le he2
      rw [HL.out] at hL4
      have HD1 := Lib.hid hd1
      have HRG := Lib.hid hrg
      clear hd1 hrg hen he2 HEN HEX
      by_cases k1 : mk = 1
      case pos =>
        subst k1
        have hnm : normM ⟨1, mp, md, ed, mw, mc, me, mf, ml⟩ = ⟨1, mp, md, [], 0, 0, 0, 0, 0⟩ := by simp [normM]
        have hdd := HD1.out
        rw [hnm] at hdd
        have HDD := Lib.hid hdd
        clear hdd hnm
        go_wp2_with fail
        refine (mdecode_any w10 a8 L c8 bs HL.out HX8.out HRG.out (by omega)).mono ?_
        rintro e w11 ⟨a9, c9, rfl, hF, hm11⟩
        rw [HDD.out] at hF ⊢
        unfold msgV
        simp only [List.length_nil] at hF ⊢
        have HR11 := Lib.hid (HR10.out.keep hm11 (fun _ _ e => e))
        have HBX11 := Lib.hid (HBX10.out.keep hm11 (fun e => e))
        have HM11 := Lib.hid (HM10.out.of2 hm11)
        go_upto_region 22 with fail
        obtain ⟨gy, hg_⟩ : ∃ b, w11.heap.size = b := ⟨_, rfl⟩
        obtain ⟨w12, hw_⟩ : ∃ W, w11.alloc (.cells #[.int .i64 1, .int .i64 mp, .int .i64 md, .slice a9 0 c9, .int .i64 0, .int .i64 0, .int .i64 0, .int .i64 0, .int .i64 0] 26) = W := ⟨_, rfl⟩
        have hm_ : Mod (fun _ => False) w11 w12 := by rw [← hw_]; exact Mod.alloc _ _ _
        have hB_ : Blk w12 gy 26 [.int .i64 1, .int .i64 mp, .int .i64 md, .slice a9 0 c9, .int .i64 0, .int .i64 0, .int .i64 0, .int .i64 0, .int .i64 0] := by rw [← hw_, ← hg_]; exact Blk.new _ _ [.int .i64 1, .int .i64 mp, .int .i64 md, .slice a9 0 c9, .int .i64 0, .int .i64 0, .int .i64 0, .int .i64 0, .int .i64 0]
        rw [hw_, hg_]
        clear hw_ hg_
        have HBX12 := Lib.hid (HBX11.out.keep hm_ (fun e => e))
        have HB12 := Lib.hid hB_
        have HM12 := Lib.hid (HM11.out.of2 hm_)
        clear hF hm11 hm_ hB_
        have hbk := HBX12.out
        have q0 := hbk.cell 0 rfl
        have q1 := hbk.cell 1 rfl
        have q2 := hbk.cell 2 rfl
        have q3 := hbk.cell 3 rfl
        have q4 := hbk.cell 4 rfl
        have q5 := hbk.cell 5 rfl
        have q6 := hbk.cell 6 rfl
        have q7 := hbk.cell 7 rfl
        have q8 := hbk.cell 8 rfl
        have lq := hbk.lt
        clear hbk
        have hbk := HB12.out
        have p0 := hbk.cell 0 rfl
        have p1 := hbk.cell 1 rfl
        have p2 := hbk.cell 2 rfl
        have p3 := hbk.cell 3 rfl
        have p4 := hbk.cell 4 rfl
        have p5 := hbk.cell 5 rfl
        have p6 := hbk.cell 6 rfl
        have p7 := hbk.cell 7 rfl
        have p8 := hbk.cell 8 rfl
        have lp := hbk.lt
        clear hbk
        simp only [List.append]
        go_wp2_with fail
        refine (awake22_any _).mono ?_
        rintro e w' ⟨rfl, hmz⟩
        go_wp2_with fail
        go_ret
        exact ⟨rfl, HM12.out.of2 hmz⟩
      case neg =>
        by_cases k2 : mk = 2
        case pos =>
          subst k2
          have hnm : normM ⟨2, mp, md, ed, mw, mc, me, mf, ml⟩ = ⟨2, mp, 0, [], 0, 0, 0, 0, 0⟩ := by simp [normM]
          have hdd := HD1.out
          rw [hnm] at hdd
          have HDD := Lib.hid hdd
          clear hdd hnm
          go_wp2_with fail
          refine (mdecode_any w10 a8 L c8 bs HL.out HX8.out HRG.out (by omega)).mono ?_
          rintro e w11 ⟨a9, c9, rfl, hF, hm11⟩
          rw [HDD.out] at hF ⊢
          unfold msgV
          simp only [List.length_nil] at hF ⊢
          have HR11 := Lib.hid (HR10.out.keep hm11 (fun _ _ e => e))
          have HBX11 := Lib.hid (HBX10.out.keep hm11 (fun e => e))
          have HM11 := Lib.hid (HM10.out.of2 hm11)
          go_upto_region 22 with fail
          obtain ⟨gy, hg_⟩ : ∃ b, w11.heap.size = b := ⟨_, rfl⟩
          obtain ⟨w12, hw_⟩ : ∃ W, w11.alloc (.cells #[.int .i64 2, .int .i64 mp, .int .i64 0, .slice a9 0 c9, .int .i64 0, .int .i64 0, .int .i64 0, .int .i64 0, .int .i64 0] 26) = W := ⟨_, rfl⟩
          have hm_ : Mod (fun _ => False) w11 w12 := by rw [← hw_]; exact Mod.alloc _ _ _
          have hB_ : Blk w12 gy 26 [.int .i64 2, .int .i64 mp, .int .i64 0, .slice a9 0 c9, .int .i64 0, .int .i64 0, .int .i64 0, .int .i64 0, .int .i64 0] := by rw [← hw_, ← hg_]; exact Blk.new _ _ [.int .i64 2, .int .i64 mp, .int .i64 0, .slice a9 0 c9, .int .i64 0, .int .i64 0, .int .i64 0, .int .i64 0, .int .i64 0]
          rw [hw_, hg_]
          clear hw_ hg_
          have HBX12 := Lib.hid (HBX11.out.keep hm_ (fun e => e))
          have HB12 := Lib.hid hB_
          have HM12 := Lib.hid (HM11.out.of2 hm_)
          clear hF hm11 hm_ hB_
          have hbk := HBX12.out
          have q0 := hbk.cell 0 rfl
          have q1 := hbk.cell 1 rfl
          have q2 := hbk.cell 2 rfl
          have q3 := hbk.cell 3 rfl
          have q4 := hbk.cell 4 rfl
          have q5 := hbk.cell 5 rfl
          have q6 := hbk.cell 6 rfl
          have q7 := hbk.cell 7 rfl
          have q8 := hbk.cell 8 rfl
          have lq := hbk.lt
          clear hbk
          have hbk := HB12.out
          have p0 := hbk.cell 0 rfl
          have p1 := hbk.cell 1 rfl
          have p2 := hbk.cell 2 rfl
          have p3 := hbk.cell 3 rfl
          have p4 := hbk.cell 4 rfl
          have p5 := hbk.cell 5 rfl
          have p6 := hbk.cell 6 rfl
          have p7 := hbk.cell 7 rfl
          have p8 := hbk.cell 8 rfl
          have lp := hbk.lt
          clear hbk
          simp only [List.append]
          go_wp2_with fail
          refine (awake22_any _).mono ?_
          rintro e w' ⟨rfl, hmz⟩
          go_wp2_with fail
          go_ret
          exact ⟨rfl, HM12.out.of2 hmz⟩
        case neg =>
          by_cases k9 : mk = 9
          case pos =>
            subst k9
            have hnm : normM ⟨9, mp, md, ed, mw, mc, me, mf, ml⟩ = ⟨9, mp, 0, [], 0, 0, 0, 0, 0⟩ := by simp [normM]
            have hdd := HD1.out
            rw [hnm] at hdd
            have HDD := Lib.hid hdd
            clear hdd hnm
            go_wp2_with fail
            refine (mdecode_any w10 a8 L c8 bs HL.out HX8.out HRG.out (by omega)).mono ?_
            rintro e w11 ⟨a9, c9, rfl, hF, hm11⟩
            rw [HDD.out] at hF ⊢
            unfold msgV
            simp only [List.length_nil] at hF ⊢
            have HR11 := Lib.hid (HR10.out.keep hm11 (fun _ _ e => e))
            have HBX11 := Lib.hid (HBX10.out.keep hm11 (fun e => e))
            have HM11 := Lib.hid (HM10.out.of2 hm11)
            go_upto_region 22 with fail
            obtain ⟨gy, hg_⟩ : ∃ b, w11.heap.size = b := ⟨_, rfl⟩
            obtain ⟨w12, hw_⟩ : ∃ W, w11.alloc (.cells #[.int .i64 9, .int .i64 mp, .int .i64 0, .slice a9 0 c9, .int .i64 0, .int .i64 0, .int .i64 0, .int .i64 0, .int .i64 0] 26) = W := ⟨_, rfl⟩
            have hm_ : Mod (fun _ => False) w11 w12 := by rw [← hw_]; exact Mod.alloc _ _ _
            have hB_ : Blk w12 gy 26 [.int .i64 9, .int .i64 mp, .int .i64 0, .slice a9 0 c9, .int .i64 0, .int .i64 0, .int .i64 0, .int .i64 0, .int .i64 0] := by rw [← hw_, ← hg_]; exact Blk.new _ _ [.int .i64 9, .int .i64 mp, .int .i64 0, .slice a9 0 c9, .int .i64 0, .int .i64 0, .int .i64 0, .int .i64 0, .int .i64 0]
            rw [hw_, hg_]
            clear hw_ hg_
            have HBX12 := Lib.hid (HBX11.out.keep hm_ (fun e => e))
            have HB12 := Lib.hid hB_
            have HM12 := Lib.hid (HM11.out.of2 hm_)
            clear hF hm11 hm_ hB_
            have hbk := HBX12.out
            have q0 := hbk.cell 0 rfl
            have q1 := hbk.cell 1 rfl
            have q2 := hbk.cell 2 rfl
            have q3 := hbk.cell 3 rfl
            have q4 := hbk.cell 4 rfl
            have q5 := hbk.cell 5 rfl
            have q6 := hbk.cell 6 rfl
            have q7 := hbk.cell 7 rfl
            have q8 := hbk.cell 8 rfl
            have lq := hbk.lt
            clear hbk
            have hbk := HB12.out
            have p0 := hbk.cell 0 rfl
            have p1 := hbk.cell 1 rfl
            have p2 := hbk.cell 2 rfl
            have p3 := hbk.cell 3 rfl
            have p4 := hbk.cell 4 rfl
            have p5 := hbk.cell 5 rfl
            have p6 := hbk.cell 6 rfl
            have p7 := hbk.cell 7 rfl
            have p8 := hbk.cell 8 rfl
            have lp := hbk.lt
            clear hbk
            simp only [List.append]
            go_wp2_with fail
            refine (awake22_any _).mono ?_
            rintro e w' ⟨rfl, hmz⟩
            go_wp2_with fail
            go_ret
            exact ⟨rfl, HM12.out.of2 hmz⟩
          case neg =>
            by_cases k5 : mk = 5
            case pos =>
              subst k5
              have hnm : normM ⟨5, mp, md, ed, mw, mc, me, mf, ml⟩ = ⟨5, 0, 0, ed, mw, 0, 0, 0, 0⟩ := by simp [normM]
              have hdd := HD1.out
              rw [hnm] at hdd
              have HDD := Lib.hid hdd
              clear hdd hnm
              go_wp2_with fail
              refine (mdecode_any w10 a8 L c8 bs HL.out HX8.out HRG.out (by omega)).mono ?_
              rintro e w11 ⟨a9, c9, rfl, hF, hm11⟩
              rw [HDD.out] at hF ⊢
              unfold msgV
              simp only [List.length_nil] at hF ⊢
              have HR11 := Lib.hid (HR10.out.keep hm11 (fun _ _ e => e))
              have HBX11 := Lib.hid (HBX10.out.keep hm11 (fun e => e))
              have HM11 := Lib.hid (HM10.out.of2 hm11)
              rw [HN.out] at hF ⊢
              have hx9 : Rd w11 1 (.slice a9 n c9) n (ed.map (Value.int .i64)) := Rd.ofOwn hF
              go_upto_region 22 with fail
              obtain ⟨gy, hg_⟩ : ∃ b, w11.heap.size = b := ⟨_, rfl⟩
              obtain ⟨w12, hw_⟩ : ∃ W, w11.alloc (.cells #[.int .i64 5, .int .i64 0, .int .i64 0, .slice a9 n c9, .int .i64 mw, .int .i64 0, .int .i64 0, .int .i64 0, .int .i64 0] 26) = W := ⟨_, rfl⟩
              have hm_ : Mod (fun _ => False) w11 w12 := by rw [← hw_]; exact Mod.alloc _ _ _
              have hB_ : Blk w12 gy 26 [.int .i64 5, .int .i64 0, .int .i64 0, .slice a9 n c9, .int .i64 mw, .int .i64 0, .int .i64 0, .int .i64 0, .int .i64 0] := by rw [← hw_, ← hg_]; exact Blk.new _ _ [.int .i64 5, .int .i64 0, .int .i64 0, .slice a9 n c9, .int .i64 mw, .int .i64 0, .int .i64 0, .int .i64 0, .int .i64 0]
              rw [hw_, hg_]
              clear hw_ hg_
              have HBX12 := Lib.hid (HBX11.out.keep hm_ (fun e => e))
              have HB12 := Lib.hid hB_
              have HM12 := Lib.hid (HM11.out.of2 hm_)
              have HI1 := Lib.hid (hx9.keep hm_ (fun _ _ e => e))
              have HI2 := Lib.hid (HR11.out.keep hm_ (fun _ _ e => e))
              clear hx9
              clear hF hm11 hm_ hB_
              have hbk := HBX12.out
              have q0 := hbk.cell 0 rfl
              have q1 := hbk.cell 1 rfl
              have q2 := hbk.cell 2 rfl
              have q3 := hbk.cell 3 rfl
              have q4 := hbk.cell 4 rfl
              have q5 := hbk.cell 5 rfl
              have q6 := hbk.cell 6 rfl
              have q7 := hbk.cell 7 rfl
              have q8 := hbk.cell 8 rfl
              have lq := hbk.lt
              clear hbk
              have hbk := HB12.out
              have p0 := hbk.cell 0 rfl
              have p1 := hbk.cell 1 rfl
              have p2 := hbk.cell 2 rfl
              have p3 := hbk.cell 3 rfl
              have p4 := hbk.cell 4 rfl
              have p5 := hbk.cell 5 rfl
              have p6 := hbk.cell 6 rfl
              have p7 := hbk.cell 7 rfl
              have p8 := hbk.cell 8 rfl
              have lp := hbk.lt
              clear hbk
              simp only [List.append]
              go_wp2_with fail
              refine (ints_any w12 a9 n c9 ed HN.out HI1.out a n c ed HN.out HI2.out (by omega)).mono ?_
              rintro e w13 ⟨rfl, kk, hkk⟩
              have hm13 : Mod (fun _ => False) w12 w13 := by rw [hkk]; exact Mod.drewN _ _ _
              rw [decide_eq_true rfl]
              clear hkk
              clear q0 q1 q2 q3 q4 q5 q6 q7 q8 lq
              clear p0 p1 p2 p3 p4 p5 p6 p7 p8 lp
              have hbk := HBX12.out.keep hm13 (fun e => e)
              have q0 := hbk.cell 0 rfl
              have q1 := hbk.cell 1 rfl
              have q2 := hbk.cell 2 rfl
              have q3 := hbk.cell 3 rfl
              have q4 := hbk.cell 4 rfl
              have q5 := hbk.cell 5 rfl
              have q6 := hbk.cell 6 rfl
              have q7 := hbk.cell 7 rfl
              have q8 := hbk.cell 8 rfl
              have lq := hbk.lt
              clear hbk
              have hbk := HB12.out.keep hm13 (fun e => e)
              have p0 := hbk.cell 0 rfl
              have p1 := hbk.cell 1 rfl
              have p2 := hbk.cell 2 rfl
              have p3 := hbk.cell 3 rfl
              have p4 := hbk.cell 4 rfl
              have p5 := hbk.cell 5 rfl
              have p6 := hbk.cell 6 rfl
              have p7 := hbk.cell 7 rfl
              have p8 := hbk.cell 8 rfl
              have lp := hbk.lt
              clear hbk
              have HM13 := Lib.hid (HM12.out.of2 hm13)
              clear hm13
              go_wp2_with fail
              refine (awake22_any _).mono ?_
              rintro e w' ⟨rfl, hmz⟩
              go_wp2_with fail
              go_ret
              exact ⟨rfl, HM13.out.of2 hmz⟩
            case neg =>
              by_cases k7 : mk = 7
              case pos =>
                subst k7
                have hnm : normM ⟨7, mp, md, ed, mw, mc, me, mf, ml⟩ = ⟨7, 0, 0, [], 0, mc, me, mf, ml⟩ := by simp [normM]
                have hdd := HD1.out
                rw [hnm] at hdd
                have HDD := Lib.hid hdd
                clear hdd hnm
                go_wp2_with fail
                refine (mdecode_any w10 a8 L c8 bs HL.out HX8.out HRG.out (by omega)).mono ?_
                rintro e w11 ⟨a9, c9, rfl, hF, hm11⟩
                rw [HDD.out] at hF ⊢
                unfold msgV
                simp only [List.length_nil] at hF ⊢
                have HR11 := Lib.hid (HR10.out.keep hm11 (fun _ _ e => e))
                have HBX11 := Lib.hid (HBX10.out.keep hm11 (fun e => e))
                have HM11 := Lib.hid (HM10.out.of2 hm11)
                go_upto_region 22 with fail
                obtain ⟨gy, hg_⟩ : ∃ b, w11.heap.size = b := ⟨_, rfl⟩
                obtain ⟨w12, hw_⟩ : ∃ W, w11.alloc (.cells #[.int .i64 7, .int .i64 0, .int .i64 0, .slice a9 0 c9, .int .i64 0, .int .i64 mc, .int .i64 me, .int .i64 mf, .int .i64 ml] 26) = W := ⟨_, rfl⟩
                have hm_ : Mod (fun _ => False) w11 w12 := by rw [← hw_]; exact Mod.alloc _ _ _
                have hB_ : Blk w12 gy 26 [.int .i64 7, .int .i64 0, .int .i64 0, .slice a9 0 c9, .int .i64 0, .int .i64 mc, .int .i64 me, .int .i64 mf, .int .i64 ml] := by rw [← hw_, ← hg_]; exact Blk.new _ _ [.int .i64 7, .int .i64 0, .int .i64 0, .slice a9 0 c9, .int .i64 0, .int .i64 mc, .int .i64 me, .int .i64 mf, .int .i64 ml]
                rw [hw_, hg_]
                clear hw_ hg_
                have HBX12 := Lib.hid (HBX11.out.keep hm_ (fun e => e))
                have HB12 := Lib.hid hB_
                have HM12 := Lib.hid (HM11.out.of2 hm_)
                clear hF hm11 hm_ hB_
                have hbk := HBX12.out
                have q0 := hbk.cell 0 rfl
                have q1 := hbk.cell 1 rfl
                have q2 := hbk.cell 2 rfl
                have q3 := hbk.cell 3 rfl
                have q4 := hbk.cell 4 rfl
                have q5 := hbk.cell 5 rfl
                have q6 := hbk.cell 6 rfl
                have q7 := hbk.cell 7 rfl
                have q8 := hbk.cell 8 rfl
                have lq := hbk.lt
                clear hbk
                have hbk := HB12.out
                have p0 := hbk.cell 0 rfl
                have p1 := hbk.cell 1 rfl
                have p2 := hbk.cell 2 rfl
                have p3 := hbk.cell 3 rfl
                have p4 := hbk.cell 4 rfl
                have p5 := hbk.cell 5 rfl
                have p6 := hbk.cell 6 rfl
                have p7 := hbk.cell 7 rfl
                have p8 := hbk.cell 8 rfl
                have lp := hbk.lt
                clear hbk
                simp only [List.append]
                go_wp2_with fail
                refine (awake22_any _).mono ?_
                rintro e w' ⟨rfl, hmz⟩
                go_wp2_with fail
                go_ret
                exact ⟨rfl, HM12.out.of2 hmz⟩
              case neg =>
                have z1 : (mk != 1) = true := by simp; exact k1
                have z2 : (mk != 2) = true := by simp; exact k2
                have z9 : (mk != 9) = true := by simp; exact k9
                have z5 : (mk != 5) = true := by simp; exact k5
                have z7 : (mk != 7) = true := by simp; exact k7
                have hnm : normM ⟨mk, mp, md, ed, mw, mc, me, mf, ml⟩ = ⟨mk, 0, 0, [], 0, 0, 0, 0, 0⟩ := by unfold normM; simp only [if_neg k1, if_neg (fun h : mk = 2 ∨ mk = 9 => h.elim k2 k9), if_neg k5, if_neg k7]
                clear k1 k2 k9 k5 k7
                have hdd := HD1.out
                rw [hnm] at hdd
                have HDD := Lib.hid hdd
                clear hdd hnm
                go_wp2_with fail
                refine (mdecode_any w10 a8 L c8 bs HL.out HX8.out HRG.out (by omega)).mono ?_
                rintro e w11 ⟨a9, c9, rfl, hF, hm11⟩
                rw [HDD.out] at hF ⊢
                unfold msgV
                simp only [List.length_nil] at hF ⊢
                have HR11 := Lib.hid (HR10.out.keep hm11 (fun _ _ e => e))
                have HBX11 := Lib.hid (HBX10.out.keep hm11 (fun e => e))
                have HM11 := Lib.hid (HM10.out.of2 hm11)
                go_upto_region 22 with fail
                obtain ⟨gy, hg_⟩ : ∃ b, w11.heap.size = b := ⟨_, rfl⟩
                obtain ⟨w12, hw_⟩ : ∃ W, w11.alloc (.cells #[.int .i64 mk, .int .i64 0, .int .i64 0, .slice a9 0 c9, .int .i64 0, .int .i64 0, .int .i64 0, .int .i64 0, .int .i64 0] 26) = W := ⟨_, rfl⟩
                have hm_ : Mod (fun _ => False) w11 w12 := by rw [← hw_]; exact Mod.alloc _ _ _
                have hB_ : Blk w12 gy 26 [.int .i64 mk, .int .i64 0, .int .i64 0, .slice a9 0 c9, .int .i64 0, .int .i64 0, .int .i64 0, .int .i64 0, .int .i64 0] := by rw [← hw_, ← hg_]; exact Blk.new _ _ [.int .i64 mk, .int .i64 0, .int .i64 0, .slice a9 0 c9, .int .i64 0, .int .i64 0, .int .i64 0, .int .i64 0, .int .i64 0]
                rw [hw_, hg_]
                clear hw_ hg_
                have HBX12 := Lib.hid (HBX11.out.keep hm_ (fun e => e))
                have HB12 := Lib.hid hB_
                have HM12 := Lib.hid (HM11.out.of2 hm_)
                clear hF hm11 hm_ hB_
                have hbk := HBX12.out
                have q0 := hbk.cell 0 rfl
                have q1 := hbk.cell 1 rfl
                have q2 := hbk.cell 2 rfl
                have q3 := hbk.cell 3 rfl
                have q4 := hbk.cell 4 rfl
                have q5 := hbk.cell 5 rfl
                have q6 := hbk.cell 6 rfl
                have q7 := hbk.cell 7 rfl
                have q8 := hbk.cell 8 rfl
                have lq := hbk.lt
                clear hbk
                have hbk := HB12.out
                have p0 := hbk.cell 0 rfl
                have p1 := hbk.cell 1 rfl
                have p2 := hbk.cell 2 rfl
                have p3 := hbk.cell 3 rfl
                have p4 := hbk.cell 4 rfl
                have p5 := hbk.cell 5 rfl
                have p6 := hbk.cell 6 rfl
                have p7 := hbk.cell 7 rfl
                have p8 := hbk.cell 8 rfl
                have lp := hbk.lt
                clear hbk
                simp only [List.append]
                go_wp2_with fail
                refine (awake22_any _).mono ?_
                rintro e w' ⟨rfl, hmz⟩
                go_wp2_with fail
                go_ret
                exact ⟨rfl, HM12.out.of2 hmz⟩
theorem mfields_law (w : World) (cs : Array Value) (x : MsgD) (hcs : cs.toList = encMsg.img x) (ok : encMsg.ok w x) (cs2 : Array Value) (x2 : MsgD) (hcs2 : cs2.toList = encMsg.img x2) (ok2 : encMsg.ok w x2) :
    Calls Try.prog 5 #[.agg cs, .agg cs2] w fun e w' => e = .returned (.bool true) ∧ Below w.heap.size w w' := by
  obtain ⟨g, a, n, c, hv, hn, hr, hb⟩ := msg_in hcs ok
  obtain ⟨g2, a2, n2, c2, hv2, hn2, hr2, hb2⟩ := msg_in hcs2 ok2
  rw [hv, hv2]
  exact (mfields_all w g a n c hn hr hb g2 a2 n2 c2 hn2 hr2 hb2).mono fun e w' h => ⟨h.1, h.2.below (Nat.le_refl _) (fun _ e => e.elim)⟩
end Go.Proofs.Ytabfmnlpipbegaa
