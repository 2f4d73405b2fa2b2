/- GramTells walked. -/
import Derived.Test.YtabfmnlpipbegaaGramA
import Derived.Test.YtabfmnlpipbegaaGram4
import Derived.Test.YtabfmnlpipbegaaGram5
import Derived.Test.YtabfmnlpipbegaaRound
import Derived.Deep.DeepCutAuto
import Derived.Deep.CutBlock
namespace Go.Proofs.Ytabfmnlpipbegaa
open Go.RowKit Mile
set_option maxRecDepth 100000
set_option maxHeartbeats 16000000 in
theorem gtells_all (w : World) (g : GrD) (a : Option Addr) (n c : Nat) (hn : g.body.length = n) (hr : Rd w 1 (.slice a n c) n (g.body.map (Value.int .u8))) (hb : ∀ x ∈ g.body, 0 ≤ x ∧ x < 256)
    (a1 : Option Addr) (n1 c1 : Nat) (bl : List Int) (hn1 : bl.length = n1) (hr1 : Rd w 1 (.slice a1 n1 c1) n1 (bl.map (Value.int .u8))) (hb1 : ∀ x ∈ bl, 0 ≤ x ∧ x < 256) (kv : Int)
    (a2 : Option Addr) (n2 c2 : Nat) (bd : List Int) (hn2 : bd.length = n2) (hr2 : Rd w 1 (.slice a2 n2 c2) n2 (bd.map (Value.int .u8))) (hb2 : ∀ x ∈ bd, 0 ≤ x ∧ x < 256) :
    Calls Try.prog 6 #[gramV g a n c, .slice a1 n1 c1, .int .i64 kv, .slice a2 n2 c2] w fun e w' => e = .returned (.bool true) ∧ Mod (fun _ => False) w w' := by
  obtain ⟨gc, gk, gs, ga, gd, bo⟩ := g
  replace hn : bo.length = n := hn
  replace hr : Rd w 1 (.slice a n c) n (bo.map (Value.int .u8)) := hr
  replace hb : ∀ x ∈ bo, 0 ≤ x ∧ x < 256 := hb
  unfold gramV
  simp only
  obtain ⟨bx, hbx⟩ : ∃ b, w.heap.size = b := ⟨_, rfl⟩
  obtain ⟨w0, hw0⟩ : ∃ W, w.alloc (.cells #[.int .i64 gc, .int .i64 gk, .int .i64 gs, .int .i64 ga, .int .i64 gd, .slice a n c] 44) = W := ⟨_, rfl⟩
  have hB : Blk w0 bx 44 [.int .i64 gc, .int .i64 gk, .int .i64 gs, .int .i64 ga, .int .i64 gd, .slice a n c] := by rw [← hw0, ← hbx]; exact Blk.new _ _ [.int .i64 gc, .int .i64 gk, .int .i64 gs, .int .i64 ga, .int .i64 gd, .slice a n c]
  have hm0 : Mod (fun _ => False) w w0 := by rw [← hw0]; exact Mod.alloc _ _ _
  have HBX := Lib.hid hB
  have HM0 := Lib.hid hm0
  have HR := Lib.hid (hr.keep hm0 (fun _ _ e => e))
  have HRB := Lib.hid (hr1.keep hm0 (fun _ _ e => e))
  have HRD := Lib.hid (hr2.keep hm0 (fun _ _ e => e))
  have HN := Lib.hid hn
  have HN1 := Lib.hid hn1
  have HN2 := Lib.hid hn2
  have HG := Lib.hid hb
  have HG1 := Lib.hid hb1
  have HG2 := Lib.hid hb2
  clear hB hm0 hr hr1 hr2 hn hn1 hn2 hb hb1 hb2
  by_cases hlen0 : n ≤ 2100
  case neg =>
    have z0 : decide (2100 < (n : Int)) = true := by simp; omega
    have hbk := HBX.out
    have q0 := hbk.cell 0 rfl
    have q1 := hbk.cell 1 rfl
    have q2 := hbk.cell 2 rfl
    have q3 := hbk.cell 3 rfl
    have q4 := hbk.cell 4 rfl
    have q5 := hbk.cell 5 rfl
    have lq := hbk.lt
    clear hbk
    go_enter Try.func6, Try.ntmps6
    go_upto_region 1 with fail
    try rw [hw0]
    try rw [hbx]
    clear hw0 hbx
    go_wp2_with fail
    refine (awake23_any _).mono ?_
    rintro e w' ⟨rfl, hmz⟩
    go_wp2_with fail
    go_ret
    exact ⟨rfl, HM0.out.of2 hmz⟩
  by_cases hlen1 : n1 ≤ 300
  case neg =>
    have y0 : decide (2100 < (n : Int)) = false := by simp; omega
    have z0 : decide (300 < (n1 : Int)) = true := by simp; omega
    have hbk := HBX.out
    have q0 := hbk.cell 0 rfl
    have q1 := hbk.cell 1 rfl
    have q2 := hbk.cell 2 rfl
    have q3 := hbk.cell 3 rfl
    have q4 := hbk.cell 4 rfl
    have q5 := hbk.cell 5 rfl
    have lq := hbk.lt
    clear hbk
    go_enter Try.func6, Try.ntmps6
    go_upto_region 1 with fail
    try rw [hw0]
    try rw [hbx]
    clear hw0 hbx
    go_wp2_with fail
    refine (awake23_any _).mono ?_
    rintro e w' ⟨rfl, hmz⟩
    go_wp2_with fail
    go_ret
    exact ⟨rfl, HM0.out.of2 hmz⟩
  by_cases hlen2 : n2 ≤ 300
  case neg =>
    have y0 : decide (2100 < (n : Int)) = false := by simp; omega
    have y1 : decide (300 < (n1 : Int)) = false := by simp; omega
    have z0 : decide (300 < (n2 : Int)) = true := by simp; omega
    have hbk := HBX.out
    have q0 := hbk.cell 0 rfl
    have q1 := hbk.cell 1 rfl
    have q2 := hbk.cell 2 rfl
    have q3 := hbk.cell 3 rfl
    have q4 := hbk.cell 4 rfl
    have q5 := hbk.cell 5 rfl
    have lq := hbk.lt
    clear hbk
    go_enter Try.func6, Try.ntmps6
    go_upto_region 1 with fail
    try rw [hw0]
    try rw [hbx]
    clear hw0 hbx
    go_wp2_with fail
    refine (awake23_any _).mono ?_
    rintro e w' ⟨rfl, hmz⟩
    go_wp2_with fail
    go_ret
    exact ⟨rfl, HM0.out.of2 hmz⟩
  have y0 : decide (2100 < (n : Int)) = false := by simp; omega
  have y1 : decide (300 < (n1 : Int)) = false := by simp; omega
  have y2 : decide (300 < (n2 : Int)) = false := by simp; omega
  have hbk := HBX.out
  have q0 := hbk.cell 0 rfl
  have q1 := hbk.cell 1 rfl
  have q2 := hbk.cell 2 rfl
  have q3 := hbk.cell 3 rfl
  have q4 := hbk.cell 4 rfl
  have q5 := hbk.cell 5 rfl
  have lq := hbk.lt
  clear hbk
  go_enter Try.func6, Try.ntmps6
  go_upto_region 1 with fail
  try rw [hw0]
  try rw [hbx]
  clear hw0 hbx
  go_wp2_with fail
  refine (gencode_any w0 ⟨gc, gk, gs, ga, gd, bo⟩ a n c HN.out HR.out HG.out (by omega)).mono ?_
  rintro e w1 ⟨v1, rfl, hF, hm1, a3, c3, rfl⟩
  obtain ⟨en, hen⟩ : ∃ x, encG ⟨gc, gk, gs, ga, gd, bo⟩ = x := ⟨_, rfl⟩
  rw [hen] at hF ⊢
  obtain ⟨X, hX⟩ : ∃ x, en.getD [] = x := ⟨_, rfl⟩
  rw [hX] at hF ⊢
  obtain ⟨L, hL⟩ : ∃ x, X.length = x := ⟨_, rfl⟩
  obtain ⟨er, her⟩ : ∃ z : Int, (if en.isNone = true then (1 : Int) else 0) = z := ⟨_, rfl⟩
  have hx1 : Rd w1 1 (.slice a3 L c3) L (X.map (Value.int .u8)) := by have h := Rd.ofOwn hF; rw [hL] at h; exact h
  rw [hL, her]
  have HEN := Lib.hid hen
  have HXX := Lib.hid hX
  have HL := Lib.hid hL
  have HER := Lib.hid her
  have HX1 := Lib.hid hx1
  have HM1 := Lib.hid (HM0.out.of2 hm1)
  have HR1 := Lib.hid (HR.out.keep hm1 (fun _ _ e => e))
  have HRB1 := Lib.hid (HRB.out.keep hm1 (fun _ _ e => e))
  have HRD1 := Lib.hid (HRD.out.keep hm1 (fun _ _ e => e))
  have HBX1 := Lib.hid (HBX.out.keep hm1 (fun e => e))
  clear hF hen hX hL her hx1 hm1 HR HRB HRD HBX HM0
  clear q0 q1 q2 q3 q4 q5 lq
  have hbk := HBX1.out
  have q0 := hbk.cell 0 rfl
  have q1 := hbk.cell 1 rfl
  have q2 := hbk.cell 2 rfl
  have q3 := hbk.cell 3 rfl
  have q4 := hbk.cell 4 rfl
  have q5 := hbk.cell 5 rfl
  have lq := hbk.lt
  clear hbk
  go_wp2_with fail
  refine (rgram_any w1 ⟨gc, gk, gs, ga, gd, bo⟩ a n c HN.out HR1.out HG.out (by omega)).mono ?_
  rintro e w2 ⟨v2, rfl, hF, hm2, a4, c4, rfl⟩
  rw [HEN.out, HXX.out] at hF
  rw [HEN.out, HXX.out]
  have hx2 : Rd w2 1 (.slice a4 L c4) L (X.map (Value.int .u8)) := by have h := Rd.ofOwn hF; rw [HL.out] at h; exact h
  rw [HL.out, HER.out]
  clear q0 q1 q2 q3 q4 q5 lq
  have hx1 := HX1.out.keep hm2 (fun _ _ e => e)
  have HM2 := Lib.hid (HM1.out.of2 hm2)
  have HRB2 := Lib.hid (HRB1.out.keep hm2 (fun _ _ e => e))
  have HRD2 := Lib.hid (HRD1.out.keep hm2 (fun _ _ e => e))
  have k1 := run_strS w2 27 9 5 Try.underlying27 Try.underlying5 Try.underlying9 hx1
  have k2 := run_strS w2 27 9 5 Try.underlying27 Try.underlying5 Try.underlying9 hx2
  obtain ⟨Y, hY⟩ : ∃ Y, strOf X = Y := ⟨_, rfl⟩
  rw [hY] at k1 k2
  have zer : (er != er) = false := by simp
  clear hY hF hx1 hx2 hm2 HX1 HR1 HRB1 HRD1 HBX1 HM1
  go_wp2_with fail
  refine (round_any kv (6 : Int) _ (by omega) (by omega)).mono ?_
  rintro e w' ⟨rfl, rfl⟩
  have hr0 := Int.emod_nonneg kv (b := (6 : Int)) (by omega)
  have hr1 := Int.emod_lt_of_pos kv (b := (6 : Int)) (by omega)
  obtain ⟨kr, hkr⟩ : ∃ x, kv % (6 : Int) = x := ⟨_, rfl⟩
  rw [hkr] at hr0 hr1 ⊢
  clear hkr k1 k2 zer
  go_wp2_with fail
  refine (rwrap_any w2 kr a2 n2 c2 bd HN2.out HRD2.out HG2.out).mono ?_
  rintro e w3 ⟨v3, rfl, hF, hm3, a5, c5, rfl⟩
  have hwr : wrapS kr bd = some (frL (hdL kr bd)) := wrapS_some ⟨hr0, by omega⟩ (by have := HN2.out; omega)
  rw [hwr] at hF ⊢
  have hwl : (frL (hdL kr bd)).length ≤ 400 := by rw [fr_len, hd_len]; have := HN2.out; omega
  have hwg : ∀ x ∈ frL (hdL kr bd), 0 ≤ x ∧ x < 256 := fr_range (fun x hx => by rw [hd_form] at hx; have hl := HN2.out; simp only [List.mem_cons] at hx; rcases hx with rfl | rfl | rfl | rfl | rfl | hx; omega; omega; omega; omega; omega; exact HG2.out x hx)
  obtain ⟨fr, hfr⟩ : ∃ x, frL (hdL kr bd) = x := ⟨_, rfl⟩
  rw [hfr] at hwl hwg hF ⊢
  obtain ⟨LF, hLF⟩ : ∃ x, fr.length = x := ⟨_, rfl⟩
  have hxf : Rd w3 1 (.slice a5 LF c5) LF (fr.map (Value.int .u8)) := by have h := Rd.ofOwn hF; rw [show ((some fr).getD []) = fr from rfl, hLF] at h; exact h
  rw [show ((some fr).getD []).length = LF from hLF]
  simp only [Option.isNone_some, Bool.false_eq_true, if_false]
  have HXF := Lib.hid hxf
  have HLF := Lib.hid hLF
  have HWG := Lib.hid hwg
  have hlf4 : LF ≤ 400 := by omega
  have HM3 := Lib.hid (HM2.out.of2 hm3)
  have HRB3 := Lib.hid (HRB2.out.keep hm3 (fun _ _ e => e))
  clear hF hwr hfr hwl hwg hxf hLF hm3 HM2 HRB2 HRD2 hr0 hr1
  go_wp2_with fail
  go_loopw [1, 15] (fun bv i wr => (∃ (k : Nat) (ab : Option Addr) (nb cb : Nat) (xs : List Int), k ≤ 2 ∧ bv = .slice ab nb cb ∧ i = .int .i64 k ∧ xs.length = nb ∧ nb ≤ 400 ∧ (∀ x ∈ xs, 0 ≤ x ∧ x < 256) ∧ Rd wr 1 (.slice ab nb cb) nb (xs.map (Value.int .u8))) ∧ Mod (fun _ => False) w3 wr) (fun _ i _ => 2 - (intOf i).toNat)
  case atStart => exact ⟨⟨0, a1, n1, c1, bl, by omega, rfl, rfl, HN1.out, by omega, HG1.out, HRB3.out⟩, Mod.refl _ _⟩
  case round =>
    obtain ⟨⟨k, ab, nb, cb, xs, hk, rfl, rfl, hxl, hnb, hxg, hxr⟩, hmr⟩ := hrel
    obtain ⟨w4, hw4⟩ : ∃ x : World, x = wr := ⟨_, rfl⟩
    subst hw4
    have HXL := Lib.hid hxl
    have HXG := Lib.hid hxg
    have HXR := Lib.hid hxr
    have HXF4 := Lib.hid (HXF.out.keep hmr (fun _ _ e => e))
    have HM4 := Lib.hid hmr
    clear hxl hxg hxr hmr
    by_cases hlk : k < 2
    case pos =>
      have z0 : decide ((k : Int) < 2) = true := by simp; omega
      go_wp2_with fail
      clear z0
      refine (gdecode_any w4 ab nb cb xs HXL.out HXR.out HXG.out (by omega)).mono ?_
      rintro e w5 ⟨a6, c6, rfl, hF, hm5⟩
      obtain ⟨D, hD⟩ : ∃ x, decG xs = x := ⟨_, rfl⟩
      rw [hD] at hF ⊢
      obtain ⟨⟨uc, uk, us, ua, ud, uo⟩, ue⟩ := D
      have HD := Lib.hid hD
      unfold gramV
      simp only
      obtain ⟨m5, hm5l⟩ : ∃ x, uo.length = x := ⟨_, rfl⟩
      have hx6 : Rd w5 1 (.slice a6 m5 c6) m5 (uo.map (Value.int .u8)) := by have h := Rd.ofOwn hF; rw [show GrD.body ⟨uc, uk, us, ua, ud, uo⟩ = uo from rfl, hm5l] at h; exact h
      rw [hm5l]
      have HM5L := Lib.hid hm5l
      have HX6 := Lib.hid hx6
      have HXR5 := Lib.hid (HXR.out.keep hm5 (fun _ _ e => e))
      have HXF5 := Lib.hid (HXF4.out.keep hm5 (fun _ _ e => e))
      have HM5 := Lib.hid (HM4.out.of2 hm5)
      clear hF hD hm5l hx6 hm5
      go_upto_region 12 with fail
      obtain ⟨gb, hg_⟩ : ∃ b, w5.heap.size = b := ⟨_, rfl⟩
      obtain ⟨w6, hw_⟩ : ∃ W, w5.alloc (.cells #[.int .i64 uc, .int .i64 uk, .int .i64 us, .int .i64 ua, .int .i64 ud, .slice a6 m5 c6] 44) = W := ⟨_, rfl⟩
      have hm_ : Mod (fun _ => False) w5 w6 := by rw [← hw_]; exact Mod.alloc _ _ _
      have hB_ : Blk w6 gb 44 [.int .i64 uc, .int .i64 uk, .int .i64 us, .int .i64 ua, .int .i64 ud, .slice a6 m5 c6] := by rw [← hw_, ← hg_]; exact Blk.new _ _ [.int .i64 uc, .int .i64 uk, .int .i64 us, .int .i64 ua, .int .i64 ud, .slice a6 m5 c6]
      rw [hw_, hg_]
      clear hw_ hg_
      have HBgb := Lib.hid hB_
      have HM6 := Lib.hid (HM5.out.of2 hm_)
      have HX66 := Lib.hid (HX6.out.keep hm_ (fun _ _ e => e))
      have HXR6 := Lib.hid (HXR5.out.keep hm_ (fun _ _ e => e))
      have HXF6 := Lib.hid (HXF5.out.keep hm_ (fun _ _ e => e))
      clear hm_ hB_
      go_wp2_with fail
      refine (rdecode_any w6 ab nb cb xs HXL.out HXR6.out HXG.out (by omega)).mono ?_
      rintro e w7 ⟨a7, c7, rfl, hF, hm7⟩
      rw [HD.out] at hF
      rw [HD.out]
      unfold gramV
      simp only
      have hx7 : Rd w7 1 (.slice a7 m5 c7) m5 (uo.map (Value.int .u8)) := by have h := Rd.ofOwn hF; rw [show GrD.body ⟨uc, uk, us, ua, ud, uo⟩ = uo from rfl, HM5L.out] at h; exact h
      rw [HM5L.out]
      have HX7 := Lib.hid hx7
      have HX67 := Lib.hid (HX66.out.keep hm7 (fun _ _ e => e))
      have HXF7 := Lib.hid (HXF6.out.keep hm7 (fun _ _ e => e))
      have HBgb7 := Lib.hid (HBgb.out.keep hm7 (fun e => e))
      have HM7 := Lib.hid (HM6.out.of2 hm7)
      clear hF hx7 hm7
      go_upto_region 13 with fail
      obtain ⟨gb2, hg_⟩ : ∃ b, w7.heap.size = b := ⟨_, rfl⟩
      obtain ⟨w8, hw_⟩ : ∃ W, w7.alloc (.cells #[.int .i64 uc, .int .i64 uk, .int .i64 us, .int .i64 ua, .int .i64 ud, .slice a7 m5 c7] 44) = W := ⟨_, rfl⟩
      have hm_ : Mod (fun _ => False) w7 w8 := by rw [← hw_]; exact Mod.alloc _ _ _
      have hB_ : Blk w8 gb2 44 [.int .i64 uc, .int .i64 uk, .int .i64 us, .int .i64 ua, .int .i64 ud, .slice a7 m5 c7] := by rw [← hw_, ← hg_]; exact Blk.new _ _ [.int .i64 uc, .int .i64 uk, .int .i64 us, .int .i64 ua, .int .i64 ud, .slice a7 m5 c7]
      rw [hw_, hg_]
      clear hw_ hg_
      have HBgb2 := Lib.hid hB_
      have HM8 := Lib.hid (HM7.out.of2 hm_)
      have HX78 := Lib.hid (HX7.out.keep hm_ (fun _ _ e => e))
      have HX68 := Lib.hid (HX67.out.keep hm_ (fun _ _ e => e))
      have HXF8 := Lib.hid (HXF7.out.keep hm_ (fun _ _ e => e))
      have HBgb8 := Lib.hid (HBgb7.out.keep hm_ (fun e => e))
      clear hm_ hB_
      have hbk := HBgb8.out
      have p0 := hbk.cell 0 rfl
      have p1 := hbk.cell 1 rfl
      have p2 := hbk.cell 2 rfl
      have p3 := hbk.cell 3 rfl
      have p4 := hbk.cell 4 rfl
      have p5 := hbk.cell 5 rfl
      have lp := hbk.lt
      clear hbk
      have hbk := HBgb2.out
      have q0 := hbk.cell 0 rfl
      have q1 := hbk.cell 1 rfl
      have q2 := hbk.cell 2 rfl
      have q3 := hbk.cell 3 rfl
      have q4 := hbk.cell 4 rfl
      have q5 := hbk.cell 5 rfl
      have lq := hbk.lt
      clear hbk
      have zer : (ue != ue) = false := by simp
      go_wp2_with fail
      refine (rsame_any w8 ⟨uc, uk, us, ua, ud, uo⟩ a6 m5 c6 HM5L.out HX68.out a7 m5 c7 HM5L.out HX78.out).mono ?_
      rintro e w9 ⟨rfl, hm9⟩
      have HXF9 := Lib.hid (HXF8.out.keep hm9 (fun _ _ e => e))
      have HM9 := Lib.hid (HM8.out.of2 hm9)
      clear hm9 p0 p1 p2 p3 p4 p5 lp
      clear q0 q1 q2 q3 q4 q5 lq
      go_wp2_with fail
      go_roundw
      case rel => exact ⟨⟨k + 1, a5, LF, c5, fr, hlk, rfl, by go_num, HLF.out, hlf4, HWG.out, HXF9.out⟩, HM9.out⟩
      case measure => simp [intOf]; omega
    case neg =>
      have z0 : decide ((k : Int) < 2) = false := by simp; omega
      go_wp2_with fail
      refine (awake23_any _).mono ?_
      rintro e w' ⟨rfl, hmz⟩
      go_wp2_with fail
      go_ret
      exact ⟨rfl, (HM3.out.of2 HM4.out).of2 hmz⟩
theorem gtells_law (w : World) (cs : Array Value) (x : GramD) (hcs : cs.toList = encGram.img x) (ok : encGram.ok w x) (a1 : Option Addr) (n1 c1 : Nat) (bl : List Int) (ok1 : (encSlice (encInt .u8)).ok w (.slice a1 n1 c1, bl)) (kv : Int) (_ : (Lit.int .i64 kv).wf = true) (a2 : Option Addr) (n2 c2 : Nat) (bd : List Int) (ok2 : (encSlice (encInt .u8)).ok w (.slice a2 n2 c2, bd)) :
    Calls Try.prog 6 #[.agg cs, .slice a1 n1 c1, .int .i64 kv, .slice a2 n2 c2] w fun e w' => e = .returned (.bool true) ∧ Below w.heap.size w w' := by
  obtain ⟨g, a, n, c, hv, hn, hr, hb⟩ := gram_in hcs ok
  obtain ⟨hn1, hr1, hb1⟩ := ok_ints ok1
  obtain ⟨hn2, hr2, hb2⟩ := ok_ints ok2
  rw [hv]
  exact (gtells_all w g a n c hn hr hb a1 n1 c1 bl hn1 hr1 (u8_range hb1) kv a2 n2 c2 bd hn2 hr2 (u8_range hb2)).mono fun e w' h => ⟨h.1, h.2.below (Nat.le_refl _) (fun _ e => e.elim)⟩
end Go.Proofs.Ytabfmnlpipbegaa
