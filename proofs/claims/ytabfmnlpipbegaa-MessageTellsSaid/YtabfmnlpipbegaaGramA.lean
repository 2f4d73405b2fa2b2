/- A datagram that came in; SameGram of one and the same; awake. -/
import Derived.Test.YtabfmnlpipbegaaGram3
import Derived.Test.YtabfmnlpipbegaaOpens
import Derived.Test.YtabfmnlpipbegaaArgs
import Derived.Test.YtabfmnlpipbegaaAwake3
namespace Go.Proofs.Ytabfmnlpipbegaa
open Go.RowKit Mile
set_option maxRecDepth 100000
abbrev GramD := Int × Int × Int × Int × Int × (Value × List Int) × Unit
def encGram : Enc GramD := encPair (encInt .i64) (encPair (encInt .i64) (encPair (encInt .i64) (encPair (encInt .i64) (encPair (encInt .i64) (encPair (encSlice (encInt .u8)) encUnit)))))
theorem opens_gram : Opens Try.prog 44 encGram :=
  opens_struct Try.underlying44 (by kernel_rfl) (opens_cons rfl (by kernel_rfl) (opens_int Try.underlying3) (opens_cons rfl (by kernel_rfl) (opens_int Try.underlying3) (opens_cons rfl (by kernel_rfl) (opens_int Try.underlying3) (opens_cons rfl (by kernel_rfl) (opens_int Try.underlying3) (opens_cons rfl (by kernel_rfl) (opens_int Try.underlying3)
    (opens_cons rfl (by kernel_rfl) (opens_slice Try.underlying27 (by kernel_rfl) (opens_int Try.underlying5) (by decide)) (opens_nil _ _)))))))
/-- What came in reads as a datagram. -/
theorem gram_in {w : World} {cs : Array Value} {x : GramD} (hcs : cs.toList = encGram.img x) (ok : encGram.ok w x) :
    ∃ (g : GrD) (a : Option Addr) (n c : Nat), .agg cs = gramV g a n c ∧ g.body.length = n ∧ Rd w 1 (.slice a n c) n (g.body.map (Value.int .u8)) ∧ ∀ y ∈ g.body, 0 ≤ y ∧ y < 256 := by
  obtain ⟨x1, x2, x3, x4, x5, ⟨v, l⟩, u⟩ := x
  obtain ⟨_, _, _, _, _, ok6, _⟩ := ok
  have r := ok6.1
  obtain ⟨_, a, c, h1, _⟩ := r
  simp only at h1
  subst h1
  obtain ⟨hn, hr, hb⟩ := ok_ints ok6
  exact ⟨⟨x1, x2, x3, x4, x5, l⟩, a, l.length, c, by rw [← Array.toArray_toList (xs := cs), hcs]; rfl, rfl, hr, u8_range hb⟩
set_option maxHeartbeats 8000000 in
theorem rsame_any (w : World) (g : GrD) (a : Option Addr) (n c : Nat) (hn : g.body.length = n) (hr : Rd w 1 (.slice a n c) n (g.body.map (Value.int .u8))) (a2 : Option Addr) (n2 c2 : Nat) (hn2 : g.body.length = n2) (hr2 : Rd w 1 (.slice a2 n2 c2) n2 (g.body.map (Value.int .u8))) :
    Calls Try.prog 24 #[gramV g a n c, gramV g a2 n2 c2] w fun e w' => e = .returned (.bool true) ∧ Mod (fun _ => False) w w' := by
  obtain ⟨gc, gk, gs, ga, gd, bo⟩ := g
  replace hn : bo.length = n := hn
  replace hn2 : bo.length = n2 := hn2
  replace hr : Rd w 1 (.slice a n c) n (bo.map (Value.int .u8)) := hr
  replace hr2 : Rd w 1 (.slice a2 n2 c2) n2 (bo.map (Value.int .u8)) := hr2
  unfold gramV
  simp only
  obtain ⟨bx, hbx⟩ : ∃ b, w.heap.size = b := ⟨_, rfl⟩
  obtain ⟨w1, hw1⟩ : ∃ W, w.alloc (.cells #[.int .i64 gc, .int .i64 gk, .int .i64 gs, .int .i64 ga, .int .i64 gd, .slice a n c] 44) = W := ⟨_, rfl⟩
  obtain ⟨by_, hby⟩ : ∃ b, w1.heap.size = b := ⟨_, rfl⟩
  obtain ⟨w2, hw2⟩ : ∃ W, w1.alloc (.cells #[.int .i64 gc, .int .i64 gk, .int .i64 gs, .int .i64 ga, .int .i64 gd, .slice a2 n2 c2] 44) = W := ⟨_, rfl⟩
  have hs1 := hby
  have hm1 : Mod (fun _ => False) w w1 := by rw [← hw1]; exact Mod.alloc _ _ _
  have hm2 : Mod (fun _ => False) w1 w2 := by rw [← hw2]; exact Mod.alloc _ _ _
  have hB1 : Blk w1 bx 44 [.int .i64 gc, .int .i64 gk, .int .i64 gs, .int .i64 ga, .int .i64 gd, .slice a n c] := by rw [← hw1, ← hbx]; exact Blk.new _ _ [.int .i64 gc, .int .i64 gk, .int .i64 gs, .int .i64 ga, .int .i64 gd, .slice a n c]
  have hB2 : Blk w2 w1.heap.size 44 [.int .i64 gc, .int .i64 gk, .int .i64 gs, .int .i64 ga, .int .i64 gd, .slice a2 n2 c2] := by rw [← hw2]; exact Blk.new _ _ [.int .i64 gc, .int .i64 gk, .int .i64 gs, .int .i64 ga, .int .i64 gd, .slice a2 n2 c2]
  rw [hs1] at hB2
  have hB1 := hB1.keep hm2 (fun e => e)
  have p0 := hB1.cell 0 rfl
  have p1 := hB1.cell 1 rfl
  have p2 := hB1.cell 2 rfl
  have p3 := hB1.cell 3 rfl
  have p4 := hB1.cell 4 rfl
  have p5 := hB1.cell 5 rfl
  have q0 := hB2.cell 0 rfl
  have q1 := hB2.cell 1 rfl
  have q2 := hB2.cell 2 rfl
  have q3 := hB2.cell 3 rfl
  have q4 := hB2.cell 4 rfl
  have q5 := hB2.cell 5 rfl
  have l1 := hB1.lt
  have l2 := hB2.lt
  have r1 := hr.keep (hm1.of2 hm2) (fun _ _ e => e)
  have r2 := hr2.keep (hm1.of2 hm2) (fun _ _ e => e)
  have k1 := run_strS w2 27 9 5 Try.underlying27 Try.underlying5 Try.underlying9 r1
  have k2 := run_strS w2 27 9 5 Try.underlying27 Try.underlying5 Try.underlying9 r2
  obtain ⟨X, hX⟩ : ∃ X, strOf bo = X := ⟨_, rfl⟩
  rw [hX] at k1 k2
  have HM := Lib.hid (hm1.of2 hm2)
  clear hX hm1 hm2 hB1 hB2 hr hr2 r1 r2 hs1 hn hn2
  go_enter Try.func24, Try.ntmps24
  go_upto_region 1 with fail
  try rw [hw1]
  try rw [hbx]
  try rw [hw2]
  try rw [hby]
  clear hw1 hbx hw2 hby
  go_wp2_with fail
  go_ret
  exact ⟨by simp, HM.out⟩
set_option maxHeartbeats 8000000 in
theorem awake23_any (w : World) : Calls Try.prog 18 #[] w fun e w' => e = .returned (.bool true) ∧ Mod (fun _ => False) w w' := by
  have hE : encG ⟨1, 3, 0, 0, 1, []⟩ = some (frL (hdL 3 [0, 0, 0, 1, 1])) := rfl
  have hD : decG (frL (hdL 3 [0, 0, 0, 1, 1])) = (⟨1, 3, 0, 0, 1, []⟩, 0) := by
    have hu : unS (frL (hdL 3 [0, 0, 0, 1, 1])) = ((3, [0, 0, 0, 1, 1]), 0) := unS_wrap (by simp)
    unfold decG
    rw [hu]
    rw [if_pos rfl, if_pos (show doneG 3 [0, 0, 0, 1, 1] from .inr (.inr ⟨rfl, rfl⟩))]
    rfl
  have hZ : decG [] = (zG, 2) := by
    have hu : unS [] = ((0, []), 2) := unS_bad (fun h => by have := h.1.1; simp at this)
    unfold decG
    rw [hu]
    rfl
  have hG : encG ⟨0, 4, 0, 0, 0, []⟩ = none := rfl
  have hln : (frL (hdL 3 [0, 0, 0, 1, 1])).length = 14 := by rw [fr_len, hd_len]; rfl
  have hrg : ∀ x ∈ frL (hdL 3 [0, 0, 0, 1, 1]), 0 ≤ x ∧ x < 256 := encG_range (g := ⟨1, 3, 0, 0, 1, []⟩) (fun x hx => by cases hx) hE
  obtain ⟨fr, hfr⟩ : ∃ x, frL (hdL 3 [0, 0, 0, 1, 1]) = x := ⟨_, rfl⟩
  rw [hfr] at hE hD hln hrg
  have HE := Lib.hid hE
  have HD := Lib.hid hD
  have HZ := Lib.hid hZ
  have HG := Lib.hid hG
  have HLN := Lib.hid hln
  have HRG := Lib.hid hrg
  clear hE hD hZ hG hln hrg hfr
  go_enter Try.func18, Try.ntmps18
  go_wp2_with fail
  refine (gencode_any w ⟨1, 3, 0, 0, 1, []⟩ none 0 0 rfl (Rd.nil _ _) (fun x hx => by cases hx) (by omega)).mono ?_
  rintro e w1 ⟨v1, rfl, hF, hm1, a1, c1, rfl⟩
  rw [HE.out] at hF ⊢
  have hrd : Rd w1 1 (.slice a1 14 c1) 14 (fr.map (Value.int .u8)) := by have h := Rd.ofOwn hF; rw [show ((some fr).getD []) = fr from rfl, HLN.out] at h; exact h
  rw [show ((some fr).getD []).length = 14 from HLN.out]
  simp only [Option.isNone_some, Bool.false_eq_true, if_false]
  have HRD := Lib.hid hrd
  have HM1 := Lib.hid hm1
  clear hF hrd hm1
  go_wp2_with fail
  refine (gdecode_any w1 a1 14 c1 fr HLN.out HRD.out HRG.out (by omega)).mono ?_
  rintro e w2 ⟨a2, c2, rfl, hF, hm2⟩
  rw [HD.out]
  unfold gramV
  simp only [List.length_nil]
  have HM2 := Lib.hid (HM1.out.of2 hm2)
  clear hF hm2
  go_upto_region 3 with fail
  obtain ⟨gb, hgb⟩ : ∃ b, w2.heap.size = b := ⟨_, rfl⟩
  obtain ⟨w3, hw3⟩ : ∃ W, w2.alloc (.cells #[.int .i64 1, .int .i64 3, .int .i64 0, .int .i64 0, .int .i64 1, .slice a2 0 c2] 44) = W := ⟨_, rfl⟩
  have hm3 : Mod (fun _ => False) w2 w3 := by rw [← hw3]; exact Mod.alloc _ _ _
  have hB3 : Blk w3 gb 44 [.int .i64 1, .int .i64 3, .int .i64 0, .int .i64 0, .int .i64 1, .slice a2 0 c2] := by rw [← hw3, ← hgb]; exact Blk.new _ _ [.int .i64 1, .int .i64 3, .int .i64 0, .int .i64 0, .int .i64 1, .slice a2 0 c2]
  rw [hw3, hgb]
  clear hw3 hgb
  have HB3 := Lib.hid hB3
  have HM3 := Lib.hid (HM2.out.of2 hm3)
  clear hB3 hm3
  go_wp2_with fail
  refine (gdecode_any w3 none 0 0 [] rfl (Rd.nil _ _) (fun x hx => by cases hx) (by omega)).mono ?_
  rintro e w4 ⟨a4, c4, rfl, hF, hm4⟩
  rw [HZ.out]
  unfold gramV zG
  simp only [List.length_nil]
  have HB4 := Lib.hid (HB3.out.keep hm4 (fun e => e))
  have HM4 := Lib.hid (HM3.out.of2 hm4)
  clear hF hm4
  go_upto_region 4 with fail
  obtain ⟨g2, hg2⟩ : ∃ b, w4.heap.size = b := ⟨_, rfl⟩
  obtain ⟨w5, hw5⟩ : ∃ W, w4.alloc (.cells #[.int .i64 0, .int .i64 0, .int .i64 0, .int .i64 0, .int .i64 0, .slice a4 0 c4] 44) = W := ⟨_, rfl⟩
  have hm5 : Mod (fun _ => False) w4 w5 := by rw [← hw5]; exact Mod.alloc _ _ _
  rw [hw5, hg2]
  clear hw5 hg2
  have HB5 := Lib.hid (HB4.out.keep hm5 (fun e => e))
  have HM5 := Lib.hid (HM4.out.of2 hm5)
  clear hm5
  go_wp2_with fail
  refine (gencode_any w5 ⟨0, 4, 0, 0, 0, []⟩ none 0 0 rfl (Rd.nil _ _) (fun x hx => by cases hx) (by omega)).mono ?_
  rintro e w6 ⟨v6, rfl, hF, hm6, a6, c6, rfl⟩
  rw [HG.out]
  simp only [Option.isNone_none, if_true]
  have HB6 := Lib.hid (HB5.out.keep hm6 (fun e => e))
  have HM6 := Lib.hid (HM5.out.of2 hm6)
  clear hF hm6
  have hbk := HB6.out
  have q0 := hbk.cell 0 rfl
  have q1 := hbk.cell 1 rfl
  have q2 := hbk.cell 2 rfl
  have q3 := hbk.cell 3 rfl
  have q4 := hbk.cell 4 rfl
  have q5 := hbk.cell 5 rfl
  have lq := hbk.lt
  clear hbk
  go_wp2_with fail
  go_ret
  exact ⟨rfl, HM6.out⟩
end Go.Proofs.Ytabfmnlpipbegaa
