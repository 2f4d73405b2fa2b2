/- GramBack walked. -/
import Derived.Test.YtabfmnlpipbegaaGramA
import Derived.Test.YtabfmnlpipbegaaGramT
import Derived.Test.YtabfmnlpipbegaaRound
import Derived.Test.YtabfmnlpipbegaaEvF
import Derived.Deep.DeepCutAuto
import Derived.Deep.CutBlock
namespace Go.Proofs.Ytabfmnlpipbegaa
open Go.RowKit Mile
set_option maxRecDepth 100000

set_option maxHeartbeats 16000000 in
theorem gback_all (w : World) (g : GrD) (a : Option Addr) (n c : Nat) (hn : g.body.length = n) (hr : Rd w 1 (.slice a n c) n (g.body.map (Value.int .u8))) (hb : ∀ x ∈ g.body, 0 ≤ x ∧ x < 256) (x y z : Int) :
    Calls Try.prog 7 #[gramV g a n c, .agg #[.int .i64 x, .int .i64 y, .int .i64 z]] w fun e w' => e = .returned (.bool true) ∧ Mod (fun _ => False) w w' := by
  obtain ⟨i0, hi8, hz0, hs8, hz2⟩ := info_parts Chk.info5
  obtain ⟨gc, gk, gs, ga, gd, bo⟩ := g
  replace hn : bo.length = n := hn
  replace hr : Rd w 1 (.slice a n c) n (bo.map (Value.int .u8)) := hr
  replace hb : ∀ x ∈ bo, 0 ≤ x ∧ x < 256 := hb
  unfold gramV
  simp only
  by_cases hlen : n ≤ 300
  case neg =>
    have HS : Hid (Ev (Mod (fun _ => False) w) w) := Lib.hid (Ev.mod w)
    have z0 : decide (300 < (n : Int)) = true := by simp; omega
    go_enter Try.func7, Try.ntmps7
    go_upto_region 1 with fail
    obtain ⟨bx, hbx⟩ : ∃ b, w.heap.size = b := ⟨_, rfl⟩
    obtain ⟨wq1, hwq1⟩ : ∃ W, World.alloc w (.cells #[.int .i64 gc, .int .i64 gk, .int .i64 gs, .int .i64 ga, .int .i64 gd, .slice a n c] 44) = W := ⟨_, rfl⟩
    have hBbx : Blk wq1 bx 44 [.int .i64 gc, .int .i64 gk, .int .i64 gs, .int .i64 ga, .int .i64 gd, .slice a n c] := by rw [← hwq1, ← hbx]; exact Blk.new _ 44 [.int .i64 gc, .int .i64 gk, .int .i64 gs, .int .i64 ga, .int .i64 gd, .slice a n c]
    have hzbx : wq1.heap.size = bx + 1 := by rw [← hwq1, ← hbx]; exact heap_size_alloc _ _
    replace HS := Lib.hid (HS.out.step (w' := wq1) (by rw [← hwq1]; exact Mod.alloc _ _ _))
    replace HS := Lib.hid ((Ev.blk hBbx).and HS.out)
    obtain ⟨bt, hbt⟩ : ∃ b, bx + 1 = b := ⟨_, rfl⟩
    obtain ⟨wq2, hwq2⟩ : ∃ W, World.alloc wq1 (.cells #[.int .i64 x, .int .i64 y, .int .i64 z] 55) = W := ⟨_, rfl⟩
    have hBbt : Blk wq2 bt 55 [.int .i64 x, .int .i64 y, .int .i64 z] := by rw [← hwq2, ← hbt, ← hzbx]; exact Blk.new _ 55 [.int .i64 x, .int .i64 y, .int .i64 z]
    have hzbt : wq2.heap.size = bt + 1 := by rw [← hwq2, ← hbt, ← hzbx]; exact heap_size_alloc _ _
    replace HS := Lib.hid (HS.out.step (w' := wq2) (by rw [← hwq2]; exact Mod.alloc _ _ _))
    replace HS := Lib.hid ((Ev.blk hBbt).and HS.out)
    try rw [hwq1]
    try rw [hbx]
    try rw [hwq2]
    try rw [hbt]
    clear hzbt hBbt hbt hwq2 hzbx hBbx hbx hwq1
    have hbbx := (HS.out.now).2.1
    have qbx_0 := hbbx.cell 0 rfl
    have qbx_1 := hbbx.cell 1 rfl
    have qbx_2 := hbbx.cell 2 rfl
    have qbx_3 := hbbx.cell 3 rfl
    have qbx_4 := hbbx.cell 4 rfl
    have qbx_5 := hbbx.cell 5 rfl
    have lbx := hbbx.lt
    clear hbbx
    have hbbt := (HS.out.now).1
    have qbt_0 := hbbt.cell 0 rfl
    have qbt_1 := hbbt.cell 1 rfl
    have qbt_2 := hbbt.cell 2 rfl
    have lbt := hbbt.lt
    clear hbbt
    go_wp2_with fail
    refine (awake23_any _).mono ?_
    rintro e wq3 ⟨rfl, hm⟩
    replace HS := Lib.hid (HS.out.step hm)
    clear hm
    clear qbx_0 qbx_1 qbx_2 qbx_3 qbx_4 qbx_5 lbx qbt_0 qbt_1 qbt_2 lbt
    have hbbx := (HS.out.now).2.1
    have qbx_0 := hbbx.cell 0 rfl
    have qbx_1 := hbbx.cell 1 rfl
    have qbx_2 := hbbx.cell 2 rfl
    have qbx_3 := hbbx.cell 3 rfl
    have qbx_4 := hbbx.cell 4 rfl
    have qbx_5 := hbbx.cell 5 rfl
    have lbx := hbbx.lt
    clear hbbx
    have hbbt := (HS.out.now).1
    have qbt_0 := hbbt.cell 0 rfl
    have qbt_1 := hbbt.cell 1 rfl
    have qbt_2 := hbbt.cell 2 rfl
    have lbt := hbbt.lt
    clear hbbt
    go_wp2_with fail
    go_ret
    exact ⟨rfl, (HS.out.now).2.2⟩
  case pos =>
    have HS : Hid (Ev (Mod (fun _ => False) w) w) := Lib.hid (Ev.mod w)
    replace HS := Lib.hid ((Ev.rd hr).and HS.out)
    have z0 : decide (300 < (n : Int)) = false := by simp; omega
    have HN := Lib.hid hn
    have HG := Lib.hid hb
    clear hn hr hb
    go_enter Try.func7, Try.ntmps7
    go_upto_region 1 with fail
    obtain ⟨bx, hbx⟩ : ∃ b, w.heap.size = b := ⟨_, rfl⟩
    obtain ⟨wq4, hwq4⟩ : ∃ W, World.alloc w (.cells #[.int .i64 gc, .int .i64 gk, .int .i64 gs, .int .i64 ga, .int .i64 gd, .slice a n c] 44) = W := ⟨_, rfl⟩
    have hBbx : Blk wq4 bx 44 [.int .i64 gc, .int .i64 gk, .int .i64 gs, .int .i64 ga, .int .i64 gd, .slice a n c] := by rw [← hwq4, ← hbx]; exact Blk.new _ 44 [.int .i64 gc, .int .i64 gk, .int .i64 gs, .int .i64 ga, .int .i64 gd, .slice a n c]
    have hzbx : wq4.heap.size = bx + 1 := by rw [← hwq4, ← hbx]; exact heap_size_alloc _ _
    replace HS := Lib.hid (HS.out.step (w' := wq4) (by rw [← hwq4]; exact Mod.alloc _ _ _))
    replace HS := Lib.hid ((Ev.blk hBbx).and HS.out)
    obtain ⟨bt, hbt⟩ : ∃ b, bx + 1 = b := ⟨_, rfl⟩
    obtain ⟨wq5, hwq5⟩ : ∃ W, World.alloc wq4 (.cells #[.int .i64 x, .int .i64 y, .int .i64 z] 55) = W := ⟨_, rfl⟩
    have hBbt : Blk wq5 bt 55 [.int .i64 x, .int .i64 y, .int .i64 z] := by rw [← hwq5, ← hbt, ← hzbx]; exact Blk.new _ 55 [.int .i64 x, .int .i64 y, .int .i64 z]
    have hzbt : wq5.heap.size = bt + 1 := by rw [← hwq5, ← hbt, ← hzbx]; exact heap_size_alloc _ _
    replace HS := Lib.hid (HS.out.step (w' := wq5) (by rw [← hwq5]; exact Mod.alloc _ _ _))
    replace HS := Lib.hid ((Ev.blk hBbt).and HS.out)
    try rw [hwq4]
    try rw [hbx]
    try rw [hwq5]
    try rw [hbt]
    clear hzbt hBbt hbt hwq5 hzbx hBbx hbx hwq4
    have hbbx := (HS.out.now).2.1
    have qbx_0 := hbbx.cell 0 rfl
    have qbx_1 := hbbx.cell 1 rfl
    have qbx_2 := hbbx.cell 2 rfl
    have qbx_3 := hbbx.cell 3 rfl
    have qbx_4 := hbbx.cell 4 rfl
    have qbx_5 := hbbx.cell 5 rfl
    have lbx := hbbx.lt
    clear hbbx
    have hbbt := (HS.out.now).1
    have qbt_0 := hbbt.cell 0 rfl
    have qbt_1 := hbbt.cell 1 rfl
    have qbt_2 := hbbt.cell 2 rfl
    have lbt := hbbt.lt
    clear hbbt
    go_wp2_with fail
    refine (gencode_any _ ⟨gc, gk, gs, ga, gd, bo⟩ a n c HN.out ((HS.out.now).2.2.1) HG.out (by omega)).mono ?_
    rintro e wq6 ⟨v1, rfl, hF, hmm, a3, c3, rfl⟩
    replace HS := Lib.hid (HS.out.step hmm)
    clear hmm
    clear qbx_0 qbx_1 qbx_2 qbx_3 qbx_4 qbx_5 lbx qbt_0 qbt_1 qbt_2 lbt
    have hbbx := (HS.out.now).2.1
    have qbx_0 := hbbx.cell 0 rfl
    have qbx_1 := hbbx.cell 1 rfl
    have qbx_2 := hbbx.cell 2 rfl
    have qbx_3 := hbbx.cell 3 rfl
    have qbx_4 := hbbx.cell 4 rfl
    have qbx_5 := hbbx.cell 5 rfl
    have lbx := hbbx.lt
    clear hbbx
    have hbbt := (HS.out.now).1
    have qbt_0 := hbbt.cell 0 rfl
    have qbt_1 := hbbt.cell 1 rfl
    have qbt_2 := hbbt.cell 2 rfl
    have lbt := hbbt.lt
    clear hbbt
    clear z0
    cases hen : encG ⟨gc, gk, gs, ga, gd, bo⟩ with
    | none =>
      try rw [hen] at hF
      try rw [hen]
      simp only [Option.isNone_none, if_true, Option.getD_none, List.length_nil] at hF ⊢
      clear hF hen
      go_wp2_with fail
      refine (awake23_any _).mono ?_
      rintro e wq7 ⟨rfl, hm⟩
      replace HS := Lib.hid (HS.out.step hm)
      clear hm
      clear qbx_0 qbx_1 qbx_2 qbx_3 qbx_4 qbx_5 lbx qbt_0 qbt_1 qbt_2 lbt
      have hbbx := (HS.out.now).2.1
      have qbx_0 := hbbx.cell 0 rfl
      have qbx_1 := hbbx.cell 1 rfl
      have qbx_2 := hbbx.cell 2 rfl
      have qbx_3 := hbbx.cell 3 rfl
      have qbx_4 := hbbx.cell 4 rfl
      have qbx_5 := hbbx.cell 5 rfl
      have lbx := hbbx.lt
      clear hbbx
      have hbbt := (HS.out.now).1
      have qbt_0 := hbbt.cell 0 rfl
      have qbt_1 := hbbt.cell 1 rfl
      have qbt_2 := hbbt.cell 2 rfl
      have lbt := hbbt.lt
      clear hbbt
      go_wp2_with fail
      go_ret
      exact ⟨rfl, (HS.out.now).2.2.2⟩
    | some bs =>
      try rw [hen] at hF
      try rw [hen]
      simp only [Option.isNone_some, Bool.false_eq_true, if_false, Option.getD_some] at hF ⊢
      obtain ⟨L, hL⟩ : ∃ x, bs.length = x := ⟨_, rfl⟩
      rw [hL] at hF ⊢
      have HL := Lib.hid hL
      replace HS := Lib.hid (((Ev.own (show World.ownsRow wq6 _ 5 1 (.slice a3 L c3) L (bs.map (Value.int .u8)) from by rw [← hL]; rw [← hL] at hF; exact hF))).and HS.out)
      obtain ⟨hd1, hd2, hd3⟩ := dec_enc hen
      rw [hL] at hd3
      have hlb : 14 ≤ L ∧ L ≤ 321 := by have h := HN.out; simp only at hd3 hd2; rcases hd2 with hk | hk | hk <;> (rw [hk] at hd3; simp at hd3; omega)
      obtain ⟨hl14, hlb⟩ := hlb
      obtain ⟨ns, na, nd, nb, hnf, hnl, hng, hne⟩ := norm_form hen HG.out
      rw [hnf] at hd1
      have hnl2 : nb.length ≤ 300 := by have := HN.out; omega
      have HD1 := Lib.hid hd1
      have HRG := Lib.hid (encG_range (g := ⟨gc, gk, gs, ga, gd, bo⟩) HG.out hen)
      have HNG := Lib.hid hng
      have HNE := Lib.hid hne
      have HTU := Lib.hid (gram_turned hen HG.out (by have := HN.out; show bo.length ≤ 300; omega))
      obtain ⟨M, hM⟩ : ∃ x, nb.length = x := ⟨_, rfl⟩
      rw [hM] at hnl2
      have HM := Lib.hid hM
      clear hF hL hd1 hd2 hd3 hnf hnl hng hne hen hM
      have zL : ((L : Int) == 0) = false := by simp; omega
      have zL9 : decide ((L : Int) < 9) = false := by simp; omega
      go_wp2_with fail
      refine (gdecode_any _ a3 L c3 bs HL.out (Rd.ofOwn ((HS.out.now).1)) HRG.out (by omega)).mono ?_
      rintro e wq8 ⟨a9, c9, rfl, hF, hmm⟩
      replace HS := Lib.hid (HS.out.step hmm)
      clear hmm
      rw [HD1.out] at hF ⊢
      unfold gramV
      simp only at hF ⊢
      rw [HM.out] at hF ⊢
      replace HS := Lib.hid (((Ev.rd (show Rd wq8 1 (.slice a9 M c9) M (nb.map (Value.int .u8)) from by have h := Rd.ofOwn hF; rw [HM.out] at h; exact h))).and HS.out)
      clear hF zL zL9
      go_upto_region 9 with fail
      clear qbx_0 qbx_1 qbx_2 qbx_3 qbx_4 qbx_5 lbx qbt_0 qbt_1 qbt_2 lbt
      obtain ⟨bq, hbq⟩ : ∃ b, wq8.heap.size = b := ⟨_, rfl⟩
      obtain ⟨wq9, hwq9⟩ : ∃ W, World.alloc wq8 (.cells #[.int .i64 gc, .int .i64 gk, .int .i64 ns, .int .i64 na, .int .i64 nd, .slice a9 M c9] 44) = W := ⟨_, rfl⟩
      have hBbq : Blk wq9 bq 44 [.int .i64 gc, .int .i64 gk, .int .i64 ns, .int .i64 na, .int .i64 nd, .slice a9 M c9] := by rw [← hwq9, ← hbq]; exact Blk.new _ 44 [.int .i64 gc, .int .i64 gk, .int .i64 ns, .int .i64 na, .int .i64 nd, .slice a9 M c9]
      have hzbq : wq9.heap.size = bq + 1 := by rw [← hwq9, ← hbq]; exact heap_size_alloc _ _
      replace HS := Lib.hid (HS.out.step (w' := wq9) (by rw [← hwq9]; exact Mod.alloc _ _ _))
      replace HS := Lib.hid ((Ev.blk hBbq).and HS.out)
      try rw [hwq9]
      try rw [hbq]
      clear hzbq hBbq hbq hwq9
      have hbbx := (HS.out.now).2.2.2.2.1
      have qbx_0 := hbbx.cell 0 rfl
      have qbx_1 := hbbx.cell 1 rfl
      have qbx_2 := hbbx.cell 2 rfl
      have qbx_3 := hbbx.cell 3 rfl
      have qbx_4 := hbbx.cell 4 rfl
      have qbx_5 := hbbx.cell 5 rfl
      have lbx := hbbx.lt
      clear hbbx
      have hbbt := (HS.out.now).2.2.2.1
      have qbt_0 := hbbt.cell 0 rfl
      have qbt_1 := hbbt.cell 1 rfl
      have qbt_2 := hbbt.cell 2 rfl
      have lbt := hbbt.lt
      clear hbbt
      have hbbq := (HS.out.now).1
      have qbq_0 := hbbq.cell 0 rfl
      have qbq_1 := hbbq.cell 1 rfl
      have qbq_2 := hbbq.cell 2 rfl
      have qbq_3 := hbbq.cell 3 rfl
      have qbq_4 := hbbq.cell 4 rfl
      have qbq_5 := hbbq.cell 5 rfl
      have lbq := hbbq.lt
      clear hbbq
      go_wp2_with fail
      refine (gencode_any _ ⟨gc, gk, ns, na, nd, nb⟩ a9 M c9 HM.out ((HS.out.now).2.1) HNG.out (by omega)).mono ?_
      rintro e wq10 ⟨v1, rfl, hF, hmm, a4, c4, rfl⟩
      replace HS := Lib.hid (HS.out.step hmm)
      clear hmm
      rw [HNE.out] at hF ⊢
      simp only [Option.isNone_some, Bool.false_eq_true, if_false, Option.getD_some] at hF ⊢
      rw [HL.out] at hF ⊢
      replace HS := Lib.hid (((Ev.own (show World.ownsRow wq10 _ 5 1 (.slice a4 L c4) L (bs.map (Value.int .u8)) from by have h := hF; unfold Fresh at h; rw [HL.out] at h; exact h))).and HS.out)
      clear hF
      clear qbx_0 qbx_1 qbx_2 qbx_3 qbx_4 qbx_5 lbx qbt_0 qbt_1 qbt_2 lbt qbq_0 qbq_1 qbq_2 qbq_3 qbq_4 qbq_5 lbq
      have hbbx := (HS.out.now).2.2.2.2.2.1
      have qbx_0 := hbbx.cell 0 rfl
      have qbx_1 := hbbx.cell 1 rfl
      have qbx_2 := hbbx.cell 2 rfl
      have qbx_3 := hbbx.cell 3 rfl
      have qbx_4 := hbbx.cell 4 rfl
      have qbx_5 := hbbx.cell 5 rfl
      have lbx := hbbx.lt
      clear hbbx
      have hbbt := (HS.out.now).2.2.2.2.1
      have qbt_0 := hbbt.cell 0 rfl
      have qbt_1 := hbbt.cell 1 rfl
      have qbt_2 := hbbt.cell 2 rfl
      have lbt := hbbt.lt
      clear hbbt
      have hbbq := (HS.out.now).2.1
      have qbq_0 := hbbq.cell 0 rfl
      have qbq_1 := hbbq.cell 1 rfl
      have qbq_2 := hbbq.cell 2 rfl
      have qbq_3 := hbbq.cell 3 rfl
      have qbq_4 := hbbq.cell 4 rfl
      have qbq_5 := hbbq.cell 5 rfl
      have lbq := hbbq.lt
      clear hbbq
      go_upto_region 10 with fail
      have h1c : ∀ u ∈ bs.map (Value.int .u8), u.oneCell' = true := by intro u hu; simp at hu; obtain ⟨x, _, rfl⟩ := hu; rfl
      have hap1 : 0 + L ≤ maxLen := by unfold maxLen; omega
      have hap2 : (0 + L) * 1 ≤ 140737488355328 := by omega
      have hr3 := Rd.ofOwn ((HS.out.now).2.2.2.1)
      have HBT := Lib.hid ((HS.out.now).2.2.2.2.1)
      clear qbx_0 qbx_1 qbx_2 qbx_3 qbx_4 qbx_5 lbx qbt_0 qbt_1 qbt_2 lbt qbq_0 qbq_1 qbq_2 qbq_3 qbq_4 qbq_5 lbq
      go_wp2_with (at_builtin; refine wpList_append_any rfl (.tmp 47) (.tmp 48) 27 rfl 5 i0 (.int .u8 0) 1 1 Try.underlying27 hi8 hz0 hs8 hz2 rfl (by decide) _ 0 [] rfl (own_empty _ _ _ _ (by simp)) _ L (bs.map (Value.int .u8)) rfl (hr3.alloc _) h1c hap1 hap2 ?_; intro v4 w4 hap; obtain ⟨a5, c5, rfl⟩ := hap.form; have ho4 := hap.own; have hl4 := hap.low (B := wq10.heap.size) (by simp) (low_lit (Nat.le_refl _)); have hm4 := hap.modOld (Mod.alloc (fun _ => False) wq10 _) (low_lit (Nat.le_refl _)); simp only [Nat.zero_add, List.nil_append] at ho4 hl4; clear hap; obtain ⟨g, rfl⟩ := own_some3' ho4 (by omega); have hg := hl4 g rfl)
      have hbtlt : bt < wq10.heap.size := HBT.out.lt
      have hgt : bt < g := by omega
      have hbglt : bx < wq10.heap.size := ((HS.out.now).2.2.2.2.2.1).lt
      have hgg : bx < g := by omega
      have hbqlt : bq < wq10.heap.size := ((HS.out.now).2.1).lt
      have hgq : bq < g := by omega
      have HWS : Hid (w.heap.size ≤ g) := Lib.hid (by have h1 := ((HS.out.now).2.2.2.2.2.2.2).size; omega)
      have HNEQ : Hid (∀ k, (Value.slice a3 L c3).ownBlock = some k → ¬ k = g) := Lib.hid fun k hk e => by have := (((HS.out.now).2.2.2.1).lt k hk).2; omega
      have HND : Hid (∀ k, (Value.slice a4 L c4).ownBlock = some k → ¬ k = g) := Lib.hid fun k hk e => by have := (((HS.out.now).1).lt k hk).2; omega
      replace HS := Lib.hid (HS.out.step hm4)
      clear hm4 hl4 hg hr3 h1c hap1 hap2 HBT hbtlt hbglt hbqlt
      have hbox4 := (HS.out.now).2.2.2.2.1
      have hgr4 := Lib.hid ((HS.out.now).2.2.2.2.2.1)
      have hgq4 := Lib.hid ((HS.out.now).2.1)
      have hM4 := Lib.hid ((HS.out.now).2.2.2.2.2.2.2)
      have hr4 := Lib.hid (Rd.ofOwn ((HS.out.now).2.2.2.1))
      have hr5 := Lib.hid (Rd.ofOwn ((HS.out.now).1))
      go_loopw [12, 13] (fun i _ wr => ∃ (j : Nat) (ps : List (Nat × Nat)), j ≤ 3 ∧ i = .int .i64 j ∧ (ps.length ≤ j ∧ ∀ p ∈ ps, (p.1 < L ∧ p.2 < 8) ∧ p.1 ≠ 3 ∧ p.1 ≠ 4) ∧ wr.ownsRow 0 5 1 (.slice (some ⟨g, 0, none⟩) L c5) L ((ps.foldl flipL bs).map (Value.int .u8)) ∧
          Blk wr bt 55 [.int .i64 x, .int .i64 y, .int .i64 z] ∧ Mod (fun k => k = g) w4 wr) (fun i _ _ => 3 - (intOf i).toNat)
      case atStart => exact ⟨0, [], by omega, rfl, ⟨by simp, by simp⟩, ho4, hbox4, Mod.refl _ _⟩
      case round =>
        clear ho4 hbox4
        obtain ⟨j, ps, hj, rfl, hps, hown, hbox, hM⟩ := hrel
        have HPS := Lib.hid hps
        clear hps
        have hcl := foldl_flip_len ps bs
        rw [HL.out] at hcl
        have hcb := foldl_flip_bytes ps bs HRG.out
        obtain ⟨cs, hcs⟩ : ∃ cs, ps.foldl flipL bs = cs := ⟨_, rfl⟩
        rw [hcs] at hown hcl hcb
        have HCL := Lib.hid hcl
        have HCS := Lib.hid hcs
        clear hcl hcs
        by_cases hlt : j < 3
        case pos =>
          have HHCB := Lib.hid hcb
          clear hcb
          obtain ⟨u, hu⟩ : ∃ u, wr.cell? ⟨bt, j, none⟩ = some (.int .i64 u) := by
            have : j = 0 ∨ j = 1 ∨ j = 2 := by omega
            rcases this with rfl | rfl | rfl
            · exact ⟨x, hbox.cell 0 rfl⟩
            · exact ⟨y, hbox.cell 1 rfl⟩
            · exact ⟨z, hbox.cell 2 rfl⟩
          have hmod := Int.emod_nonneg u (show (8 * (L : Int)) ≠ 0 by omega)
          have hmod2 := Int.emod_lt_of_pos u (show 0 < (8 * (L : Int)) by omega)
          obtain ⟨mm, hmn⟩ := Int.eq_ofNat_of_zero_le hmod
          have hmn2 : mm < 8 * L := by omega
          have HMM := Lib.hid hmn
          clear hmod hmod2 hmn
          obtain ⟨q, hq⟩ : ∃ q, mm / 8 = q := ⟨_, rfl⟩
          obtain ⟨r, hr8⟩ : ∃ r, mm % 8 = r := ⟨_, rfl⟩
          have hqn : q < L := by omega
          have hrl : r < 8 := by omega
          have hql : q < cs.length := by rw [HCL.out]; exact hqn
          have hq' : (mm : Int) / 8 = (q : Int) := by omega
          have hr' : (mm : Int) % 8 = (r : Int) := by omega
          clear hq hr8
          by_cases hq3 : q = 3
          case pos =>
            subst hq3
            go_wp2_with fail
            refine (round_any _ _ _ (by omega) (by omega)).mono ?_
            rintro e' w' ⟨rfl, rfl⟩
            rw [HMM.out]
            go_wp2_with fail
            go_roundw
            case rel => exact ⟨j + 1, ps, hlt, by go_num, ⟨by have := HPS.out.1; omega, HPS.out.2⟩, by rw [HCS.out]; exact hown, hbox, hM⟩
            case measure => simp [intOf]; omega
          by_cases hq4 : q = 4
          case pos =>
            subst hq4
            go_wp2_with fail
            refine (round_any _ _ _ (by omega) (by omega)).mono ?_
            rintro e' w' ⟨rfl, rfl⟩
            rw [HMM.out]
            go_wp2_with fail
            go_roundw
            case rel => exact ⟨j + 1, ps, hlt, by go_num, ⟨by have := HPS.out.1; omega, HPS.out.2⟩, by rw [HCS.out]; exact hown, hbox, hM⟩
            case measure => simp [intOf]; omega
          have g3 : ((q : Int) == 3) = false := by rw [beq_eq_false_iff_ne]; omega
          have g4 : ((q : Int) == 4) = false := by rw [beq_eq_false_iff_ne]; omega
          have g5 : ((q : Int) != 3) = true := by simp; omega
          have g6 : ((q : Int) != 4) = true := by simp; omega
          have hst := hown.stored q (.int .u8 (bxor cs[q] (2 ^ r)))
          have hfl : Hid (cs.set q (bxor cs[q] (2 ^ r)) = (ps ++ [(q, r)]).foldl flipL bs) := Lib.hid (by
            rw [List.foldl_append, HCS.out]
            show _ = cs.set q (bxor (cs.getD q 0) (2 ^ r))
            rw [show cs.getD q 0 = cs[q] by simp [List.getD, hql]])
          have c1 : wr.cell? ⟨g, q, none⟩ = some (.int .u8 cs[q]) := by rw [hown.cellAt q (by omega)]; simp [hql]
          have c2 := hown.frozenAt q
          obtain ⟨e, he⟩ : ∃ e, cs[q] = e := ⟨_, rfl⟩
          rw [he] at hst c1 hfl
          clear he
          have hx : Hid (bits .xor .u8 e (2 ^ r % 256) = bxor e (2 ^ r)) := by
            refine Lib.hid ?_
            rw [bxor_bits]
            congr 1
            have : r = 0 ∨ r = 1 ∨ r = 2 ∨ r = 3 ∨ r = 4 ∨ r = 5 ∨ r = 6 ∨ r = 7 := by omega
            rcases this with rfl | rfl | rfl | rfl | rfl | rfl | rfl | rfl <;> decide
          rw [← List.map_set] at hst
          have hst1 := Lib.hid hst.1
          have hst2 := Lib.hid (hM.trans ((Mod.ofGrown hst.2).mono (fun k _ h => (Option.some.inj h).symm)) (H := fun k => k = g) (fun _ _ e => e) (fun _ _ e => e))
          have hbx2 := Lib.hid (hbox.setOther ⟨g, q, none⟩ (.int .u8 (bxor e (2 ^ r))) (by show bt ≠ g; omega))
          have HQ3 := Lib.hid hq3
          have HQ4 := Lib.hid hq4
          clear hst hown hM hq3 hq4
          go_wp2_with fail
          refine (round_any _ _ _ (by omega) (by omega)).mono ?_
          rintro e' w' ⟨rfl, rfl⟩
          rw [HMM.out]
          go_wp2_with fail
          go_region
          go_wp2
          go_roundw
          case rel =>
            rw [hx.out]
            refine ⟨j + 1, ps ++ [(q, r)], hlt, by go_num, ⟨by rw [List.length_append]; have := HPS.out.1; simp; omega, fun p hp => ?_⟩, ?_, hbx2.out.drew, hst2.out.thenDrew⟩
            · rcases List.mem_append.1 hp with e | e
              · exact HPS.out.2 p e
              · rcases List.mem_singleton.1 e with rfl
                exact ⟨⟨hqn, hrl⟩, HQ3.out, HQ4.out⟩
            · rw [← hfl.out]; exact World.ownsRow.drew hst1.out
          case measure => simp [intOf]; omega
        case neg =>
          obtain rfl : j = 3 := by omega
          have hMW := hM4.out.trans hM (H := fun _ => False) (fun _ _ e => e) (fun i hi e => by have h1 : i = g := e; have h2 := HWS.out; omega)
          have hrb := hr4.out.keep hM HNEQ.out
          have hrd := hr5.out.keep hM HND.out
          have hgrb := hgr4.out.keep hM (fun e => by have h1 : bx = g := e; omega)
          have hgqb := hgq4.out.keep hM (fun e => by have h1 : bq = g := e; omega)
          have hrc := Rd.ofOwn hown
          have hcl2 : cs.length = L := HCL.out
          have htu := HTU.out ps HPS.out.1 (fun p hp => by rw [HL.out]; exact HPS.out.2 p hp)
          rw [HCS.out] at htu
          have HTC := Lib.hid htu
          clear htu
          have HHC := Lib.hid hcb
          have HRB := Lib.hid hrb
          have HRD := Lib.hid hrd
          have HRC := Lib.hid hrc
          have HGR := Lib.hid hgrb
          have HGQ := Lib.hid hgqb
          have HMW := Lib.hid hMW
          clear hcb hrb hrd hrc hgrb hgqb hMW hown hbox hM
          obtain ⟨D, hD⟩ : ∃ x, decG cs = x := ⟨_, rfl⟩
          go_wp2_with fail
          refine (gdecode_any wr (some ⟨g, 0, none⟩) L c5 cs hcl2 HRC.out HHC.out (by omega)).mono ?_
          rintro e w6 ⟨a6, c6, rfl, _, hm6⟩
          rw [hD]
          obtain ⟨⟨uc, uk, us, ua, ud, uo⟩, ue⟩ := D
          have HD := Lib.hid hD
          clear hD
          unfold gramV
          simp only
          obtain ⟨UL, hUL⟩ : ∃ x, uo.length = x := ⟨_, rfl⟩
          rw [hUL]
          clear hUL
          have HM6 := Lib.hid hm6
          clear hm6
          go_upto_region 18 with fail
          obtain ⟨w7, hw7⟩ : ∃ W, w6.alloc (.cells #[.int .i64 uc, .int .i64 uk, .int .i64 us, .int .i64 ua, .int .i64 ud, .slice a6 UL c6] 44) = W := ⟨_, rfl⟩
          have hm7 : Mod (fun _ => False) w6 w7 := by rw [← hw7]; exact Mod.alloc _ _ _
          try rw [hw7]
          clear hw7
          have hm67 := HM6.out.of2 hm7
          have k1 := run_strS w7 27 9 5 Try.underlying27 Try.underlying5 Try.underlying9 (HRC.out.keepA hm67 (fun _ _ e => e.elim))
          have k2 := run_strS w7 27 9 5 Try.underlying27 Try.underlying5 Try.underlying9 (HRB.out.keepA hm67 (fun _ _ e => e.elim))
          have k3 := run_strS w7 27 9 5 Try.underlying27 Try.underlying5 Try.underlying9 (HRD.out.keepA hm67 (fun _ _ e => e.elim))
          skip
          obtain ⟨sa, hsa⟩ : ∃ x, strOf cs = x := ⟨_, rfl⟩
          obtain ⟨sb, hsb⟩ : ∃ x, strOf bs = x := ⟨_, rfl⟩
          rw [hsa] at k1
          rw [hsb] at k2 k3
          have hgb := HGR.out.keep hm67 (fun e => e)
          have q0 := hgb.cell 0 rfl
          have q1 := hgb.cell 1 rfl
          have lq := hgb.lt
          have hgb2 := HGQ.out.keep hm67 (fun e => e)
          have p0 := hgb2.cell 0 rfl
          have p1 := hgb2.cell 1 rfl
          have lp := hgb2.lt
          clear hgb hgb2
          have HM7 := Lib.hid (HMW.out.of2 hm67)
          clear hm7 hm67
          by_cases hcb : cs = bs
          case pos =>
            have hue : ue = 0 := by have h := HD.out; rw [hcb, HD1.out] at h; exact (congrArg Prod.snd h).symm
            have hxy : (sa.toList == sb.toList) = true := by rw [← hsa, ← hsb, hcb]; simp
            subst hue
            have HCB := Lib.hid hcb
            clear hcb hsa hsb
            go_wp2_with (go_at_call 18; refine (awake23_any _).mono ?_; rintro e w9 ⟨rfl, hM9⟩; have HM9 := Lib.hid hM9; clear hM9)
            go_ret
            exact ⟨rfl, HM7.out.of2 HM9.out⟩
          case neg =>
            have hue : ue = 2 := by have h := (HTC.out.resolve_left hcb); rw [HD.out] at h; exact h
            have hxy : (sa.toList == sb.toList) = false := by rw [← beq_toListBytes, ← hsa, ← hsb]; exact bytes_beq_ne (fun e => hcb (strOf_inj HHC.out HRG.out e))
            subst hue
            have HCB := Lib.hid hcb
            clear hcb hsa hsb
            go_wp2_with (go_at_call 18; refine (awake23_any _).mono ?_; rintro e w9 ⟨rfl, hM9⟩; have HM9 := Lib.hid hM9; clear hM9)
            go_ret
            exact ⟨rfl, HM7.out.of2 HM9.out⟩
theorem gback_law (w : World) (cs : Array Value) (x : GramD) (hcs : cs.toList = encGram.img x) (ok : encGram.ok w x) (cs2 : Array Value) (x2 : Int × Int × Int) (hcs2 : cs2.toList = (encPair (encInt .i64) (encPair (encInt .i64) (encInt .i64))).img x2) (_ : (encPair (encInt .i64) (encPair (encInt .i64) (encInt .i64))).ok w x2) :
    Calls Try.prog 7 #[.agg cs, .agg cs2] w fun e w' => e = .returned (.bool true) ∧ Below w.heap.size w w' := by
  obtain ⟨g, a, n, c, hv, hn, hr, hb⟩ := gram_in hcs ok
  obtain ⟨x, y, z⟩ := x2
  have e : cs2 = #[.int .i64 x, .int .i64 y, .int .i64 z] := Array.toList_inj.1 hcs2
  subst e
  rw [hv]
  exact (gback_all w g a n c hn hr hb x y z).mono fun e w' h => ⟨h.1, h.2.below (Nat.le_refl _) (fun _ e => e.elim)⟩
end Go.Proofs.Ytabfmnlpipbegaa
