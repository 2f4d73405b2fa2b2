/- MessageBack walked. -/
import Derived.Test.YtabfmnlpipbegaaMsgA
import Derived.Test.YtabfmnlpipbegaaRound
import Derived.Test.YtabfmnlpipbegaaEvF
import Derived.Deep.DeepCutAuto
import Derived.Deep.CutBlock
namespace Go.Proofs.Ytabfmnlpipbegaa
open Go.RowKit Mile
set_option maxRecDepth 100000

set_option maxHeartbeats 16000000 in
theorem mback_all (w : World) (m : MsD) (a : Option Addr) (n c : Nat) (hn : m.edges.length = n) (hr : Rd w 1 (.slice a n c) n (m.edges.map (Value.int .i64))) (he : -9223372036854775808 ≤ m.he ∧ m.he ≤ 9223372036854775807) (cut more : Int) (HMO : Hid (0 ≤ more ∧ more < 256)) :
    Calls Try.prog 4 #[msgV m a n c, .int .i64 cut, .int .u8 more] w fun e w' => e = .returned (.bool true) ∧ Mod (fun _ => False) w w' := by
  obtain ⟨i0, hi8, hz0, hs8, hz2⟩ := info_parts Chk.info5
  obtain ⟨mk, mp, md, ed, mw, mc, me, mf, ml⟩ := m
  replace hn : ed.length = n := hn
  replace hr : Rd w 1 (.slice a n c) n (ed.map (Value.int .i64)) := hr
  replace he : -9223372036854775808 ≤ me ∧ me ≤ 9223372036854775807 := he
  unfold msgV
  simp only
  by_cases hlen : n ≤ 600
  case neg =>
    have HS : Hid (Ev (Mod (fun _ => False) w) w) := Lib.hid (Ev.mod w)
    have z0 : decide (600 < (n : Int)) = true := by simp; omega
    go_enter Try.func4, Try.ntmps4
    go_upto_region 1 with fail
    obtain ⟨bx, hbx⟩ : ∃ b, w.heap.size = b := ⟨_, rfl⟩
    obtain ⟨wq1, hwq1⟩ : ∃ W, World.alloc w (.cells #[.int .i64 mk, .int .i64 mp, .int .i64 md, .slice a n c, .int .i64 mw, .int .i64 mc, .int .i64 me, .int .i64 mf, .int .i64 ml] 26) = W := ⟨_, rfl⟩
    have hBbx : Blk wq1 bx 26 [.int .i64 mk, .int .i64 mp, .int .i64 md, .slice a n c, .int .i64 mw, .int .i64 mc, .int .i64 me, .int .i64 mf, .int .i64 ml] := by rw [← hwq1, ← hbx]; exact Blk.new _ 26 [.int .i64 mk, .int .i64 mp, .int .i64 md, .slice a n c, .int .i64 mw, .int .i64 mc, .int .i64 me, .int .i64 mf, .int .i64 ml]
    have hzbx : wq1.heap.size = bx + 1 := by rw [← hwq1, ← hbx]; exact heap_size_alloc _ _
    replace HS := Lib.hid (HS.out.step (w' := wq1) (by rw [← hwq1]; exact Mod.alloc _ _ _))
    replace HS := Lib.hid ((Ev.blk hBbx).and HS.out)
    try rw [hwq1]
    try rw [hbx]
    clear hzbx hBbx hbx hwq1
    have hbbx := (HS.out.now).1
    have qbx_0 := hbbx.cell 0 rfl
    have qbx_1 := hbbx.cell 1 rfl
    have qbx_2 := hbbx.cell 2 rfl
    have qbx_3 := hbbx.cell 3 rfl
    have qbx_4 := hbbx.cell 4 rfl
    have qbx_5 := hbbx.cell 5 rfl
    have qbx_6 := hbbx.cell 6 rfl
    have qbx_7 := hbbx.cell 7 rfl
    have qbx_8 := hbbx.cell 8 rfl
    have lbx := hbbx.lt
    clear hbbx
    go_wp2_with fail
    refine (awake22_any _).mono ?_
    rintro e wq2 ⟨rfl, hm⟩
    replace HS := Lib.hid (HS.out.step hm)
    clear hm
    clear qbx_0 qbx_1 qbx_2 qbx_3 qbx_4 qbx_5 qbx_6 qbx_7 qbx_8 lbx
    have hbbx := (HS.out.now).1
    have qbx_0 := hbbx.cell 0 rfl
    have qbx_1 := hbbx.cell 1 rfl
    have qbx_2 := hbbx.cell 2 rfl
    have qbx_3 := hbbx.cell 3 rfl
    have qbx_4 := hbbx.cell 4 rfl
    have qbx_5 := hbbx.cell 5 rfl
    have qbx_6 := hbbx.cell 6 rfl
    have qbx_7 := hbbx.cell 7 rfl
    have qbx_8 := hbbx.cell 8 rfl
    have lbx := hbbx.lt
    clear hbbx
    go_wp2_with fail
    go_ret
    exact ⟨rfl, (HS.out.now).2⟩
  case pos =>
    have HS : Hid (Ev (Mod (fun _ => False) w) w) := Lib.hid (Ev.mod w)
    replace HS := Lib.hid ((Ev.rd hr).and HS.out)
    have z0 : decide (600 < (n : Int)) = false := by simp; omega
    have HN := Lib.hid hn
    have HE := Lib.hid he
    clear hn hr he
    go_enter Try.func4, Try.ntmps4
    go_upto_region 1 with fail
    obtain ⟨bx, hbx⟩ : ∃ b, w.heap.size = b := ⟨_, rfl⟩
    obtain ⟨wq3, hwq3⟩ : ∃ W, World.alloc w (.cells #[.int .i64 mk, .int .i64 mp, .int .i64 md, .slice a n c, .int .i64 mw, .int .i64 mc, .int .i64 me, .int .i64 mf, .int .i64 ml] 26) = W := ⟨_, rfl⟩
    have hBbx : Blk wq3 bx 26 [.int .i64 mk, .int .i64 mp, .int .i64 md, .slice a n c, .int .i64 mw, .int .i64 mc, .int .i64 me, .int .i64 mf, .int .i64 ml] := by rw [← hwq3, ← hbx]; exact Blk.new _ 26 [.int .i64 mk, .int .i64 mp, .int .i64 md, .slice a n c, .int .i64 mw, .int .i64 mc, .int .i64 me, .int .i64 mf, .int .i64 ml]
    have hzbx : wq3.heap.size = bx + 1 := by rw [← hwq3, ← hbx]; exact heap_size_alloc _ _
    replace HS := Lib.hid (HS.out.step (w' := wq3) (by rw [← hwq3]; exact Mod.alloc _ _ _))
    replace HS := Lib.hid ((Ev.blk hBbx).and HS.out)
    try rw [hwq3]
    try rw [hbx]
    clear hzbx hBbx hbx hwq3
    have hbbx := (HS.out.now).1
    have qbx_0 := hbbx.cell 0 rfl
    have qbx_1 := hbbx.cell 1 rfl
    have qbx_2 := hbbx.cell 2 rfl
    have qbx_3 := hbbx.cell 3 rfl
    have qbx_4 := hbbx.cell 4 rfl
    have qbx_5 := hbbx.cell 5 rfl
    have qbx_6 := hbbx.cell 6 rfl
    have qbx_7 := hbbx.cell 7 rfl
    have qbx_8 := hbbx.cell 8 rfl
    have lbx := hbbx.lt
    clear hbbx
    have C10 := mencode_any wq3 ⟨mk, mp, md, ed, mw, mc, me, mf, ml⟩ a n c HN.out ((HS.out.now).2.1) (by omega) HE.out
    unfold msgV at C10
    simp only at C10
    have C1 := Lib.hid C10
    clear C10
    go_wp2_with fail
    refine (C1.out).mono ?_
    rintro e wq4 ⟨a3, c3, rfl, hF, hmm⟩
    replace HS := Lib.hid (HS.out.step hmm)
    clear hmm
    clear qbx_0 qbx_1 qbx_2 qbx_3 qbx_4 qbx_5 qbx_6 qbx_7 qbx_8 lbx
    have hbbx := (HS.out.now).1
    have qbx_0 := hbbx.cell 0 rfl
    have qbx_1 := hbbx.cell 1 rfl
    have qbx_2 := hbbx.cell 2 rfl
    have qbx_3 := hbbx.cell 3 rfl
    have qbx_4 := hbbx.cell 4 rfl
    have qbx_5 := hbbx.cell 5 rfl
    have qbx_6 := hbbx.cell 6 rfl
    have qbx_7 := hbbx.cell 7 rfl
    have qbx_8 := hbbx.cell 8 rfl
    have lbx := hbbx.lt
    clear hbbx
    clear z0 C1
    cases hen : mBytes ⟨mk, mp, md, ed, mw, mc, me, mf, ml⟩ with
    | none =>
      try rw [hen] at hF
      try rw [hen]
      simp only [Option.isNone_none, if_true, Option.getD_none, List.length_nil] at hF ⊢
      clear hF hen
      go_wp2_with fail
      refine (awake22_any _).mono ?_
      rintro e wq5 ⟨rfl, hm⟩
      replace HS := Lib.hid (HS.out.step hm)
      clear hm
      clear qbx_0 qbx_1 qbx_2 qbx_3 qbx_4 qbx_5 qbx_6 qbx_7 qbx_8 lbx
      have hbbx := (HS.out.now).1
      have qbx_0 := hbbx.cell 0 rfl
      have qbx_1 := hbbx.cell 1 rfl
      have qbx_2 := hbbx.cell 2 rfl
      have qbx_3 := hbbx.cell 3 rfl
      have qbx_4 := hbbx.cell 4 rfl
      have qbx_5 := hbbx.cell 5 rfl
      have qbx_6 := hbbx.cell 6 rfl
      have qbx_7 := hbbx.cell 7 rfl
      have qbx_8 := hbbx.cell 8 rfl
      have lbx := hbbx.lt
      clear hbbx
      go_wp2_with fail
      go_ret
      exact ⟨rfl, (HS.out.now).2.2⟩
    | some bs =>
      try rw [hen] at hF
      try rw [hen]
      simp only [Option.isNone_some, Bool.false_eq_true, if_false, Option.getD_some] at hF ⊢
      obtain ⟨L, hL⟩ : ∃ x, bs.length = x := ⟨_, rfl⟩
      rw [hL] at hF ⊢
      have HL := Lib.hid hL
      replace HS := Lib.hid (((Ev.own (show World.ownsRow wq4 _ 5 1 (.slice a3 L c3) L (bs.map (Value.int .u8)) from by have h := hF; unfold Fresh at h; rw [hL] at h; exact h))).and HS.out)
      have hlb := mBytes_le hen
      have hlp := mBytes_pos hen
      rw [hL] at hlb hlp
      have hd1 := dec_encM hen
      have hne := (mBytes_norm ⟨mk, mp, md, ed, mw, mc, me, mf, ml⟩).trans hen
      have hkk := normM_kind ⟨mk, mp, md, ed, mw, mc, me, mf, ml⟩
      have hnl := normM_len ⟨mk, mp, md, ed, mw, mc, me, mf, ml⟩
      have hnh := normM_he ⟨mk, mp, md, ed, mw, mc, me, mf, ml⟩ HE.out
      have HLE := Lib.hid (fun k (hk : k < bs.length) => dec_less hen hk)
      have HMR := Lib.hid (dec_more hen more)
      have HRG := Lib.hid (mBytes_range hen)
      obtain ⟨g, hg⟩ : ∃ g, normM ⟨mk, mp, md, ed, mw, mc, me, mf, ml⟩ = g := ⟨_, rfl⟩
      rw [hg] at hd1 hne hkk hnl hnh
      clear hg
      obtain ⟨nk, np, nd, ne, nw, nc, nh, nf, nl⟩ := g
      replace hkk : nk = mk := hkk
      subst nk
      replace hnl : ne.length ≤ ed.length := hnl
      rw [HN.out] at hnl
      replace hnh : -9223372036854775808 ≤ nh ∧ nh ≤ 9223372036854775807 := hnh
      have HNH := Lib.hid hnh
      have HD1 := Lib.hid hd1
      have HNE := Lib.hid hne
      obtain ⟨K, hK⟩ : ∃ x, ne.length = x := ⟨_, rfl⟩
      rw [hK] at hnl
      have HK := Lib.hid hK
      clear hF hL hd1 hne hnh hen hK
      have zL : ((L : Int) == 0) = false := by simp; omega
      go_wp2_with fail
      refine (mdecode_any _ a3 L c3 bs HL.out (Rd.ofOwn ((HS.out.now).1)) HRG.out (by omega)).mono ?_
      rintro e wq6 ⟨a9, c9, rfl, hF, hmm⟩
      replace HS := Lib.hid (HS.out.step hmm)
      clear hmm
      rw [HD1.out] at hF ⊢
      unfold msgV
      simp only at hF ⊢
      rw [HK.out] at hF ⊢
      replace HS := Lib.hid (((Ev.rd (show Rd wq6 1 (.slice a9 K c9) K (ne.map (Value.int .i64)) from Rd.ofOwn hF))).and HS.out)
      clear hF zL
      go_upto_region 9 with fail
      clear qbx_0 qbx_1 qbx_2 qbx_3 qbx_4 qbx_5 qbx_6 qbx_7 qbx_8 lbx
      obtain ⟨bq, hbq⟩ : ∃ b, wq6.heap.size = b := ⟨_, rfl⟩
      obtain ⟨wq7, hwq7⟩ : ∃ W, World.alloc wq6 (.cells #[.int .i64 mk, .int .i64 np, .int .i64 nd, .slice a9 K c9, .int .i64 nw, .int .i64 nc, .int .i64 nh, .int .i64 nf, .int .i64 nl] 26) = W := ⟨_, rfl⟩
      have hBbq : Blk wq7 bq 26 [.int .i64 mk, .int .i64 np, .int .i64 nd, .slice a9 K c9, .int .i64 nw, .int .i64 nc, .int .i64 nh, .int .i64 nf, .int .i64 nl] := by rw [← hwq7, ← hbq]; exact Blk.new _ 26 [.int .i64 mk, .int .i64 np, .int .i64 nd, .slice a9 K c9, .int .i64 nw, .int .i64 nc, .int .i64 nh, .int .i64 nf, .int .i64 nl]
      have hzbq : wq7.heap.size = bq + 1 := by rw [← hwq7, ← hbq]; exact heap_size_alloc _ _
      replace HS := Lib.hid (HS.out.step (w' := wq7) (by rw [← hwq7]; exact Mod.alloc _ _ _))
      replace HS := Lib.hid ((Ev.blk hBbq).and HS.out)
      try rw [hwq7]
      try rw [hbq]
      clear hzbq hBbq hbq hwq7
      have hbbx := (HS.out.now).2.2.2.1
      have qbx_0 := hbbx.cell 0 rfl
      have qbx_1 := hbbx.cell 1 rfl
      have qbx_2 := hbbx.cell 2 rfl
      have qbx_3 := hbbx.cell 3 rfl
      have qbx_4 := hbbx.cell 4 rfl
      have qbx_5 := hbbx.cell 5 rfl
      have qbx_6 := hbbx.cell 6 rfl
      have qbx_7 := hbbx.cell 7 rfl
      have qbx_8 := hbbx.cell 8 rfl
      have lbx := hbbx.lt
      clear hbbx
      have hbbq := (HS.out.now).1
      have qbq_0 := hbbq.cell 0 rfl
      have qbq_1 := hbbq.cell 1 rfl
      have qbq_2 := hbbq.cell 2 rfl
      have qbq_3 := hbbq.cell 3 rfl
      have qbq_4 := hbbq.cell 4 rfl
      have qbq_5 := hbbq.cell 5 rfl
      have qbq_6 := hbbq.cell 6 rfl
      have qbq_7 := hbbq.cell 7 rfl
      have qbq_8 := hbbq.cell 8 rfl
      have lbq := hbbq.lt
      clear hbbq
      have C20 := mencode_any wq7 ⟨mk, np, nd, ne, nw, nc, nh, nf, nl⟩ a9 K c9 HK.out ((HS.out.now).2.1) (by omega) HNH.out
      unfold msgV at C20
      simp only at C20
      have C2 := Lib.hid C20
      clear C20
      go_wp2_with fail
      refine (C2.out).mono ?_
      rintro e wq8 ⟨a4, c4, rfl, hF, hmm⟩
      replace HS := Lib.hid (HS.out.step hmm)
      clear hmm
      clear C2
      rw [HNE.out] at hF ⊢
      simp only [Option.isNone_some, Bool.false_eq_true, if_false, Option.getD_some] at hF ⊢
      rw [HL.out] at hF ⊢
      replace HS := Lib.hid (((Ev.own (show World.ownsRow wq8 _ 5 1 (.slice a4 L c4) L (bs.map (Value.int .u8)) from by have h := hF; unfold Fresh at h; rw [HL.out] at h; exact h))).and HS.out)
      clear hF
      clear qbx_0 qbx_1 qbx_2 qbx_3 qbx_4 qbx_5 qbx_6 qbx_7 qbx_8 lbx qbq_0 qbq_1 qbq_2 qbq_3 qbq_4 qbq_5 qbq_6 qbq_7 qbq_8 lbq
      have hbbx := (HS.out.now).2.2.2.2.1
      have qbx_0 := hbbx.cell 0 rfl
      have qbx_1 := hbbx.cell 1 rfl
      have qbx_2 := hbbx.cell 2 rfl
      have qbx_3 := hbbx.cell 3 rfl
      have qbx_4 := hbbx.cell 4 rfl
      have qbx_5 := hbbx.cell 5 rfl
      have qbx_6 := hbbx.cell 6 rfl
      have qbx_7 := hbbx.cell 7 rfl
      have qbx_8 := hbbx.cell 8 rfl
      have lbx := hbbx.lt
      clear hbbx
      have hbbq := (HS.out.now).2.1
      have qbq_0 := hbbq.cell 0 rfl
      have qbq_1 := hbbq.cell 1 rfl
      have qbq_2 := hbbq.cell 2 rfl
      have qbq_3 := hbbq.cell 3 rfl
      have qbq_4 := hbbq.cell 4 rfl
      have qbq_5 := hbbq.cell 5 rfl
      have qbq_6 := hbbq.cell 6 rfl
      have qbq_7 := hbbq.cell 7 rfl
      have qbq_8 := hbbq.cell 8 rfl
      have lbq := hbbq.lt
      clear hbbq
      obtain ⟨k, hk⟩ := Int.eq_ofNat_of_zero_le (Int.emod_nonneg cut (show (L : Int) ≠ 0 by omega))
      have hkL : k < L := by have := Int.emod_lt_of_pos cut (show 0 < (L : Int) by omega); omega
      have HKC := Lib.hid hk
      clear hk
      have hky : k ≤ c3 := by obtain ⟨_, a', c', he', h1, _⟩ := Rd.ofOwn ((HS.out.now).2.2.2.1); cases he'; omega
      have hts := fun wx => run_takeS (P := Try.prog) wx 27 5 i0 Try.underlying27 hi8 a3 L c3 k hky
      clear qbx_0 qbx_1 qbx_2 qbx_3 qbx_4 qbx_5 qbx_6 qbx_7 qbx_8 lbx qbq_0 qbq_1 qbq_2 qbq_3 qbq_4 qbq_5 qbq_6 qbq_7 qbq_8 lbq
      go_wp2_with fail
      refine (round_any _ _ _ (by omega) (by omega)).mono ?_
      rintro e w' ⟨rfl, rfl⟩
      rw [HKC.out]
      go_wp2_with fail
      have hrt := (Rd.ofOwn ((HS.out.now).2.2.2.1)).take (n := k) (by omega)
      rw [Nat.mul_one, ← List.map_take] at hrt
      refine (mdecode_any _ a3 k c3 (bs.take k) (by rw [List.length_take, HL.out]; omega) hrt (fun x hx => HRG.out x (List.mem_of_mem_take hx)) (by omega)).mono ?_
      rintro e wq9 ⟨a5, c5, rfl, hF, hmm⟩
      replace HS := Lib.hid (HS.out.step hmm)
      clear hmm
      rw [HLE.out k (by rw [HL.out]; exact hkL)]
      unfold msgV zM
      simp only [List.length_nil]
      clear hF hrt hts
      go_upto_region 11 with fail
      obtain ⟨bc, hbc⟩ : ∃ b, wq9.heap.size = b := ⟨_, rfl⟩
      obtain ⟨wq10, hwq10⟩ : ∃ W, World.alloc wq9 (.cells #[.int .i64 0, .int .i64 0, .int .i64 0, .slice a5 0 c5, .int .i64 0, .int .i64 0, .int .i64 0, .int .i64 0, .int .i64 0] 26) = W := ⟨_, rfl⟩
      have hBbc : Blk wq10 bc 26 [.int .i64 0, .int .i64 0, .int .i64 0, .slice a5 0 c5, .int .i64 0, .int .i64 0, .int .i64 0, .int .i64 0, .int .i64 0] := by rw [← hwq10, ← hbc]; exact Blk.new _ 26 [.int .i64 0, .int .i64 0, .int .i64 0, .slice a5 0 c5, .int .i64 0, .int .i64 0, .int .i64 0, .int .i64 0, .int .i64 0]
      have hzbc : wq10.heap.size = bc + 1 := by rw [← hwq10, ← hbc]; exact heap_size_alloc _ _
      replace HS := Lib.hid (HS.out.step (w' := wq10) (by rw [← hwq10]; exact Mod.alloc _ _ _))
      replace HS := Lib.hid ((Ev.blk hBbc).and HS.out)
      try rw [hwq10]
      try rw [hbc]
      clear hzbc hBbc hbc hwq10
      have h1c : ∀ u ∈ bs.map (Value.int .u8), u.oneCell' = true := by intro u hu; simp at hu; obtain ⟨x, _, rfl⟩ := hu; rfl
      have h1d : ∀ u ∈ [Value.int .u8 more], u.oneCell' = true := by simp [Value.oneCell']
      have hap1 : 0 + L ≤ maxLen := by unfold maxLen; omega
      have hap2 : (0 + L) * 1 ≤ 140737488355328 := by omega
      have hap3 : L + 1 ≤ maxLen := by unfold maxLen; omega
      have hap4 : (L + 1) * 1 ≤ 140737488355328 := by omega
      have hr3 := Rd.ofOwn ((HS.out.now).2.2.2.2.1)
      go_wp2_with (first | (at_builtin; refine wpList_append_any rfl (.tmp 59) (.tmp 60) 27 rfl 5 i0 (.int .u8 0) 1 1 Try.underlying27 hi8 hz0 hs8 hz2 rfl (by decide) _ 0 [] rfl (own_empty _ _ _ _ (by simp)) _ L (bs.map (Value.int .u8)) rfl (hr3.alloc _) h1c hap1 hap2 ?_; intro v4 w4 hap; obtain ⟨a6, c6, rfl⟩ := hap.form; have ho4 := hap.own; have hl4 := hap.low (B := wq10.heap.size) (by simp) (low_lit (Nat.le_refl _)); have hm4 := hap.modOld (Mod.alloc (fun _ => False) wq10 _) (low_lit (Nat.le_refl _)); simp only [Nat.zero_add, List.nil_append] at ho4 hl4; clear hap) | (at_builtin; refine wpList_append_any rfl (.tmp 61) (.tmp 63) 27 rfl 5 i0 (.int .u8 0) 1 1 Try.underlying27 hi8 hz0 hs8 hz2 rfl (by decide) _ L _ rfl (World.ownsRow.alloc ho4 _) _ 1 [.int .u8 more] rfl (Rd.one w4 _ _) h1d hap3 hap4 ?_; intro v5 w5 hap; obtain ⟨a7, c7, rfl⟩ := hap.form; have ho5 := hap.own; have hm5 := hap.modOld (hm4.thenAlloc _) hl4; clear hap ho4 hm4 hl4))
      rw [show bs.map (Value.int .u8) ++ [Value.int .u8 more] = (bs ++ [more]).map (Value.int .u8) by simp] at ho5
      have HO5 := Lib.hid ho5
      clear ho5 hr3 h1c h1d hap1 hap2 hap3 hap4
      replace HS := Lib.hid (HS.out.step hm5)
      clear hm5
      refine (mdecode_any w5 a7 (L + 1) c7 (bs ++ [more]) (by rw [List.length_append, HL.out]; rfl) (Rd.ofOwn HO5.out) (fun x hx => by rcases List.mem_append.1 hx with h | h; exact HRG.out x h; rw [List.mem_singleton.1 h]; exact HMO.out) (by omega)).mono ?_
      rintro e wq11 ⟨a8, c8, rfl, hF, hmm⟩
      replace HS := Lib.hid (HS.out.step hmm)
      clear hmm
      rw [HMR.out]
      unfold msgV zM
      simp only [List.length_nil]
      clear hF HO5
      go_upto_region 12 with fail
      obtain ⟨bm, hbm⟩ : ∃ b, wq11.heap.size = b := ⟨_, rfl⟩
      obtain ⟨wq12, hwq12⟩ : ∃ W, World.alloc wq11 (.cells #[.int .i64 0, .int .i64 0, .int .i64 0, .slice a8 0 c8, .int .i64 0, .int .i64 0, .int .i64 0, .int .i64 0, .int .i64 0] 26) = W := ⟨_, rfl⟩
      have hBbm : Blk wq12 bm 26 [.int .i64 0, .int .i64 0, .int .i64 0, .slice a8 0 c8, .int .i64 0, .int .i64 0, .int .i64 0, .int .i64 0, .int .i64 0] := by rw [← hwq12, ← hbm]; exact Blk.new _ 26 [.int .i64 0, .int .i64 0, .int .i64 0, .slice a8 0 c8, .int .i64 0, .int .i64 0, .int .i64 0, .int .i64 0, .int .i64 0]
      have hzbm : wq12.heap.size = bm + 1 := by rw [← hwq12, ← hbm]; exact heap_size_alloc _ _
      replace HS := Lib.hid (HS.out.step (w' := wq12) (by rw [← hwq12]; exact Mod.alloc _ _ _))
      replace HS := Lib.hid ((Ev.blk hBbm).and HS.out)
      try rw [hwq12]
      try rw [hbm]
      clear hzbm hBbm hbm hwq12
      have hbbx := (HS.out.now).2.2.2.2.2.2.1
      have qbx_0 := hbbx.cell 0 rfl
      have qbx_1 := hbbx.cell 1 rfl
      have qbx_2 := hbbx.cell 2 rfl
      have qbx_3 := hbbx.cell 3 rfl
      have qbx_4 := hbbx.cell 4 rfl
      have qbx_5 := hbbx.cell 5 rfl
      have qbx_6 := hbbx.cell 6 rfl
      have qbx_7 := hbbx.cell 7 rfl
      have qbx_8 := hbbx.cell 8 rfl
      have lbx := hbbx.lt
      clear hbbx
      have hbbq := (HS.out.now).2.2.2.1
      have qbq_0 := hbbq.cell 0 rfl
      have qbq_1 := hbbq.cell 1 rfl
      have qbq_2 := hbbq.cell 2 rfl
      have qbq_3 := hbbq.cell 3 rfl
      have qbq_4 := hbbq.cell 4 rfl
      have qbq_5 := hbbq.cell 5 rfl
      have qbq_6 := hbbq.cell 6 rfl
      have qbq_7 := hbbq.cell 7 rfl
      have qbq_8 := hbbq.cell 8 rfl
      have lbq := hbbq.lt
      clear hbbq
      have k1 := run_strS wq12 27 9 5 Try.underlying27 Try.underlying5 Try.underlying9 (Rd.ofOwn ((HS.out.now).2.2.2.2.2.1))
      have k2 := run_strS wq12 27 9 5 Try.underlying27 Try.underlying5 Try.underlying9 (Rd.ofOwn ((HS.out.now).2.2.1))
      obtain ⟨sb, hsb⟩ : ∃ x, strOf bs = x := ⟨_, rfl⟩
      rw [hsb] at k1 k2
      clear hsb
      have HMW := Lib.hid ((HS.out.now).2.2.2.2.2.2.2.2)
      go_wp2_with (go_at_call 9; refine (awake22_any _).mono ?_; rintro e w9 ⟨rfl, hM9⟩; have HM9 := Lib.hid hM9; clear hM9)
      go_ret
      exact ⟨rfl, HMW.out.of2 HM9.out⟩
theorem mback_law (w : World) (cs : Array Value) (x : MsgD) (hcs : cs.toList = encMsg.img x) (ok : encMsg.ok w x) (cut : Int) (_ : (Lit.int .i64 cut).wf = true) (more : Int) (hm : (Lit.int .u8 more).wf = true) :
    Calls Try.prog 4 #[.agg cs, .int .i64 cut, .int .u8 more] w fun e w' => e = .returned (.bool true) ∧ Below w.heap.size w w' := by
  obtain ⟨m, a, n, c, hv, hn, hr, he⟩ := msg_in hcs ok
  rw [hv]
  have hb := u8_range (ns := [more]) (fun x hx => by rw [List.mem_singleton.1 hx]; exact hm) more (by simp)
  exact (mback_all w m a n c hn hr he cut more (Lib.hid hb)).mono fun e w' h => ⟨h.1, h.2.below (Nat.le_refl _) (fun _ e => e.elim)⟩
end Go.Proofs.Ytabfmnlpipbegaa
