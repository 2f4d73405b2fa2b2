/- Law 27's awake, by contract. -/
import Derived.Test.YtdahoecejnnjkaaCh1L
namespace Go.Proofs.Ytdahoecejnnjkaa
open Go.RowKit Mile Go.Maps
set_option maxRecDepth 100000
theorem ChB.of {x : ChS} (h1 : x.os.length ≤ 64) (h2 : x.F + x.bs.length ≤ 1000000) (h3 : x.N ≤ 1000000) (h4 : x.L.length ≤ 10000) (h5 : ∀ b ∈ x.os, b.length ≤ 100000) (h6 : ∀ b ∈ x.bs, b.length ≤ 100000) : ChB x := ⟨h1, h2, h3, h4, h5, h6⟩
/-- What awake's Channel comes to. -/
def aw0 : ChS := ⟨0, false, [], [], 0, fun _ => none, []⟩
def aw1 : ChS := ⟨0, false, [⟨0, 3, 0⟩], [[9]], 0, fun _ => none, []⟩
def aw2 : ChS := ⟨0, false, [⟨0, 3, 0⟩], [[9]], 0, fun _ => none, [[8]]⟩
theorem aw01 : payC 1 3 0 (oweS aw0 [9]) = aw1 := by unfold payC payS oweS payN aw0 aw1; simp [putsW, putW, insW, stopW]
theorem aw12 : payC 1 3 0 (oweS aw1 [8]) = aw2 := by unfold payC payS oweS payN aw1 aw2; simp [putsW]
theorem awD1 : payD 1 (oweS aw0 [9]) = [⟨1, 0, 0, [9]⟩] := by unfold payD oweS payN aw0; simp [dgD]
theorem awD2 : payD 1 (oweS aw1 [8]) = [] := by unfold payD oweS payN aw1; simp [dgD]
def aw3 : ChS := ⟨1, false, [], [], 0, fun _ => none, [[8]]⟩
theorem aw23 : ackC aw2 (ackN aw2 1) = aw3 := by unfold ackC ackN aw2 aw3; simp [stopN, stopL, stopW]
def aw4 : ChS := ⟨1, false, [], [], 1, fromH (putH (fun _ => none) 0 [5]) 1, [[8]]⟩
theorem awOk : takeOk aw3 1 0 := by unfold takeOk aw3; simp
theorem awL : takeL aw3 1 0 [5] = [[5]] := by unfold takeL; rw [if_pos awOk]; rfl
theorem aw34 : takeC aw3 1 0 [5] = aw4 := by unfold takeC; rw [if_pos awOk, awL]; rfl
theorem awD4 : payD 1 aw4 = [⟨1, 1, 1, [8]⟩] := by unfold payD payN aw4; simp [dgD]
def aw5 : ChS := ⟨1, false, [⟨1, 4, 0⟩], [[8]], 1, fromH (putH (fun _ => none) 0 [5]) 1, []⟩
theorem aw45 : payC 1 3 1 aw4 = aw5 := by unfold payC payS payN aw4 aw5; simp [putsW, putW, insW, stopW]
theorem awB0 : ChB aw0 := ⟨by decide, by decide, by decide, by decide, by simp [aw0], by simp [aw0]⟩
theorem awB1 : ChB aw1 := ⟨by decide, by decide, by decide, by decide, by simp [aw1], by simp [aw1]⟩
theorem awB2 : ChB aw2 := ⟨by decide, by decide, by decide, by decide, by simp [aw2], by simp [aw2]⟩
set_option maxHeartbeats 16000000 in
theorem awake27_any (w : World) : Calls Try.prog 7 #[] w fun e w' => e = .returned (.bool true) ∧ Mod (fun _ => False) w w' := by
  obtain ⟨iG, hiG, hzG, hsG, hbG⟩ := info_parts Ch.infoG
  obtain ⟨g, hg⟩ : ∃ y, w.heap.size = y := ⟨_, rfl⟩
  obtain ⟨wA, hwA⟩ : ∃ y, w.alloc (.cells #[.int .i64 1, .int .i64 1, .int .i64 0, .int .i64 3, .int .i64 3, .int .i64 5] 23) = y := ⟨_, rfl⟩
  have hgA : Blk wA g 23 [.int .i64 1, .int .i64 1, .int .i64 0, .int .i64 3, .int .i64 3, .int .i64 5] := by rw [← hwA, ← hg]; exact Blk.new w 23 [.int .i64 1, .int .i64 1, .int .i64 0, .int .i64 3, .int .i64 3, .int .i64 5]
  have hmA : Mod (fun _ => False) w wA := by rw [← hwA]; exact Mod.alloc _ _ _
  have HGA := Lib.hid hgA
  have HMA := Lib.hid hmA
  have HN1 : Hid (Calls Try.prog 10 #[.agg #[.int .i64 1, .int .i64 1, .int .i64 0, .int .i64 3, .int .i64 3, .int .i64 5], .int .i64 7] wA _) := Lib.hid (chnew_any wA 1 5 7 1 0 3 3 (by unfold fitC; omega) (by omega))
  go_enter Try.func7, Try.ntmps7
  go_upto_region 2 with fail
  (try rw [hwA])
  (try rw [hg])
  have k0 := hgA.cell 0 rfl
  have k1 := hgA.cell 1 rfl
  have k2 := hgA.cell 2 rfl
  have k3 := hgA.cell 3 rfl
  have k4 := hgA.cell 4 rfl
  have k5 := hgA.cell 5 rfl
  clear hwA hg hgA hmA
  go_wp2_with fail
  refine HN1.out.mono ?_
  rintro e w1 ⟨p, sp, tp, kp, kr, rfl, hn⟩
  have H1 := Lib.hid (c1_made hn (Mod.refl (fun _ => False) wA))
  clear hn k0 k1 k2 k3 k4 k5 HN1
  have hgX := HGA.out.keep (H1.out.mod) (fun e => e)
  have k0 := hgX.cell 0 rfl
  have k1 := hgX.cell 1 rfl
  have k2 := hgX.cell 2 rfl
  have k3 := hgX.cell 3 rfl
  have k4 := hgX.cell 4 rfl
  have k5 := hgX.cell 5 rfl
  clear hgX
  have HN2 : Hid (Calls Try.prog 10 #[.agg #[.int .i64 1, .int .i64 1, .int .i64 0, .int .i64 3, .int .i64 3, .int .i64 5], .int .i64 0] w1 _) := Lib.hid (chnew_no w1 1 1 0 3 3 5 0 (by omega))
  go_wp2_with fail
  refine HN2.out.mono ?_
  rintro e w2 ⟨rfl, hm⟩
  have H2 : Hid (C1 wA w2 p 1 3 3 0 7 aw0) := Lib.hid (H1.out.later hm)
  clear hm HN2 H1 k0 k1 k2 k3 k4 k5
  go_wp2_with fail
  have hal : Mod (fun _ => False) w2 (w2.alloc (.cells #[.int .u8 9] 5)) := Mod.alloc _ _ _
  have hp := c1_push (H2.out.later hal) rfl awB0 (by decide) 0 (by omega) [9] _ 1 rfl (Rd.lit 5 [.int .u8 9] (0, 0) _ 1 rfl rfl (by decide)) (by omega)
  rw [aw01, awD1] at hp
  refine hp.mono ?_
  rintro e w3 ⟨v3, rfl, hv3, h3, hm3⟩
  obtain ⟨a3, c3, g3, rfl, hol3⟩ := hv3.form 1 rfl
  have H3 := Lib.hid h3
  have HO3 := Lib.hid hol3
  clear hp hal hv3 h3 hm3 hol3 H2
  go_wp2_with fail
  have hal : Mod (fun _ => False) w3 (w3.alloc (.cells #[.int .u8 8] 5)) := Mod.alloc _ _ _
  have hp := c1_push (H3.out.later hal) rfl awB1 (by decide) 0 (by omega) [8] _ 1 rfl (Rd.lit 5 [.int .u8 8] (0, 0) _ 1 rfl rfl (by decide)) (by omega)
  rw [aw12, awD2] at hp
  refine hp.mono ?_
  rintro e w4 ⟨v4, rfl, hv4, h4, hm4⟩
  obtain ⟨a4, c4, g4, rfl, hol4⟩ := hv4.form 0 rfl
  have H4 := Lib.hid h4
  have HO4 := Lib.hid ((HO3.out.keep hal (fun _ _ e => e) (fun _ _ e => e.elim)).mc hm4)
  clear hp hal hv4 h4 hm4 hol4 H3 HO3
  go_wp2_with fail
  have hal : Mod (fun _ => False) w4 (w4.alloc (.cells #[.int .u8 5] 5)) := Mod.alloc _ _ _
  have hbt : BodyT (w4.alloc (.cells #[.int .u8 5] 5)) [5] (.slice (some ⟨w4.heap.size, 0, none⟩) 1 1) := ⟨_, 1, 1, rfl, rfl, lit_byte w4 5 _ (.int .u8 5) rfl⟩
  have hp := c1_data (H4.out.later hal) rfl awB2 1 (by omega) 0 1 0 _ 1 1 [5] rfl hbt (by omega) _ _ _ aw23 aw34 awL
  rw [aw45, awD4] at hp
  refine hp.mono ?_
  rintro e w5 ⟨u5, v5, rfl, hu5, hv5, h5, hm5⟩
  obtain ⟨a6, c6, rfl⟩ := hu5.form 1 rfl
  obtain ⟨a5, c5, g5, rfl, hol5⟩ := hv5.form 2 rfl
  have H5 := Lib.hid h5
  have HO5 := Lib.hid hol5
  have HO5a := Lib.hid ((HO4.out.keep hal (fun _ _ e => e) (fun _ _ e => e.elim)).mc hm5)
  clear hp hal hu5 hv5 hbt h5 hm5 hol5 H4 HO4
  go_wp2_with fail
  refine (c1_no H5.out 1 8 1 0 0 0 none 0 0 (.inr (.inl (by omega)))).mono ?_
  rintro e w6 ⟨rfl, hm⟩
  have H6 := Lib.hid (H5.out.later hm)
  have HO6 := Lib.hid (HO5.out.keep hm (fun _ _ e => e) (fun _ _ e => e.elim))
  have HO6a := Lib.hid (HO5a.out.keep hm (fun _ _ e => e) (fun _ _ e => e.elim))
  clear hm H5 HO5 HO5a
  go_wp2_with fail
  refine (chpush_nil _ 0 _).mono ?_
  rintro e w7 ⟨rfl, hw7⟩
  have hm : Mod (fun _ => False) w6 w7 := by rw [← hw7]; exact Mod.alloc _ _ _
  have H7 := Lib.hid (H6.out.later hm)
  have HO7 := Lib.hid (HO6.out.keep hm (fun _ _ e => e) (fun _ _ e => e.elim))
  have HO7a := Lib.hid (HO6a.out.keep hm (fun _ _ e => e) (fun _ _ e => e.elim))
  clear hw7 hm H6 HO6 HO6a
  obtain ⟨ba, oa, va, hpa, hsa, _, _, ea0, ea1, ea2, ea3, _, ea5, hba⟩ := HO7a.out.elem 0 _ rfl
  have hxa := fun wx => run_indexS (P := Try.prog) wx 36 40 iG 6 Try.underlying36 hiG hsG a3 1 c3 0 (by omega) hsa
  rw [hpa] at hxa
  replace hxa : ∀ wx, (Instr.indexAt 36 (.slice a3 1 c3) (.int .i64 0)).run Try.prog wx = .ok (.pointer (some ⟨ba, oa, none⟩)) wx := hxa
  clear hpa hsa
  obtain ⟨bb, ob, vb, hpb, hsb, _, _, eb0, eb1, eb2, eb3, _, eb5, hbb⟩ := HO7.out.elem 0 _ rfl
  have hxb := fun wx => run_indexS (P := Try.prog) wx 36 40 iG 6 Try.underlying36 hiG hsG a5 2 c5 0 (by omega) hsb
  rw [hpb] at hxb
  replace hxb : ∀ wx, (Instr.indexAt 36 (.slice a5 2 c5) (.int .i64 0)).run Try.prog wx = .ok (.pointer (some ⟨bb, ob, none⟩)) wx := hxb
  clear hpb hsb
  obtain ⟨bc, oc, vc, hpc, hsc, _, _, ec0, ec1, ec2, ec3, _, ec5, hbc⟩ := HO7.out.elem 1 _ rfl
  have hxc := fun wx => run_indexS (P := Try.prog) wx 36 40 iG 6 Try.underlying36 hiG hsG a5 2 c5 1 (by omega) hsc
  rw [hpc] at hxc
  replace hxc : ∀ wx, (Instr.indexAt 36 (.slice a5 2 c5) (.int .i64 1)).run Try.prog wx = .ok (.pointer (some ⟨bc, oc, none⟩)) wx := hxc
  clear hpc hsc
  obtain ⟨ua, un, uc, rfl, hun, hbo⟩ := hba
  obtain rfl : 1 = un := hun
  have k0 := run_strS w7 38 9 5 Try.underlying38 Try.underlying5 Try.underlying9 (Rd.ofOwn hbo)
  have s9 : (strOf [9]).toList = [9] := by decide +kernel
  clear hbo hbb hbc
  have HGX := Lib.hid (HGA.out.keep (H7.out.mod) (fun e => e))
  have f0 := HGX.out.cell 0 rfl
  have f1 := HGX.out.cell 1 rfl
  have f2 := HGX.out.cell 2 rfl
  have f3 := HGX.out.cell 3 rfl
  have f4 := HGX.out.cell 4 rfl
  have f5 := HGX.out.cell 5 rfl
  go_wp2_with fail
  refine (c1_conn H7.out).mono ?_
  rintro e w' ⟨rfl, rfl⟩
  go_wp2_with fail
  refine (c1_owed H7.out).mono ?_
  rintro e w' ⟨rfl, rfl⟩
  go_wp2_with fail
  refine (chcheck_any w7 1 1 0 3 3 5).mono ?_
  rintro e w8 ⟨rfl, hm⟩
  have hc : chkC 1 1 0 3 3 5 = 0 := by unfold chkC; simp
  rw [hc]
  have HM8 := Lib.hid (H7.out.mod.of2 hm)
  clear hm hc
  go_wp2_with fail
  refine (chcheck_any w8 0 0 0 0 0 0).mono ?_
  rintro e w9 ⟨rfl, hm⟩
  have hc : chkC 0 0 0 0 0 0 = 1 := by unfold chkC; simp
  rw [hc]
  have HM9 := Lib.hid (HMA.out.of2 (HM8.out.of2 hm))
  clear hm hc
  go_wp2_with fail
  go_ret
  exact ⟨rfl, HM9.out⟩
end Go.Proofs.Ytdahoecejnnjkaa
