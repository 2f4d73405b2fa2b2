/- Law 11's awake by contract. -/
import Derived.Test.YtgiojfihgdifbaaLaw11
import Derived.Deep.DeepCutAuto
import Derived.Deep.CutBlock
namespace Go.Proofs.Ytgiojfihgdifbaa
open Go.RowKit Mile
set_option maxRecDepth 100000

set_option maxHeartbeats 16000000 in
theorem awake11_any (w : World) : Calls Try.prog 11 #[] w fun e w' => e = .returned (.bool true) ∧ Mod (fun _ => False) w w' := by
  obtain ⟨iE, hiE, hzE, hsE, hbE⟩ := info_parts GR.infoE
  obtain ⟨iI, hiI, hzI, hsI, hbI⟩ := info_parts GR.infoI
  have HS : Hid (Ev (Mod (fun _ => False) w) w) := Lib.hid (Ev.mod w)
  go_enter Try.func11, Try.ntmps11
  go_wp2_with fail
  refine (made11_any _ _ 3 _ [3, 3, 5] rfl (Rd.lit _ _ _ _ 3 rfl rfl (by decide))).mono ?_
  rintro e wq0 ⟨a1, n1, d1, a2, n2, d2, a3, n3, d3, t, p, B, C, rfl, hg, hto, hm⟩
  replace HS := Lib.hid (HS.out.step ((Mod.alloc (fun _ => False) _ _).of2 hm))
  replace HS := Lib.hid ((Ev.gv hg).and HS.out)
  replace HS := Lib.hid ((Ev.to hto).and HS.out)
  clear hm hg hto
  have hmay := town_may [3, 3, 5]
  have hfew := Lib.hid (town_few [3, 3, 5])
  obtain ⟨G, hG⟩ : ∃ G, townG [3, 3, 5] = G := ⟨_, rfl⟩
  rw [hG] at hmay hfew
  rw [hG] at HS
  clear hG
  have HMY := Lib.hid hmay
  clear hmay
  have he := Lib.hid ((HS.out.now).2.1.e)
  have h20 : 0 < n2 := by have := he.out; have := hfew.out.2.1.1; omega
  have g0 : 0 < G.E.length := by have := hfew.out.2.1.1; omega
  have hes : n2 ≤ 512 := by have := he.out; have := hfew.out.2.1.2; omega
  go_upto_region 2 with fail
  obtain ⟨bg, hbg⟩ : ∃ b, wq0.heap.size = b := ⟨_, rfl⟩
  obtain ⟨wq1, hwq1⟩ : ∃ W, World.alloc wq0 (.cells #[.slice a1 n1 d1, .slice a2 n2 d2, .slice a3 n3 d3] 29) = W := ⟨_, rfl⟩
  have hBbg : Blk wq1 bg 29 [.slice a1 n1 d1, .slice a2 n2 d2, .slice a3 n3 d3] := by rw [← hwq1, ← hbg]; exact Blk.new _ 29 [.slice a1 n1 d1, .slice a2 n2 d2, .slice a3 n3 d3]
  have hzbg : wq1.heap.size = bg + 1 := by rw [← hwq1, ← hbg]; exact heap_size_alloc _ _
  replace HS := Lib.hid (HS.out.step (w' := wq1) (by rw [← hwq1]; exact Mod.alloc _ _ _))
  replace HS := Lib.hid ((Ev.blk hBbg).and HS.out)
  try rw [hwq1]
  try rw [hbg]
  clear hzbg hBbg hbg hwq1
  have hbbg := (HS.out.now).1
  have qbg_0 := hbbg.cell 0 rfl
  have qbg_1 := hbbg.cell 1 rfl
  have qbg_2 := hbbg.cell 2 rfl
  have lbg := hbbg.lt
  clear hbbg
  obtain ⟨x0, Hx00⟩ : ∃ qz, (G.E[0]).1 = qz := ⟨_, rfl⟩
  have Hx0 := Lib.hid Hx00
  clear Hx00
  obtain ⟨y0, Hy00⟩ : ∃ qz, (G.E[0]).2.1 = qz := ⟨_, rfl⟩
  have Hy0 := Lib.hid Hy00
  clear Hy00
  obtain ⟨z0, Hz00⟩ : ∃ qz, (G.E[0]).2.2 = qz := ⟨_, rfl⟩
  have Hz0 := Lib.hid Hz00
  clear Hz00
  have hy0 : (eAt G ((0 : Nat) : Int)).2.1 = y0 := by rw [eAt_eq G 0 g0]; exact Hy0.out
  have hyn := (HMY.out.2.2.1 _ (List.getElem_mem g0)).2.1
  rw [Hy0.out] at hyn
  have HYN := Lib.hid hyn
  have HY := Lib.hid hy0
  clear hyn hy0
  obtain ⟨eb, eo, hpl, e0, e1, e2⟩ := rd3 (HS.out.now).2.2.1.re 0 g0
  have hix := fun wx => run_indexS (P := Try.prog) wx 26 43 iE 3 Try.underlying26 hiE hsE a2 n2 d2 0 h20 ((HS.out.now).2.2.1.re.some_ (by have := h20; omega))
  rw [hpl] at hix
  have HIe := Lib.hid hix
  clear hix hpl
  rw [Hx0.out] at e0
  replace HS := Lib.hid ((Ev.cell e0).and HS.out)
  clear e0
  rw [Hy0.out] at e1
  replace HS := Lib.hid ((Ev.cell e1).and HS.out)
  clear e1
  rw [Hz0.out] at e2
  replace HS := Lib.hid ((Ev.cell e2).and HS.out)
  clear e2
  have h2n : ((n2 : Int) == 0) = false := by rw [beq_eq_false_iff_ne]; omega
  have zr : (Rd wq0 1 (.slice none 0 0) 0 (([] : List Bool).map Value.bool)) := Rd.nil _ _
  clear zr
  have hix : ∀ wx : World, (Instr.indexAt 26 (.slice a2 n2 d2) (.int .i64 0)).run Try.prog wx = .ok (.pointer (some ⟨eb, eo, none⟩)) wx := HIe.out
  have c1 := (HS.out.now).2.1
  go_wp2_with fail
  refine (dto_any t p B C G HMY.out _ ((HS.out.now).2.2.2.2.1) y0 none 0 0 [] rfl (Rd.nil _ _)).mono ?_
  rintro e w' hp
  clear hix c1
  clear qbg_0 qbg_1 qbg_2 lbg
  rcases hp with ⟨_, x, rfl, ⟨ra, da, rfl, hoa, hfa⟩, hma⟩ | ⟨hv, _⟩
  case inr => exact absurd HYN.out hv
  have hxm : (webTo G HMY.out y0 []).m = n2 := he.out
  rw [hxm] at hoa ⊢
  have hda := hfa.st 0 HY.out (by rw [hxm]; exact h20)
  obtain ⟨wa, hwa⟩ : ∃ x : World, x = w' := ⟨_, rfl⟩
  subst hwa
  replace HS := Lib.hid (HS.out.step hma)
  replace HS := Lib.hid ((Ev.own hoa).and HS.out)
  have HDA := Lib.hid hda
  clear hma hoa hfa hda hxm
  have hbbg := (HS.out.now).2.2.2.2.1
  have qbg_0 := hbbg.cell 0 rfl
  have qbg_1 := hbbg.cell 1 rfl
  have qbg_2 := hbbg.cell 2 rfl
  have lbg := hbbg.lt
  clear hbbg
  go_wp2_with fail
  refine (dfrom_any t p B C G HMY.out _ ((HS.out.now).2.2.2.2.2.1) 0 none 0 0 [] rfl (Rd.nil _ _)).mono ?_
  rintro e w' hp
  clear qbg_0 qbg_1 qbg_2 lbg
  skip
  rcases hp with ⟨_, x, rfl, ⟨rb, db, rfl, hob, hfb⟩, hmb⟩ | ⟨hv, _⟩
  case inr => exact absurd (show 0 ≤ (0 : Int) ∧ (0 : Int) < (G.E.length : Int) from ⟨by omega, by omega⟩) hv
  have hxm : (webFrom G HMY.out 0 []).m = n2 := he.out
  rw [hxm] at hob ⊢
  have hdb := hfb.st 0 (show ((0 : Nat) : Int) = 0 from rfl) (by rw [hxm]; exact h20)
  obtain ⟨wb, hwb⟩ : ∃ x : World, x = w' := ⟨_, rfl⟩
  subst hwb
  replace HS := Lib.hid (HS.out.step hmb)
  replace HS := Lib.hid ((Ev.own hob).and HS.out)
  have HDB := Lib.hid hdb
  clear hmb hob hfb hdb hxm
  have hbbg := (HS.out.now).2.2.2.2.2.1
  have qbg_0 := hbbg.cell 0 rfl
  have qbg_1 := hbbg.cell 1 rfl
  have qbg_2 := hbbg.cell 2 rfl
  have lbg := hbbg.lt
  clear hbbg
  have hix : ∀ wx : World, (Instr.indexAt 26 (.slice a2 n2 d2) (.int .i64 0)).run Try.prog wx = .ok (.pointer (some ⟨eb, eo, none⟩)) wx := HIe.out
  have c1 := (HS.out.now).2.2.2.1
  go_wp2_with fail
  refine (dbtw_any t p B C G HMY.out _ ((HS.out.now).2.2.2.2.2.2.1) 0 y0 none 0 0 [] rfl (Rd.nil _ _)).mono ?_
  rintro e w' hp
  clear hix c1
  clear qbg_0 qbg_1 qbg_2 lbg
  obtain ⟨x, hbt, rfl, hmc⟩ := hp
  have hx0 : x = 0 := by
    rcases hbt with ⟨_, d, hf, hx⟩ | ⟨hn, _⟩
    · rw [hx]; exact hf.st 0 HY.out (by show 0 < G.E.length; exact g0)
    · exact absurd ⟨HYN.out, by omega, by omega⟩ hn
  subst hx0
  have e1 : (if (0 : Int) = -1 then (0 : Int) else 0) = 0 := by decide
  have e2 : decide ((0 : Int) ≠ -1) = true := by decide
  rw [e1, e2]
  clear e1 e2 hbt
  obtain ⟨wc, hwc⟩ : ∃ x : World, x = w' := ⟨_, rfl⟩
  subst hwc
  replace HS := Lib.hid (HS.out.step hmc)
  clear hmc
  have hbbg := (HS.out.now).2.2.2.2.2.1
  have qbg_0 := hbbg.cell 0 rfl
  have qbg_1 := hbbg.cell 1 rfl
  have qbg_2 := hbbg.cell 2 rfl
  have lbg := hbbg.lt
  clear hbbg
  go_wp2_with fail
  refine (dbtw_any t p B C G HMY.out _ ((HS.out.now).2.2.2.2.2.2.1) 0 99 none 0 0 [] rfl (Rd.nil _ _)).mono ?_
  rintro e w' hp
  clear qbg_0 qbg_1 qbg_2 lbg
  obtain ⟨x, hbt, rfl, hmc⟩ := hp
  have hx0 : x = -1 := by
    rcases hbt with ⟨hn, _⟩ | ⟨_, hx⟩
    · have := hfew.out.1.2; omega
    · exact hx
  subst hx0
  have e2 : decide ((-1 : Int) ≠ -1) = false := by decide
  have e1 : (if (-1 : Int) = -1 then (0 : Int) else -1) = 0 := by decide
  rw [e1, e2]
  clear e1 e2 hbt
  obtain ⟨wd, hwd⟩ : ∃ x : World, x = w' := ⟨_, rfl⟩
  subst hwd
  replace HS := Lib.hid (HS.out.step hmc)
  clear hmc
  have hbbg := (HS.out.now).2.2.2.2.2.1
  have qbg_0 := hbbg.cell 0 rfl
  have qbg_1 := hbbg.cell 1 rfl
  have qbg_2 := hbbg.cell 2 rfl
  have lbg := hbbg.lt
  clear hbbg
  have qa := own_at ((HS.out.now).2.1) 0 h20
  rw [HDA.out] at qa
  have qb := own_at ((HS.out.now).1) 0 h20
  rw [HDB.out] at qb
  have hia : ∀ wx : World, (Instr.indexAt 22 (.slice (some ⟨ra, 0, none⟩) n2 n2) (.int .i64 0)).run Try.prog wx = .ok (.pointer (some ⟨ra, 0, none⟩)) wx := fun wx => own_ix iI hiI hsI ra n2 0 h20 wx
  have hib : ∀ wx : World, (Instr.indexAt 22 (.slice (some ⟨rb, 0, none⟩) n2 n2) (.int .i64 0)).run Try.prog wx = .ok (.pointer (some ⟨rb, 0, none⟩)) wx := fun wx => own_ix iI hiI hsI rb n2 0 h20 wx
  go_wp2_with fail
  refine (dto_nil _ 0 none 0 0).mono ?_
  rintro e wq2 ⟨rfl, hmz⟩
  replace HS := Lib.hid (HS.out.step hmz)
  clear hmz
  clear qbg_0 qbg_1 qbg_2 lbg
  have hbbg := (HS.out.now).2.2.2.2.2.1
  have qbg_0 := hbbg.cell 0 rfl
  have qbg_1 := hbbg.cell 1 rfl
  have qbg_2 := hbbg.cell 2 rfl
  have lbg := hbbg.lt
  clear hbbg
  go_wp2_with fail
  go_ret
  exact ⟨rfl, (HS.out.now).2.2.2.2.2.2.2.2⟩
end Go.Proofs.Ytgiojfihgdifbaa
