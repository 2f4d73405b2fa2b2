/- Law 19's awake by contract. -/
import Derived.Test.YtbjdjafkpldbnaaLaw19
import Derived.Deep.DeepCutAuto
import Derived.Deep.CutBlock
namespace Go.Proofs.Ytbjdjafkpldbnaa
open Go.RowKit Mile
set_option maxRecDepth 100000

set_option maxHeartbeats 16000000 in
theorem awake19_any (w : World) : Calls Try.prog 7 #[] w fun e w' => e = .returned (.bool true) ∧ Mod (fun _ => False) w w' := by
  obtain ⟨iE, hiE, hzE, hsE, hbE⟩ := info_parts GR.infoE
  obtain ⟨iI, hiI, hzI, hsI, hbI⟩ := info_parts GR.infoI
  have HS : Hid (Ev (Mod (fun _ => False) w) w) := Lib.hid (Ev.mod w)
  go_enter Try.func7, Try.ntmps7
  go_wp2_with fail
  refine (made19_any _ _ 3 _ [3, 3, 5] rfl (Rd.lit _ _ _ _ 3 rfl rfl (by decide))).mono ?_
  rintro e wq0 ⟨a1, n1, d1, a2, n2, d2, a3, n3, d3, t, p, B, C, rfl, hg, hto, hm⟩
  replace HS := Lib.hid (HS.out.step ((Mod.alloc (fun _ => False) _ _).of2 hm))
  replace HS := Lib.hid ((Ev.gv hg).and HS.out)
  replace HS := Lib.hid ((Ev.to hto).and HS.out)
  clear hm hg hto
  have hmay := town_may [3, 3, 5]
  have hfew := Lib.hid (town_few [3, 3, 5])
  obtain ⟨G, hG⟩ : ∃ G, townG [3, 3, 5] = G := ⟨_, rfl⟩
  rw [hG] at hmay hfew
  rw [hG] at HS
  clear hG
  have HMY := Lib.hid hmay
  clear hmay
  have he := Lib.hid ((HS.out.now).2.1.e)
  have h20 : 0 < n2 := by have := he.out; have := hfew.out.2.1.1; omega
  have g0 : 0 < G.E.length := by have := hfew.out.2.1.1; omega
  have hes : n2 ≤ 512 := by have := he.out; have := hfew.out.2.1.2; omega
  go_upto_region 2 with fail
  obtain ⟨bg, hbg⟩ : ∃ b, wq0.heap.size = b := ⟨_, rfl⟩
  obtain ⟨wq1, hwq1⟩ : ∃ W, World.alloc wq0 (.cells #[.slice a1 n1 d1, .slice a2 n2 d2, .slice a3 n3 d3] 28) = W := ⟨_, rfl⟩
  have hBbg : Blk wq1 bg 28 [.slice a1 n1 d1, .slice a2 n2 d2, .slice a3 n3 d3] := by rw [← hwq1, ← hbg]; exact Blk.new _ 28 [.slice a1 n1 d1, .slice a2 n2 d2, .slice a3 n3 d3]
  have hzbg : wq1.heap.size = bg + 1 := by rw [← hwq1, ← hbg]; exact heap_size_alloc _ _
  replace HS := Lib.hid (HS.out.step (w' := wq1) (by rw [← hwq1]; exact Mod.alloc _ _ _))
  replace HS := Lib.hid ((Ev.blk hBbg).and HS.out)
  try rw [hwq1]
  try rw [hbg]
  clear hzbg hBbg hbg hwq1
  have hbbg := (HS.out.now).1
  have qbg_0 := hbbg.cell 0 rfl
  have qbg_1 := hbbg.cell 1 rfl
  have qbg_2 := hbbg.cell 2 rfl
  have lbg := hbbg.lt
  clear hbbg
  obtain ⟨x0, Hx00⟩ : ∃ qz, (G.E[0]).1 = qz := ⟨_, rfl⟩
  have Hx0 := Lib.hid Hx00
  clear Hx00
  obtain ⟨y0, Hy00⟩ : ∃ qz, (G.E[0]).2.1 = qz := ⟨_, rfl⟩
  have Hy0 := Lib.hid Hy00
  clear Hy00
  obtain ⟨z0, Hz00⟩ : ∃ qz, (G.E[0]).2.2 = qz := ⟨_, rfl⟩
  have Hz0 := Lib.hid Hz00
  clear Hz00
  have hy0 : (eAt G ((0 : Nat) : Int)).2.1 = y0 := by rw [eAt_eq G 0 g0]; exact Hy0.out
  have hyn := (HMY.out.2.2.1 _ (List.getElem_mem g0)).2.1
  rw [Hy0.out] at hyn
  have HYN := Lib.hid hyn
  have HY := Lib.hid hy0
  clear hyn hy0
  obtain ⟨eb, eo, hpl, e0, e1, e2⟩ := rd3 (HS.out.now).2.2.1.re 0 g0
  have hix := fun wx => run_indexS (P := Try.prog) wx 25 43 iE 3 Try.underlying25 hiE hsE a2 n2 d2 0 h20 ((HS.out.now).2.2.1.re.some_ (by have := h20; omega))
  rw [hpl] at hix
  have HIe := Lib.hid hix
  clear hix hpl
  rw [Hx0.out] at e0
  replace HS := Lib.hid ((Ev.cell e0).and HS.out)
  clear e0
  rw [Hy0.out] at e1
  replace HS := Lib.hid ((Ev.cell e1).and HS.out)
  clear e1
  rw [Hz0.out] at e2
  replace HS := Lib.hid ((Ev.cell e2).and HS.out)
  clear e2
  have h2n : ((n2 : Int) == 0) = false := by rw [beq_eq_false_iff_ne]; omega
  have zr : (Rd wq0 1 (.slice none 0 0) 0 (([] : List Bool).map Value.bool)) := Rd.nil _ _
  clear zr
  have hix : ∀ wx : World, (Instr.indexAt 25 (.slice a2 n2 d2) (.int .i64 0)).run Try.prog wx = .ok (.pointer (some ⟨eb, eo, none⟩)) wx := HIe.out
  have c1 := (HS.out.now).2.1
  go_wp2_with fail
  refine (ddist19_any t p B C G HMY.out _ ((HS.out.now).2.2.2.2.1) 0 y0 none 0 0 [] rfl (Rd.nil _ _)).mono ?_
  rintro e w' hp
  clear hix c1
  clear qbg_0 qbg_1 qbg_2 lbg
  obtain ⟨x, hbt, rfl, hmc⟩ := hp
  have hx0 : x = 0 := by
    rcases hbt with ⟨_, d, hf, hx⟩ | ⟨hn, _⟩
    · rw [hx]; exact hf.st 0 HY.out (by show 0 < G.E.length; exact g0)
    · exact absurd ⟨HYN.out, by omega, by omega⟩ hn
  subst hx0
  have e1 : (if (0 : Int) = -1 then (0 : Int) else 0) = 0 := by decide
  have e2 : decide ((0 : Int) ≠ -1) = true := by decide
  rw [e1, e2]
  clear e1 e2 hbt
  obtain ⟨wc, hwc⟩ : ∃ x : World, x = w' := ⟨_, rfl⟩
  subst hwc
  replace HS := Lib.hid (HS.out.step hmc)
  clear hmc
  have hbbg := (HS.out.now).2.2.2.1
  have qbg_0 := hbbg.cell 0 rfl
  have qbg_1 := hbbg.cell 1 rfl
  have qbg_2 := hbbg.cell 2 rfl
  have lbg := hbbg.lt
  clear hbbg
  have hix : ∀ wx : World, (Instr.indexAt 25 (.slice a2 n2 d2) (.int .i64 0)).run Try.prog wx = .ok (.pointer (some ⟨eb, eo, none⟩)) wx := HIe.out
  have c1 := (HS.out.now).2.1
  go_wp2_with fail
  refine (dmeets_any t p B C G HMY.out _ ((HS.out.now).2.2.2.2.1) 0 y0 none 0 0 [] rfl (Rd.nil _ _)).mono ?_
  rintro e w' hp
  clear hix c1
  clear qbg_0 qbg_1 qbg_2 lbg
  obtain ⟨x, hbt, rfl, hmc⟩ := hp
  have hx0 : x = 0 := by
    rcases hbt with ⟨_, dA, dB, hfA, hfB, hx⟩ | ⟨hn, _⟩
    · have hb0 := hfB.st 0 HY.out (by show 0 < G.E.length; exact g0)
      have ha0 := hfA.st 0 (show ((0 : Nat) : Int) = 0 from rfl) (by show 0 < G.E.length; exact g0)
      have hok : okM dA dB (dAt dB (0 : Int).toNat) 0 := ⟨by omega, by omega, by show dAt dA 0 + dAt dB 0 = dAt dB 0; omega⟩
      rcases hx with ⟨i, _, h2, _, h4⟩ | ⟨_, h2⟩
      · by_cases hi : i = 0
        · rw [h2, hi]; rfl
        · exact absurd hok (h4 0 (by omega))
      · exact absurd hok (h2 0 g0)
    · exact absurd ⟨HYN.out, by omega, by omega⟩ hn
  subst hx0
  have e1 : (if (0 : Int) = -1 then (0 : Int) else 0) = 0 := by decide
  have e2 : decide ((0 : Int) ≠ -1) = true := by decide
  rw [e1, e2]
  clear e1 e2 hbt
  obtain ⟨wd, hwd⟩ : ∃ x : World, x = w' := ⟨_, rfl⟩
  subst hwd
  replace HS := Lib.hid (HS.out.step hmc)
  clear hmc
  have hbbg := (HS.out.now).2.2.2.1
  have qbg_0 := hbbg.cell 0 rfl
  have qbg_1 := hbbg.cell 1 rfl
  have qbg_2 := hbbg.cell 2 rfl
  have lbg := hbbg.lt
  clear hbbg
  go_wp2_with fail
  refine (ddist19_nil _ 0 0 none 0 0).mono ?_
  rintro e wq2 ⟨rfl, hmz⟩
  replace HS := Lib.hid (HS.out.step hmz)
  clear hmz
  clear qbg_0 qbg_1 qbg_2 lbg
  have hbbg := (HS.out.now).2.2.2.1
  have qbg_0 := hbbg.cell 0 rfl
  have qbg_1 := hbbg.cell 1 rfl
  have qbg_2 := hbbg.cell 2 rfl
  have lbg := hbbg.lt
  clear hbbg
  go_wp2_with fail
  go_ret
  exact ⟨rfl, (HS.out.now).2.2.2.2.2.2⟩
end Go.Proofs.Ytbjdjafkpldbnaa
