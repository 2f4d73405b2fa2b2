/- Law 12's awake by contract. -/
import Derived.Test.YtgiojfihgdifbaaKLeast
import Derived.Test.YtgiojfihgdifbaaMade12
import Derived.Test.YtgiojfihgdifbaaBtw
import Derived.Deep.DeepCutAuto
import Derived.Deep.CutBlock
namespace Go.Proofs.Ytgiojfihgdifbaa
open Go.RowKit Mile
set_option maxRecDepth 100000

theorem lway_nil (w : World) (ev v : Int) (a : Option Addr) (n c : Nat) : Calls Try.prog 26 #[.pointer none, .int .i64 ev, .int .i64 v, .slice a n c] w fun e w' => e = .returned (.tuple #[.slice none 0 0, .bool false]) ∧ Mod (fun _ => False) w w' := by
  have hA : ∀ W : World, Calls Try.prog 28 #[.pointer none, .int .i64 ev, .slice none 0 0, .slice a n c] W fun e w' => e = .returned (.tuple #[.slice none 0 0, .bool false]) ∧ W = w' := by
    intro W
    go_enter Try.func28, Try.ntmps28
    go_wp2_with fail
    go_ret2
    exact ⟨rfl, rfl⟩
  have HA := Lib.hid hA
  clear hA
  go_enter Try.func26, Try.ntmps26
  go_wp2_with fail
  refine (dto_nil w v a n c).mono ?_
  rintro e w1 ⟨rfl, hm1⟩
  have HM := Lib.hid hm1
  clear hm1
  go_wp2_with fail
  refine (HA.out w1).mono ?_
  rintro e w2 ⟨rfl, rfl⟩
  go_wp2_with fail
  go_ret2
  exact ⟨rfl, HM.out⟩

set_option maxHeartbeats 16000000 in
theorem awake12_any (w : World) : Calls Try.prog 24 #[] w fun e w' => e = .returned (.bool true) ∧ Mod (fun _ => False) w w' := by
  obtain ⟨iE, hiE, hzE, hsE, hbE⟩ := info_parts GR.infoE
  obtain ⟨iI, hiI, hzI, hsI, hbI⟩ := info_parts GR.infoI
  have HS : Hid (Ev (Mod (fun _ => False) w) w) := Lib.hid (Ev.mod w)
  go_enter Try.func24, Try.ntmps24
  go_wp2_with fail
  refine (M12.made12_any _ _ 3 _ [3, 3, 5] rfl (Rd.lit _ _ _ _ 3 rfl rfl (by decide))).mono ?_
  rintro e wq0 ⟨a1, n1, d1, a2, n2, d2, a3, n3, d3, t, p, B, C, rfl, hg, hto, hm⟩
  replace HS := Lib.hid (HS.out.step ((Mod.alloc (fun _ => False) _ _).of2 hm))
  replace HS := Lib.hid ((Ev.gv hg).and HS.out)
  replace HS := Lib.hid ((Ev.to hto).and HS.out)
  clear hm hg hto
  have hmay := town_may [3, 3, 5]
  have hfew := Lib.hid (town_few [3, 3, 5])
  obtain ⟨G, hG⟩ : ∃ G, townG [3, 3, 5] = G := ⟨_, rfl⟩
  rw [hG] at hmay hfew
  rw [hG] at HS
  clear hG
  have HMY := Lib.hid hmay
  clear hmay
  have he := Lib.hid ((HS.out.now).2.1.e)
  have h20 : 0 < n2 := by have := he.out; have := hfew.out.2.1.1; omega
  have g0 : 0 < G.E.length := by have := hfew.out.2.1.1; omega
  have hes : n2 ≤ 512 := by have := he.out; have := hfew.out.2.1.2; omega
  go_upto_region 2 with fail
  obtain ⟨bg, hbg⟩ : ∃ b, wq0.heap.size = b := ⟨_, rfl⟩
  obtain ⟨wq1, hwq1⟩ : ∃ W, World.alloc wq0 (.cells #[.slice a1 n1 d1, .slice a2 n2 d2, .slice a3 n3 d3] 29) = W := ⟨_, rfl⟩
  have hBbg : Blk wq1 bg 29 [.slice a1 n1 d1, .slice a2 n2 d2, .slice a3 n3 d3] := by rw [← hwq1, ← hbg]; exact Blk.new _ 29 [.slice a1 n1 d1, .slice a2 n2 d2, .slice a3 n3 d3]
  have hzbg : wq1.heap.size = bg + 1 := by rw [← hwq1, ← hbg]; exact heap_size_alloc _ _
  replace HS := Lib.hid (HS.out.step (w' := wq1) (by rw [← hwq1]; exact Mod.alloc _ _ _))
  replace HS := Lib.hid ((Ev.blk hBbg).and HS.out)
  try rw [hwq1]
  try rw [hbg]
  clear hzbg hBbg hbg hwq1
  have hbbg := (HS.out.now).1
  have qbg_0 := hbbg.cell 0 rfl
  have qbg_1 := hbbg.cell 1 rfl
  have qbg_2 := hbbg.cell 2 rfl
  have lbg := hbbg.lt
  clear hbbg
  obtain ⟨x0, Hx00⟩ : ∃ qz, (G.E[0]).1 = qz := ⟨_, rfl⟩
  have Hx0 := Lib.hid Hx00
  clear Hx00
  obtain ⟨y0, Hy00⟩ : ∃ qz, (G.E[0]).2.1 = qz := ⟨_, rfl⟩
  have Hy0 := Lib.hid Hy00
  clear Hy00
  obtain ⟨z0, Hz00⟩ : ∃ qz, (G.E[0]).2.2 = qz := ⟨_, rfl⟩
  have Hz0 := Lib.hid Hz00
  clear Hz00
  have hy0 : (eAt G ((0 : Nat) : Int)).2.1 = y0 := by rw [eAt_eq G 0 g0]; exact Hy0.out
  have hyn := (HMY.out.2.2.1 _ (List.getElem_mem g0)).2.1
  rw [Hy0.out] at hyn
  have HYN := Lib.hid hyn
  have HY := Lib.hid hy0
  clear hyn hy0
  obtain ⟨eb, eo, hpl, e0, e1, e2⟩ := rd3 (HS.out.now).2.2.1.re 0 g0
  have hix := fun wx => run_indexS (P := Try.prog) wx 26 43 iE 3 Try.underlying26 hiE hsE a2 n2 d2 0 h20 ((HS.out.now).2.2.1.re.some_ (by have := h20; omega))
  rw [hpl] at hix
  have HIe := Lib.hid hix
  clear hix hpl
  rw [Hx0.out] at e0
  replace HS := Lib.hid ((Ev.cell e0).and HS.out)
  clear e0
  rw [Hy0.out] at e1
  replace HS := Lib.hid ((Ev.cell e1).and HS.out)
  clear e1
  rw [Hz0.out] at e2
  replace HS := Lib.hid ((Ev.cell e2).and HS.out)
  clear e2
  have h2n : ((n2 : Int) == 0) = false := by rw [beq_eq_false_iff_ne]; omega
  have zr : (Rd wq0 1 (.slice none 0 0) 0 (([] : List Bool).map Value.bool)) := Rd.nil _ _
  clear zr
  have hix : ∀ wx : World, (Instr.indexAt 26 (.slice a2 n2 d2) (.int .i64 0)).run Try.prog wx = .ok (.pointer (some ⟨eb, eo, none⟩)) wx := HIe.out
  have c1 := (HS.out.now).2.1
  go_wp2_with fail
  refine (lway_any t p B C G HMY.out _ ((HS.out.now).2.2.2.2.1) 0 y0 none 0 0 [] rfl (Rd.nil _ _)).mono ?_
  rintro e w' hp
  clear hix c1
  clear qbg_0 qbg_1 qbg_2 lbg
  obtain ⟨r, hwl, ra, rn, rc, rfl, hrl, _, hma⟩ := hp
  have hr0 : r = some [] := by
    rcases hwl with ⟨_, d, hf, hr⟩ | ⟨hn, _⟩
    · have h0 : dAt d 0 = 0 := hf.st 0 HY.out (by show 0 < G.E.length; exact g0)
      have h1 : dAt d ((0 : Int)).toNat = 0 := h0
      rw [hr, if_pos (by rw [h1]; exact Int.le_refl _)]
      exact congrArg some (wayN_end (by rw [h1]; decide))
    · exact absurd ⟨HYN.out, by omega, by omega⟩ hn
  subst hr0
  obtain rfl : 0 = rn := hrl
  obtain ⟨wa, hwa⟩ : ∃ x : World, x = w' := ⟨_, rfl⟩
  subst hwa
  simp only [Option.isSome_some]
  replace HS := Lib.hid (HS.out.step hma)
  clear hma hwl
  have hbbg := (HS.out.now).2.2.2.1
  have qbg_0 := hbbg.cell 0 rfl
  have qbg_1 := hbbg.cell 1 rfl
  have qbg_2 := hbbg.cell 2 rfl
  have lbg := hbbg.lt
  clear hbbg
  go_wp2_with fail
  refine (lway_any t p B C G HMY.out _ ((HS.out.now).2.2.2.2.1) 0 99 none 0 0 [] rfl (Rd.nil _ _)).mono ?_
  rintro e w' hp
  clear qbg_0 qbg_1 qbg_2 lbg
  obtain ⟨r, hwl, rb, rm, rd, rfl, hrl, _, hma⟩ := hp
  have hr0 : r = none := by
    rcases hwl with ⟨hn, _⟩ | ⟨_, hr⟩
    · have := hfew.out.1.2; omega
    · exact hr
  subst hr0
  obtain ⟨wb, hwb⟩ : ∃ x : World, x = w' := ⟨_, rfl⟩
  subst hwb
  simp only [Option.isSome_none]
  replace HS := Lib.hid (HS.out.step hma)
  clear hma hwl hrl
  have hbbg := (HS.out.now).2.2.2.1
  have qbg_0 := hbbg.cell 0 rfl
  have qbg_1 := hbbg.cell 1 rfl
  have qbg_2 := hbbg.cell 2 rfl
  have lbg := hbbg.lt
  clear hbbg
  go_wp2_with fail
  refine (lway_nil _ 0 0 none 0 0).mono ?_
  rintro e wq2 ⟨rfl, hmz⟩
  replace HS := Lib.hid (HS.out.step hmz)
  clear hmz
  clear qbg_0 qbg_1 qbg_2 lbg
  have hbbg := (HS.out.now).2.2.2.1
  have qbg_0 := hbbg.cell 0 rfl
  have qbg_1 := hbbg.cell 1 rfl
  have qbg_2 := hbbg.cell 2 rfl
  have lbg := hbbg.lt
  clear hbbg
  go_wp2_with fail
  go_ret
  exact ⟨rfl, (HS.out.now).2.2.2.2.2.2⟩
end Go.Proofs.Ytgiojfihgdifbaa
