/- Contracts of package graph's and the reference's look at whether a graph may be. -/
import Derived.Test.YtdccpikddhpleaaGr1
import Derived.StillTailTactics
import Derived.Deep.QuietTactic
import Derived.BigQuiet
namespace Go.Proofs.Ytdccpikddhpleaa
open Go.RowKit Mile
set_option maxRecDepth 100000
theorem cmpB_nonneg (x y : P2) : 0 ≤ cmpB x y ↔ ¬ blt x y := by
  unfold cmpB cmpI blt
  split <;> split <;> (try split) <;> (try split) <;> omega
theorem eAt_eq (G : GD) (i : Nat) (h : i < G.E.length) : eAt G (i : Int) = G.E[i] := by
  unfold eAt; simp [List.getD, h]
theorem within_q {n a b : Int} {r : Bool} (h : decide (a ≤ n ∧ n ≤ b) = r) (w : World) (k : Nat) : Calls Try.prog 63 #[.int .i64 n, .int .i64 a, .int .i64 b] (w.drewN k) fun e w' => e = .returned (.bool r) ∧ w' = w.drewN k :=
  (within_any n a b _).mono fun e w' hh => ⟨by rw [hh.1, h], hh.2.symm⟩

set_option maxHeartbeats 8000000 in
set_option maxRecDepth 100000 in
theorem bansFit_any (G : GD) (w : World) (a1 : Option Addr) (n1 d1 : Nat) (a2 : Option Addr) (n2 d2 : Nat) (a3 : Option Addr) (n3 d3 : Nat) (h : GV w a1 n1 d1 a2 n2 d2 a3 n3 d3 G) (hs2 : n2 ≤ 512) (hs3 : n3 ≤ 1024) :
    Calls Try.prog 55 #[.agg #[.slice a1 n1 d1, .slice a2 n2 d2, .slice a3 n3 d3]] w fun e w' => ∃ r : Bool, e = .returned (.bool r) ∧ (r = true ↔ BansOk G) ∧ Mod (fun _ => False) w w' := by
  obtain ⟨iN, hiN, hzN, hsN, hbN⟩ := info_parts GR.infoE
  obtain ⟨iB, hiB, hzB, hsB, hbB⟩ := info_parts GR.infoB
  obtain ⟨_, g2, g3, _, hre, hrb⟩ := h
  have HE := Lib.hid g2
  have HB := Lib.hid g3
  clear g2 g3
  go_enter Try.func55, Try.ntmps55
  go_wp2_with fail
  have hM0 : Mod (fun _ => False) w (w.alloc (.cells #[.slice a1 n1 d1, .slice a2 n2 d2, .slice a3 n3 d3] 26)) := (Mod.refl _ _).thenAlloc _
  have hG0 : Blk (w.alloc (.cells #[.slice a1 n1 d1, .slice a2 n2 d2, .slice a3 n3 d3] 26)) w.heap.size 26 [.slice a1 n1 d1, .slice a2 n2 d2, .slice a3 n3 d3] := Blk.new w 26 [.slice a1 n1 d1, .slice a2 n2 d2, .slice a3 n3 d3]
  obtain ⟨W1, hW1⟩ : ∃ W1, w.alloc (.cells #[.slice a1 n1 d1, .slice a2 n2 d2, .slice a3 n3 d3] 26) = W1 := ⟨_, rfl⟩
  obtain ⟨p, hp⟩ : ∃ p, w.heap.size = p := ⟨_, rfl⟩
  rw [hW1, hp] at hG0
  rw [hW1] at hM0
  rw [hW1, hp]
  clear hW1 hp
  go_loopw [4, 5, 13] (fun _ _ i wr => ∃ j : Nat, j ≤ n3 ∧ i = .int .i64 j ∧ Mod (fun _ => False) W1 wr ∧ ∀ k (hk : k < G.B.length), k < j → BanOk G G.B[k] ∧ (∀ _ : 0 < k, blt (G.B[k - 1]'(by omega)) G.B[k])) (fun _ _ i _ => n3 - (intOf i).toNat)
  case atStart => exact ⟨0, by omega, rfl, Mod.refl _ _, fun k _ h => by omega⟩
  case round =>
    obtain ⟨j, hj, rfl, hM1, hall⟩ := hrel
    have hM := hM0.trans hM1 (H := fun _ => False) (fun _ _ e => e) (fun _ _ e => e)
    have HA := Lib.hid hall
    clear hall
    have hG := hG0.keep hM1 (fun e => e)
    have f0 : wr.cell? ⟨p, 0, none⟩ = some (.slice a1 n1 d1) := hG.cell 0 rfl
    have f1 : wr.cell? ⟨p, 1, none⟩ = some (.slice a2 n2 d2) := hG.cell 1 rfl
    have f2 : wr.cell? ⟨p, 2, none⟩ = some (.slice a3 n3 d3) := hG.cell 2 rfl
    have hlt2 := hG.lt
    by_cases hlt : j < n3
    · have hjl : j < G.B.length := by rw [HB.out]; exact hlt
      obtain ⟨b, o, hpl, e1, e2⟩ := rd2 (hrb.keepA hM (fun _ _ e => e.elim)) j hjl
      have hix := fun wx => run_indexS (P := Try.prog) wx 24 63 iB 2 Try.underlying24 hiB hsB a3 n3 d3 j hlt (hrb.some_ (by omega))
      rw [hpl] at hix
      have hok : Hid (BanOk G G.B[j] ↔ ((0 ≤ G.B[j].1 ∧ G.B[j].1 ≤ (n2 : Int) - 1) ∧ (0 ≤ G.B[j].2 ∧ G.B[j].2 ≤ (n2 : Int) - 1) ∧ (eAt G G.B[j].1).2.1 = (eAt G G.B[j].2).1)) := Lib.hid (by unfold BanOk; rw [HE.out]; omega)
      have hprev : Hid (∀ t (ht : j = t + 1), ∀ w', Mod (fun _ => False) w w' → ∃ b o, elemA a3 t 2 = ⟨b, o, none⟩ ∧ w'.cell? ⟨b, o, none⟩ = some (.int .i64 (G.B[t]'(by omega)).1) ∧ w'.cell? ⟨b, o + 1, none⟩ = some (.int .i64 (G.B[t]'(by omega)).2)) := Lib.hid fun t ht w' hw' => rd2 (hrb.keepA hw' (fun _ _ e => e.elim)) t (by omega)
      obtain ⟨X, hX⟩ : ∃ X, G.B[j] = X := ⟨_, rfl⟩
      have HX := Lib.hid hX
      rw [hX] at hok e1 e2
      clear hX hpl
      obtain ⟨x, y⟩ := X
      simp only at hok e1 e2
      by_cases c1 : 0 ≤ x ∧ x ≤ (n2 : Int) - 1
      · have k1 : decide (0 ≤ x ∧ x ≤ (n2 : Int) - 1) = true := by simpa using c1
        by_cases c2 : 0 ≤ y ∧ y ≤ (n2 : Int) - 1
        · have k2 : decide (0 ≤ y ∧ y ≤ (n2 : Int) - 1) = true := by simpa using c2
          obtain ⟨kx, hkx⟩ := Int.eq_ofNat_of_zero_le c1.1
          obtain ⟨ky, hky⟩ := Int.eq_ofNat_of_zero_le c2.1
          subst hkx hky
          have hkx : kx < G.E.length := by rw [HE.out]; omega
          have hky : ky < G.E.length := by rw [HE.out]; omega
          rw [eAt_eq G kx hkx, eAt_eq G ky hky] at hok
          obtain ⟨bx, ox, hpx, _, x2, _⟩ := rd3 (hre.keepA hM (fun _ _ e => e.elim)) kx hkx
          obtain ⟨by_, oy, hpy, y1, _, _⟩ := rd3 (hre.keepA hM (fun _ _ e => e.elim)) ky hky
          have hixx := fun wx => run_indexS (P := Try.prog) wx 23 52 iN 3 Try.underlying23 hiN hsN a2 n2 d2 kx (by omega) (hre.some_ (by omega))
          have hixy := fun wx => run_indexS (P := Try.prog) wx 23 52 iN 3 Try.underlying23 hiN hsN a2 n2 d2 ky (by omega) (hre.some_ (by omega))
          rw [hpx] at hixx
          rw [hpy] at hixy
          obtain ⟨u, hu⟩ : ∃ u, G.E[kx].2.1 = u := ⟨_, rfl⟩
          obtain ⟨v, hv⟩ : ∃ v, G.E[ky].1 = v := ⟨_, rfl⟩
          rw [hu] at x2 hok
          rw [hv] at y1 hok
          clear hu hv hpx hpy
          have ltx : bx < wr.heap.size := World.block_lt_of_cell? _ _ x2
          have lty : by_ < wr.heap.size := World.block_lt_of_cell? _ _ y1
          by_cases c3 : u = v
          · have q3 : (u == v) = true := by simpa using c3
            by_cases hj0 : j = 0
            · have g0 : decide ((0 : Int) < (j : Int)) = false := by simp; omega
              have g00 : decide (0 < j) = false := by simp; omega
              have HJ := Lib.hid hj0
              clear hj0 hprev
              go_wp2_with fail
              go_quiet ((go_at_call 63; exact Calls.quiet_of_same (within_q (by assumption) _ _)))
              go_wp2_with fail
              go_quiet (fail)
              go_wp2_with fail
              go_roundw
              case rel =>
                refine ⟨j + 1, hlt, by go_num, (hM1.thenAlloc _).trans (Mod.drewN (fun _ => False) _ _) (fun _ _ e => e) (fun _ _ e => e), fun k hk hkj => ?_⟩
                by_cases e : k = j
                · subst e
                  rw [HX.out]
                  exact ⟨hok.out.2 ⟨c1, c2, c3⟩, fun h => absurd HJ.out (by omega)⟩
                · exact HA.out k hk (by omega)
              case measure => simp [intOf]; omega
            · have g0 : decide ((0 : Int) < (j : Int)) = true := by simp; omega
              have g00 : decide (0 < j) = true := by simp; omega
              have hj1 : j - 1 < G.B.length := by omega
              obtain ⟨t, ht⟩ : ∃ t, j = t + 1 := ⟨j - 1, by omega⟩
              have htl : t < G.B.length := by omega
              have e0 : (j : Int) - 1 = (t : Int) := by omega
              obtain ⟨pb, po, hpp, p1, p2⟩ := hprev.out t ht wr hM
              have hixp : ∀ wx, (Instr.indexAt 24 (.slice a3 n3 d3) (.int .i64 ((j : Int) - 1))).run Try.prog wx = .ok (.pointer (some ⟨pb, po, none⟩)) wx := fun wx => by
                rw [e0, ← hpp]; exact run_indexS (P := Try.prog) wx 24 63 iB 2 Try.underlying24 hiB hsB a3 n3 d3 t (by omega) (hrb.some_ (by omega))
              have ltp : pb < wr.heap.size := World.block_lt_of_cell? _ _ p1
              obtain ⟨z, hz⟩ : ∃ z, (G.B[t]'htl) = z := ⟨_, rfl⟩
              rw [hz] at p1 p2
              obtain ⟨z1, z2⟩ := z
              simp only at p1 p2
              have HBL : Hid (blt (G.B[j - 1]'hj1) G.B[j] ↔ blt (z1, z2) ((kx : Int), (ky : Int))) := Lib.hid (by
                have hjt : j - 1 = t := by omega
                rw [HX.out]
                simp only [hjt]
                rw [hz])
              have HJ := Lib.hid hj0
              clear hz ht e0 hpp hprev hj0
              have hcmp := cmpB_nonneg (z1, z2) ((kx : Int), (ky : Int))
              obtain ⟨cv, hcv⟩ : ∃ cv, cmpB (z1, z2) ((kx : Int), (ky : Int)) = cv := ⟨_, rfl⟩
              rw [hcv] at hcmp
              have HCV := Lib.hid hcv
              have HCM := Lib.hid hcmp
              clear hcv hcmp
              go_wp2_with fail
              go_quiet ((go_at_call 63; exact Calls.quiet_of_same (within_q (by assumption) _ _)))
              go_wp2_with fail
              have hM3 := (hM1.thenAlloc (.cells #[.int .i64 (kx : Int), .int .i64 (ky : Int)] 63)).trans (Mod.drewN (fun _ => False) _ nq) (H := fun _ => False) (fun _ _ e => e) (fun _ _ e => e)
              have hNB : Blk ((wr.alloc (.cells #[.int .i64 (kx : Int), .int .i64 (ky : Int)] 63)).drewN nq) wr.heap.size 63 [.int .i64 (kx : Int), .int .i64 (ky : Int)] := (Blk.new wr 63 [.int .i64 (kx : Int), .int .i64 (ky : Int)]).keep (Mod.drewN (fun _ => False) _ nq) (fun e => e)
              have f2' := ((Mod.alloc (fun _ => False) wr (.cells #[.int .i64 (kx : Int), .int .i64 (ky : Int)] 63)).trans (Mod.drewN (fun _ => False) _ nq) (H := fun _ => False) (fun _ _ e => e) (fun _ _ e => e)).cell f2 (fun e => e)
              have p1' := ((Mod.alloc (fun _ => False) wr (.cells #[.int .i64 (kx : Int), .int .i64 (ky : Int)] 63)).trans (Mod.drewN (fun _ => False) _ nq) (H := fun _ => False) (fun _ _ e => e) (fun _ _ e => e)).cell p1 (fun e => e)
              have p2' := ((Mod.alloc (fun _ => False) wr (.cells #[.int .i64 (kx : Int), .int .i64 (ky : Int)] 63)).trans (Mod.drewN (fun _ => False) _ nq) (H := fun _ => False) (fun _ _ e => e) (fun _ _ e => e)).cell p2 (fun e => e)
              obtain ⟨wq, hwq⟩ : ∃ wq, (wr.alloc (.cells #[.int .i64 (kx : Int), .int .i64 (ky : Int)] 63)).drewN nq = wq := ⟨_, rfl⟩
              obtain ⟨s, hs⟩ : ∃ s, wr.heap.size = s := ⟨_, rfl⟩
              rw [hs] at hNB
              rw [hwq] at hM3 hNB f2' p1' p2'
              rw [hwq, hs]
              clear f0 f1 f2 p1 p2 e1 e2 x2 y1 hwq
              have b0 := hNB.cell 0 rfl
              have b1 := hNB.cell 1 rfl
              have hw1 : IntKind.i64.wrap ((j : Int) - 1) = (j : Int) - 1 := IntWalk.i64_in _ (by omega)
              go_still_tail 10, (by kernel_rfl)
              change wpList _ _ _ _ _ (World.drew wq)
              go_wp2_with fail
              refine (compareBans_any (z1, z2) ((kx : Int), (ky : Int)) _).mono ?_
              rintro e w1 ⟨rfl, hM2⟩
              rw [HCV.out]
              have hM4 := hM3.thenDrew.trans hM2 (H := fun _ => False) (fun _ _ e => e) (fun _ _ e => e)
              by_cases hc : 0 ≤ cv
              · have g1 : decide (0 ≤ cv) = true := by simpa using hc
                go_wp2_with fail
                go_ret
                exact ⟨false, rfl, ⟨fun h => (by cases h), fun h => absurd (HBL.out.1 ((h j hjl).2 (by have := HJ.out; omega))) (HCM.out.1 hc)⟩, hM0.trans hM4 (fun _ _ e => e) (fun _ _ e => e)⟩
              · have g1 : decide (0 ≤ cv) = false := by simpa using hc
                go_wp2_with fail
                go_roundw
                case rel =>
                  refine ⟨j + 1, hlt, by go_num, hM4, fun k hk hkj => ?_⟩
                  by_cases e : k = j
                  · subst e
                    refine ⟨by rw [HX.out]; exact hok.out.2 ⟨c1, c2, c3⟩, fun h => HBL.out.2 (Classical.byContradiction fun hn => by have := HCM.out.2 hn; omega)⟩
                  · exact HA.out k hk (by omega)
                case measure => simp [intOf]; omega
          · have q3 : (u == v) = false := by rw [beq_eq_false_iff_ne]; exact c3
            go_wp2_with fail
            go_quiet ((go_at_call 63; exact Calls.quiet_of_same (within_q (by assumption) _ _)))
            go_wp2_with fail
            go_ret
            exact ⟨false, rfl, ⟨fun h => (by cases h), fun h => absurd (hok.out.1 (by rw [← HX.out]; exact (h j hjl).1)).2.2 c3⟩, (hM.thenAlloc _).trans (Mod.drewN (fun _ => False) _ _) (fun _ _ e => e) (fun _ _ e => e)⟩
        · have k2 : decide (0 ≤ y ∧ y ≤ (n2 : Int) - 1) = false := by simpa using c2
          go_wp2_with fail
          go_quiet ((go_at_call 63; exact Calls.quiet_of_same (within_q (by assumption) _ _)))
          go_wp2_with fail
          go_ret
          exact ⟨false, rfl, ⟨fun h => (by cases h), fun h => absurd (hok.out.1 (by rw [← HX.out]; exact (h j hjl).1)).2.1 c2⟩, (hM.thenAlloc _).trans (Mod.drewN (fun _ => False) _ _) (fun _ _ e => e) (fun _ _ e => e)⟩
      · have k1 : decide (0 ≤ x ∧ x ≤ (n2 : Int) - 1) = false := by simpa using c1
        go_wp2_with fail
        go_quiet ((go_at_call 63; exact Calls.quiet_of_same (within_q (by assumption) _ _)))
        go_wp2_with fail
        go_ret
        exact ⟨false, rfl, ⟨fun h => (by cases h), fun h => absurd (hok.out.1 (by rw [← HX.out]; exact (h j hjl).1)).1 c1⟩, (hM.thenAlloc _).trans (Mod.drewN (fun _ => False) _ _) (fun _ _ e => e) (fun _ _ e => e)⟩
    · obtain rfl : j = n3 := by omega
      go_wp2_with fail
      go_ret
      exact ⟨true, rfl, ⟨fun _ i hi => HA.out i hi (by rw [← HB.out]; exact hi), fun _ => rfl⟩, hM⟩
end Go.Proofs.Ytdccpikddhpleaa
