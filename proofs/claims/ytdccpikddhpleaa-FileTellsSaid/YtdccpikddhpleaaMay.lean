/- The document's own look at whether a graph may be (milepostref1.May), by contract. -/
import Derived.Test.YtdccpikddhpleaaGr3
namespace Go.Proofs.Ytdccpikddhpleaa
open Go.RowKit Mile
set_option maxRecDepth 100000
theorem rwithin_any (n a b : Int) (w : World) : Calls Try.prog 40 #[.int .i64 n, .int .i64 a, .int .i64 b] w fun e w' => e = .returned (.bool (decide (a ≤ n ∧ n ≤ b))) ∧ w = w' := by
  by_cases h1 : a ≤ n <;> by_cases h2 : n ≤ b <;>
  · go_enter Try.func40, Try.ntmps40
    go_wp2
    go_ret
    exact ⟨by simp [h1, h2], rfl⟩
theorem rwithin_q {n a b : Int} {r : Bool} (h : decide (a ≤ n ∧ n ≤ b) = r) (w : World) : Calls Try.prog 40 #[.int .i64 n, .int .i64 a, .int .i64 b] w fun e w' => e = .returned (.bool r) ∧ w' = w :=
  (rwithin_any n a b _).mono fun e w' hh => ⟨by rw [hh.1, h], hh.2.symm⟩

set_option maxHeartbeats 8000000 in
set_option maxRecDepth 100000 in
theorem rmay_any (G : GD) (w : World) (a1 : Option Addr) (n1 m1 : Nat) (a2 : Option Addr) (n2 m2 : Nat) (a3 : Option Addr) (n3 m3 : Nat) (h : GV w a1 n1 m1 a2 n2 m2 a3 n3 m3 G) (q1 : n1 ≤ 100000) (q2 : n2 ≤ 100000) (q3 : n3 ≤ 100000) :
    Calls Try.prog 21 #[.agg #[.slice a1 n1 m1, .slice a2 n2 m2, .slice a3 n3 m3]] w (FitP (May G) w) := by
  obtain ⟨iN, hiN, hzN, hsN, hbN⟩ := info_parts GR.infoN
  obtain ⟨iE, hiE, hzE, hsE, hbE⟩ := info_parts GR.infoE
  obtain ⟨iB, hiB, hzB, hsB, hbB⟩ := info_parts GR.infoB
  by_cases hsz : SizesOk G
  · have hsz' := hsz
    unfold SizesOk at hsz'
    rw [h.n, h.e, h.b] at hsz'
    obtain ⟨s1, s2, s3⟩ := hsz'
    have d1 : decide (1 ≤ (n1 : Int) ∧ (n1 : Int) ≤ 256) = true := decide_eq_true (by omega)
    have g2 : decide ((512 : Int) < (n2 : Int)) = false := by simp; omega
    have g3 : decide ((1024 : Int) < (n3 : Int)) = false := by simp; omega
    go_enter Try.func21, Try.ntmps21
    go_wp2_with (go_at_call 40; refine (rwithin_q d1 _).mono ?_; rintro e w' ⟨rfl, rfl⟩)
    have hA0 := Mod.alloc (fun _ => False) w (.cells #[.slice a1 n1 m1, .slice a2 n2 m2, .slice a3 n3 m3] 26)
    have hp0 : Blk (w.alloc (.cells #[.slice a1 n1 m1, .slice a2 n2 m2, .slice a3 n3 m3] 26)) w.heap.size 26 [.slice a1 n1 m1, .slice a2 n2 m2, .slice a3 n3 m3] := Blk.new w 26 [.slice a1 n1 m1, .slice a2 n2 m2, .slice a3 n3 m3]
    obtain ⟨p, hp⟩ : ∃ p, w.heap.size = p := ⟨_, rfl⟩
    obtain ⟨W0, hW0⟩ : ∃ W0, w.alloc (.cells #[.slice a1 n1 m1, .slice a2 n2 m2, .slice a3 n3 m3] 26) = W0 := ⟨_, rfl⟩
    rw [hW0, hp] at hp0
    rw [hW0] at hA0
    rw [hW0, hp]
    clear hp hW0 d1
    obtain ⟨h1, h2, h3, r1, r2, r3⟩ := h
    have H1 := Lib.hid h1
    have H2 := Lib.hid h2
    have H3 := Lib.hid h3
    have HSZ := Lib.hid hsz
    clear h1 h2 h3 hsz
    have HC : Hid (∀ W, Mod (fun _ => False) W0 W → W.cell? ⟨p, 0, none⟩ = some (.slice a1 n1 m1) ∧ W.cell? ⟨p, 1, none⟩ = some (.slice a2 n2 m2) ∧ W.cell? ⟨p, 2, none⟩ = some (.slice a3 n3 m3) ∧ p < W.heap.size) := Lib.hid fun W hm => by
      have h := hp0.keep hm (fun e => e)
      exact ⟨h.cell 0 rfl, h.cell 1 rfl, h.cell 2 rfl, h.lt⟩
    clear hp0
    go_loopw [3] (fun i wr => ∃ j : Nat, j ≤ n1 ∧ i = .int .i64 j ∧ wr = W0 ∧ ∀ k (hk : k < G.N.length), k < j → NodeOk G.N[k]) (fun i _ => n1 - (intOf i).toNat)
    case atStart => exact ⟨0, by omega, rfl, rfl, fun k _ h => by omega⟩
    case round =>
      obtain ⟨j, hj, rfl, hwW, hall⟩ := hrel
      rw [hwW]
      clear hwW
      have HA := Lib.hid hall
      clear hall
      obtain ⟨c0, c1, c2, cp⟩ := HC.out W0 (Mod.refl _ _)
      by_cases hlt : j < n1
      · have hjl : j < G.N.length := by rw [H1.out]; exact hlt
        obtain ⟨b, o, hpl, e1, e2⟩ := rd2 (r1.keepA hA0 (fun _ _ e => e.elim)) j hjl
        have hix := fun wx => run_indexS (P := Try.prog) wx 22 50 iN 2 Try.underlying22 hiN hsN a1 n1 m1 j hlt (r1.some_ (by omega))
        rw [hpl] at hix
        have hok : Hid (NodeOk G.N[j] ↔ ((0 ≤ G.N[j].1 ∧ G.N[j].1 ≤ 4095) ∧ (0 ≤ G.N[j].2 ∧ G.N[j].2 ≤ 4095))) := Lib.hid Iff.rfl
        obtain ⟨x, hx⟩ : ∃ x, G.N[j].1 = x := ⟨_, rfl⟩
        obtain ⟨y, hy⟩ : ∃ y, G.N[j].2 = y := ⟨_, rfl⟩
        rw [hx, hy] at hok
        rw [hx] at e1
        rw [hy] at e2
        clear hx hy hpl
        by_cases k1 : 0 ≤ x ∧ x ≤ 4095
        · have d1 : decide (0 ≤ x ∧ x ≤ 4095) = true := by simpa using k1
          by_cases k2 : 0 ≤ y ∧ y ≤ 4095
          · have d2 : decide (0 ≤ y ∧ y ≤ 4095) = true := by simpa using k2
            go_wp2_with (go_at_call 40; refine (rwithin_q (by assumption) _).mono ?_; rintro e w' ⟨rfl, rfl⟩)
            go_roundw
            case rel =>
              refine ⟨j + 1, hlt, by go_num, by first | rfl | trivial, fun k hk hkj => ?_⟩
              by_cases e : k = j
              · subst e; exact hok.out.2 ⟨k1, k2⟩
              · exact HA.out k hk (by omega)
            case measure => simp [intOf]; omega
          · have d2 : decide (0 ≤ y ∧ y ≤ 4095) = false := by simpa using k2
            go_wp2_with (go_at_call 40; refine (rwithin_q (by assumption) _).mono ?_; rintro e w' ⟨rfl, rfl⟩)
            go_ret
            exact ⟨false, rfl, ⟨fun h => (by cases h), fun hm => absurd (hok.out.1 (hm.2.1 _ (List.getElem_mem hjl))).2 k2⟩, hA0⟩
        · have d1 : decide (0 ≤ x ∧ x ≤ 4095) = false := by simpa using k1
          go_wp2_with (go_at_call 40; refine (rwithin_q (by assumption) _).mono ?_; rintro e w' ⟨rfl, rfl⟩)
          go_ret
          exact ⟨false, rfl, ⟨fun h => (by cases h), fun hm => absurd (hok.out.1 (hm.2.1 _ (List.getElem_mem hjl))).1 k1⟩, hA0⟩
      · obtain rfl : j = n1 := by omega
        have hN : NodesOk G := fun x hx => by obtain ⟨i, hi, rfl⟩ := List.getElem_of_mem hx; exact HA.out i hi (by rw [← H1.out]; exact hi)
        have HNN := Lib.hid hN
        clear hN
        go_wp2_with fail
        go_loopw [4, 5] (fun i _ wr => ∃ j : Nat, j ≤ n2 ∧ i = .int .i64 j ∧ Mod (fun _ => False) W0 wr ∧ ∀ k (hk : k < G.E.length), k < j → EdgeOk G.N.length G.E[k]) (fun i _ _ => n2 - (intOf i).toNat)
        case atStart => exact ⟨0, by omega, rfl, Mod.refl _ _, fun k _ h => by omega⟩
        case round =>
          obtain ⟨j', hj', rfl, hMR, hall⟩ := hrel
          have HA' := Lib.hid hall
          clear hall c0 c1 c2 cp
          obtain ⟨c0, c1, c2, cp⟩ := HC.out _ hMR
          have hMT := hA0.trans hMR (H := fun _ => False) (fun _ _ e => e) (fun _ _ e => e)
          by_cases hlt : j' < n2
          · have hjl : j' < G.E.length := by rw [H2.out]; exact hlt
            obtain ⟨b, o, hpl, e1, e2, e3⟩ := rd3 (r2.keepA hMT (fun _ _ e => e.elim)) j' hjl
            have hix := fun wx => run_indexS (P := Try.prog) wx 23 52 iE 3 Try.underlying23 hiE hsE a2 n2 m2 j' hlt (r2.some_ (by omega))
            rw [hpl] at hix
            have hok : Hid (EdgeOk G.N.length G.E[j'] ↔ ((0 ≤ G.E[j'].1 ∧ G.E[j'].1 ≤ (j : Int) - 1) ∧ (0 ≤ G.E[j'].2.1 ∧ G.E[j'].2.1 ≤ (j : Int) - 1) ∧ (1 ≤ G.E[j'].2.2 ∧ G.E[j'].2.2 ≤ 65535))) := Lib.hid (by unfold EdgeOk; rw [H1.out]; omega)
            obtain ⟨x, hx⟩ : ∃ x, G.E[j'].1 = x := ⟨_, rfl⟩
            obtain ⟨y, hy⟩ : ∃ y, G.E[j'].2.1 = y := ⟨_, rfl⟩
            obtain ⟨z, hz⟩ : ∃ z, G.E[j'].2.2 = z := ⟨_, rfl⟩
            rw [hx, hy, hz] at hok
            rw [hx] at e1
            rw [hy] at e2
            rw [hz] at e3
            clear hx hy hz hpl
            have ltb : b < wr.heap.size := World.block_lt_of_cell? _ _ e1
            by_cases k1 : 0 ≤ x ∧ x ≤ (j : Int) - 1
            · have d1 : decide (0 ≤ x ∧ x ≤ (j : Int) - 1) = true := by simpa using k1
              by_cases k2 : 0 ≤ y ∧ y ≤ (j : Int) - 1
              · have d2 : decide (0 ≤ y ∧ y ≤ (j : Int) - 1) = true := by simpa using k2
                by_cases k3 : 1 ≤ z ∧ z ≤ 65535
                · have d3 : decide (1 ≤ z ∧ z ≤ 65535) = true := by simpa using k3
                  go_wp2_with (go_at_call 40; refine (rwithin_q (by assumption) _).mono ?_; rintro e w' ⟨rfl, rfl⟩)
                  go_roundw
                  case rel =>
                    refine ⟨j' + 1, hlt, by go_num, hMR.thenAlloc _, fun k hk hkj => ?_⟩
                    by_cases e : k = j'
                    · subst e; exact hok.out.2 ⟨k1, k2, k3⟩
                    · exact HA'.out k hk (by omega)
                  case measure => simp [intOf]; omega
                · have d3 : decide (1 ≤ z ∧ z ≤ 65535) = false := by simpa using k3
                  go_wp2_with (go_at_call 40; refine (rwithin_q (by assumption) _).mono ?_; rintro e w' ⟨rfl, rfl⟩)
                  go_ret
                  exact ⟨false, rfl, ⟨fun h => (by cases h), fun hm => absurd (hok.out.1 (hm.2.2.1 _ (List.getElem_mem hjl))).2.2 k3⟩, hMT.thenAlloc _⟩
              · have d2 : decide (0 ≤ y ∧ y ≤ (j : Int) - 1) = false := by simpa using k2
                go_wp2_with (go_at_call 40; refine (rwithin_q (by assumption) _).mono ?_; rintro e w' ⟨rfl, rfl⟩)
                go_ret
                exact ⟨false, rfl, ⟨fun h => (by cases h), fun hm => absurd (hok.out.1 (hm.2.2.1 _ (List.getElem_mem hjl))).2.1 k2⟩, hMT.thenAlloc _⟩
            · have d1 : decide (0 ≤ x ∧ x ≤ (j : Int) - 1) = false := by simpa using k1
              go_wp2_with (go_at_call 40; refine (rwithin_q (by assumption) _).mono ?_; rintro e w' ⟨rfl, rfl⟩)
              go_ret
              exact ⟨false, rfl, ⟨fun h => (by cases h), fun hm => absurd (hok.out.1 (hm.2.2.1 _ (List.getElem_mem hjl))).1 k1⟩, hMT.thenAlloc _⟩
          · obtain rfl : j' = n2 := by omega
            have hE : EdgesOk G := fun x hx => by obtain ⟨i, hi, rfl⟩ := List.getElem_of_mem hx; exact HA'.out i hi (by rw [← H2.out]; exact hi)
            have HEE := Lib.hid hE
            clear hE
            go_wp2_with fail
            go_loopw [6, 7] (fun i _ wr => ∃ j : Nat, j ≤ n3 ∧ i = .int .i64 j ∧ Mod (fun _ => False) W0 wr ∧ ∀ k (hk : k < G.B.length), k < j → BanOk G G.B[k] ∧ (∀ _ : 0 < k, blt (G.B[k - 1]'(by omega)) G.B[k])) (fun i _ _ => n3 - (intOf i).toNat)
            case atStart => exact ⟨0, by omega, rfl, hMR, fun k _ h => by omega⟩
            case round =>
              obtain ⟨j3, hj3, rfl, hMR3, hall⟩ := hrel
              have HB' := Lib.hid hall
              clear hall c0 c1 c2 cp
              obtain ⟨c0, c1, c2, cp⟩ := HC.out _ hMR3
              have hMT3 := hA0.trans hMR3 (H := fun _ => False) (fun _ _ e => e) (fun _ _ e => e)
              by_cases hlt : j3 < n3
              · have hjl : j3 < G.B.length := by rw [H3.out]; exact hlt
                obtain ⟨b, o, hpl, e1, e2⟩ := rd2 (r3.keepA hMT3 (fun _ _ e => e.elim)) j3 hjl
                have hix := fun wx => run_indexS (P := Try.prog) wx 24 63 iB 2 Try.underlying24 hiB hsB a3 n3 m3 j3 hlt (r3.some_ (by omega))
                rw [hpl] at hix
                have hok : Hid (BanOk G G.B[j3] ↔ ((0 ≤ G.B[j3].1 ∧ G.B[j3].1 ≤ (j' : Int) - 1) ∧ (0 ≤ G.B[j3].2 ∧ G.B[j3].2 ≤ (j' : Int) - 1) ∧ (eAt G G.B[j3].1).2.1 = (eAt G G.B[j3].2).1)) := Lib.hid (by unfold BanOk; rw [H2.out]; omega)
                have hprev : Hid (∀ t (ht : j3 = t + 1), ∃ b o, elemA a3 t 2 = ⟨b, o, none⟩ ∧ wr.cell? ⟨b, o, none⟩ = some (.int .i64 (G.B[t]'(by omega)).1) ∧ wr.cell? ⟨b, o + 1, none⟩ = some (.int .i64 (G.B[t]'(by omega)).2)) := Lib.hid fun t ht => rd2 (r3.keepA hMT3 (fun _ _ e => e.elim)) t (by omega)
                obtain ⟨X, hX⟩ : ∃ X, G.B[j3] = X := ⟨_, rfl⟩
                have HX := Lib.hid hX
                rw [hX] at hok e1 e2
                clear hX hpl
                obtain ⟨x, y⟩ := X
                simp only at hok e1 e2
                have ltb : b < wr.heap.size := World.block_lt_of_cell? _ _ e1
                by_cases k1 : 0 ≤ x ∧ x ≤ (j' : Int) - 1
                · have d1 : decide (0 ≤ x ∧ x ≤ (j' : Int) - 1) = true := by simpa using k1
                  by_cases k2 : 0 ≤ y ∧ y ≤ (j' : Int) - 1
                  · have d2 : decide (0 ≤ y ∧ y ≤ (j' : Int) - 1) = true := by simpa using k2
                    obtain ⟨kx, hkx⟩ := Int.eq_ofNat_of_zero_le k1.1
                    obtain ⟨ky, hky⟩ := Int.eq_ofNat_of_zero_le k2.1
                    subst hkx hky
                    have hkx : kx < G.E.length := by rw [H2.out]; omega
                    have hky : ky < G.E.length := by rw [H2.out]; omega
                    rw [eAt_eq G kx hkx, eAt_eq G ky hky] at hok
                    obtain ⟨bx, ox, hpx, _, x2, _⟩ := rd3 (r2.keepA hMT3 (fun _ _ e => e.elim)) kx hkx
                    obtain ⟨by_, oy, hpy, y1, _, _⟩ := rd3 (r2.keepA hMT3 (fun _ _ e => e.elim)) ky hky
                    have hixx := fun wx => run_indexS (P := Try.prog) wx 23 52 iE 3 Try.underlying23 hiE hsE a2 j' m2 kx (by omega) (r2.some_ (by omega))
                    have hixy := fun wx => run_indexS (P := Try.prog) wx 23 52 iE 3 Try.underlying23 hiE hsE a2 j' m2 ky (by omega) (r2.some_ (by omega))
                    rw [hpx] at hixx
                    rw [hpy] at hixy
                    obtain ⟨u, hu⟩ : ∃ u, G.E[kx].2.1 = u := ⟨_, rfl⟩
                    obtain ⟨v, hv⟩ : ∃ v, G.E[ky].1 = v := ⟨_, rfl⟩
                    rw [hu] at x2 hok
                    rw [hv] at y1 hok
                    clear hu hv hpx hpy
                    have ltx : bx < wr.heap.size := World.block_lt_of_cell? _ _ x2
                    have lty : by_ < wr.heap.size := World.block_lt_of_cell? _ _ y1
                    by_cases k3 : u = v
                    · have q3 : (u == v) = true := by simpa using k3
                      by_cases hj0 : j3 = 0
                      · have g0 : decide ((0 : Int) < (j3 : Int)) = false := by simp; omega
                        have g00 : decide (0 < j3) = false := by simp; omega
                        have HJ := Lib.hid hj0
                        clear hj0 hprev
                        go_wp2_with fail
                        go_quiet ((go_at_call 40; exact Calls.quiet_of_same (rwithin_q (by assumption) _)))
                        go_wp2_with fail
                        go_quiet (fail)
                        go_wp2_with fail
                        go_roundw
                        case rel =>
                          refine ⟨j3 + 1, hlt, by go_num, (hMR3.thenAlloc _).trans (Mod.drewN (fun _ => False) _ _) (fun _ _ e => e) (fun _ _ e => e), fun k hk hkj => ?_⟩
                          by_cases e : k = j3
                          · subst e
                            rw [HX.out]
                            exact ⟨hok.out.2 ⟨k1, k2, k3⟩, fun h => absurd HJ.out (by omega)⟩
                          · exact HB'.out k hk (by omega)
                        case measure => simp [intOf]; omega
                      · have g0 : decide ((0 : Int) < (j3 : Int)) = true := by simp; omega
                        have g00 : decide (0 < j3) = true := by simp; omega
                        obtain ⟨t, ht⟩ : ∃ t, j3 = t + 1 := ⟨j3 - 1, by omega⟩
                        have htl : t < G.B.length := by omega
                        have e0 : (j3 : Int) - 1 = (t : Int) := by omega
                        obtain ⟨pb, po, hpp, p1, p2⟩ := hprev.out t ht
                        have hixp : ∀ wx, (Instr.indexAt 24 (.slice a3 n3 m3) (.int .i64 ((j3 : Int) - 1))).run Try.prog wx = .ok (.pointer (some ⟨pb, po, none⟩)) wx := fun wx => by
                          rw [e0, ← hpp]; exact run_indexS (P := Try.prog) wx 24 63 iB 2 Try.underlying24 hiB hsB a3 n3 m3 t (by omega) (r3.some_ (by omega))
                        have ltp : pb < wr.heap.size := World.block_lt_of_cell? _ _ p1
                        obtain ⟨z, hz⟩ : ∃ z, (G.B[t]'htl) = z := ⟨_, rfl⟩
                        rw [hz] at p1 p2
                        obtain ⟨z1, z2⟩ := z
                        simp only at p1 p2
                        have HBL : Hid (∀ h1, blt (G.B[j3 - 1]'h1) G.B[j3] ↔ (z1 < (kx : Int) ∨ (z1 = (kx : Int) ∧ z2 < (ky : Int)))) := Lib.hid (fun h1 => by
                          have hjt : j3 - 1 = t := by omega
                          rw [HX.out]
                          simp only [hjt]
                          rw [hz]
                          rfl)
                        have HJ := Lib.hid hj0
                        clear hz ht e0 hpp hprev hj0
                        have hw1 : IntKind.i64.wrap ((j3 : Int) - 1) = (j3 : Int) - 1 := IntWalk.i64_in _ (by omega)
                        rcases (show (z1 < (kx : Int) ∧ z1 ≠ (kx : Int)) ∨ ((kx : Int) < z1 ∧ z1 ≠ (kx : Int)) ∨ (z1 = (kx : Int) ∧ z2 < (ky : Int)) ∨ (z1 = (kx : Int) ∧ (ky : Int) ≤ z2) by omega) with hc | hc | hc | hc
                        · have q1 : decide ((kx : Int) < z1) = false := by simp; omega
                          have q2 : (z1 == (kx : Int)) = false := by rw [beq_eq_false_iff_ne]; exact hc.2
                          have HCC := Lib.hid hc
                          clear hc
                          go_wp2_with fail
                          go_quiet ((go_at_call 40; exact Calls.quiet_of_same (rwithin_q (by assumption) _)))
                          go_wp2_with fail
                          go_quiet (fail)
                          go_wp2_with fail
                          go_roundw
                          case rel =>
                            refine ⟨j3 + 1, hlt, by go_num, (hMR3.thenAlloc _).trans (Mod.drewN (fun _ => False) _ _) (fun _ _ e => e) (fun _ _ e => e), fun k hk hkj => ?_⟩
                            by_cases e : k = j3
                            · subst e
                              refine ⟨by rw [HX.out]; exact hok.out.2 ⟨k1, k2, k3⟩, fun h => (HBL.out _).2 ?_⟩
                              have := HCC.out; omega
                            · exact HB'.out k hk (by omega)
                          case measure => simp [intOf]; omega
                        · have q1 : decide ((kx : Int) < z1) = true := by simp; omega
                          have HCC := Lib.hid hc
                          clear hc
                          go_wp2_with fail
                          go_quiet ((go_at_call 40; exact Calls.quiet_of_same (rwithin_q (by assumption) _)))
                          go_wp2_with fail
                          go_quiet (fail)
                          go_wp2_with fail
                          go_ret
                          exact ⟨false, rfl, ⟨fun h => (by cases h), fun hm => absurd ((HBL.out _).1 ((hm.2.2.2 j3 hjl).2 (by have := HJ.out; omega))) (by have := HCC.out; omega)⟩, ((hMT3.thenAlloc _).trans (Mod.drewN (fun _ => False) _ _) (H := fun _ => False) (fun _ _ e => e) (fun _ _ e => e)).trans (Mod.drewN (fun _ => False) _ _) (fun _ _ e => e) (fun _ _ e => e)⟩
                        · have q1 : decide ((kx : Int) < z1) = false := by simp; omega
                          have q2 : (z1 == (kx : Int)) = true := by simpa using hc.1
                          have q4 : decide ((ky : Int) ≤ z2) = false := by simp; omega
                          have HCC := Lib.hid hc
                          clear hc
                          go_wp2_with fail
                          go_quiet ((go_at_call 40; exact Calls.quiet_of_same (rwithin_q (by assumption) _)))
                          go_wp2_with fail
                          go_quiet (fail)
                          go_wp2_with fail
                          go_roundw
                          case rel =>
                            refine ⟨j3 + 1, hlt, by go_num, (hMR3.thenAlloc _).trans (Mod.drewN (fun _ => False) _ _) (fun _ _ e => e) (fun _ _ e => e), fun k hk hkj => ?_⟩
                            by_cases e : k = j3
                            · subst e
                              refine ⟨by rw [HX.out]; exact hok.out.2 ⟨k1, k2, k3⟩, fun h => (HBL.out _).2 ?_⟩
                              have := HCC.out; omega
                            · exact HB'.out k hk (by omega)
                          case measure => simp [intOf]; omega
                        · have q1 : decide ((kx : Int) < z1) = false := by simp; omega
                          have q2 : (z1 == (kx : Int)) = true := by simpa using hc.1
                          have q4 : decide ((ky : Int) ≤ z2) = true := by simp; omega
                          have HCC := Lib.hid hc
                          clear hc
                          go_wp2_with fail
                          go_quiet ((go_at_call 40; exact Calls.quiet_of_same (rwithin_q (by assumption) _)))
                          go_wp2_with fail
                          go_quiet (fail)
                          go_wp2_with fail
                          go_ret
                          exact ⟨false, rfl, ⟨fun h => (by cases h), fun hm => absurd ((HBL.out _).1 ((hm.2.2.2 j3 hjl).2 (by have := HJ.out; omega))) (by have := HCC.out; omega)⟩, ((hMT3.thenAlloc _).trans (Mod.drewN (fun _ => False) _ _) (H := fun _ => False) (fun _ _ e => e) (fun _ _ e => e)).trans (Mod.drewN (fun _ => False) _ _) (fun _ _ e => e) (fun _ _ e => e)⟩
                    · have q3 : (u == v) = false := by rw [beq_eq_false_iff_ne]; exact k3
                      go_wp2_with fail
                      go_quiet ((go_at_call 40; exact Calls.quiet_of_same (rwithin_q (by assumption) _)))
                      go_wp2_with fail
                      go_ret
                      exact ⟨false, rfl, ⟨fun h => (by cases h), fun hm => absurd (hok.out.1 (by rw [← HX.out]; exact (hm.2.2.2 j3 hjl).1)).2.2 k3⟩, (hMT3.thenAlloc _).trans (Mod.drewN (fun _ => False) _ _) (fun _ _ e => e) (fun _ _ e => e)⟩
                  · have d2 : decide (0 ≤ y ∧ y ≤ (j' : Int) - 1) = false := by simpa using k2
                    go_wp2_with fail
                    go_quiet ((go_at_call 40; exact Calls.quiet_of_same (rwithin_q (by assumption) _)))
                    go_wp2_with fail
                    go_ret
                    exact ⟨false, rfl, ⟨fun h => (by cases h), fun hm => absurd (hok.out.1 (by rw [← HX.out]; exact (hm.2.2.2 j3 hjl).1)).2.1 k2⟩, (hMT3.thenAlloc _).trans (Mod.drewN (fun _ => False) _ _) (fun _ _ e => e) (fun _ _ e => e)⟩
                · have d1 : decide (0 ≤ x ∧ x ≤ (j' : Int) - 1) = false := by simpa using k1
                  go_wp2_with fail
                  go_quiet ((go_at_call 40; exact Calls.quiet_of_same (rwithin_q (by assumption) _)))
                  go_wp2_with fail
                  go_ret
                  exact ⟨false, rfl, ⟨fun h => (by cases h), fun hm => absurd (hok.out.1 (by rw [← HX.out]; exact (hm.2.2.2 j3 hjl).1)).1 k1⟩, (hMT3.thenAlloc _).trans (Mod.drewN (fun _ => False) _ _) (fun _ _ e => e) (fun _ _ e => e)⟩
              · obtain rfl : j3 = n3 := by omega
                have HA := HA
                clear HA
                go_wp2_with fail
                go_ret
                exact ⟨true, rfl, ⟨fun _ => ⟨HSZ.out, HNN.out, HEE.out, fun i hi => HB'.out i hi (by rw [← H3.out]; exact hi)⟩, fun _ => rfl⟩, hMT3⟩
  · have hno : ¬ May G := fun hm => hsz hm.1
    have HNO := Lib.hid hno
    unfold SizesOk at hsz
    rw [h.n, h.e, h.b] at hsz
    clear hno h
    by_cases s1 : 1 ≤ (n1 : Int) ∧ (n1 : Int) ≤ 256
    · have d1 : decide (1 ≤ (n1 : Int) ∧ (n1 : Int) ≤ 256) = true := decide_eq_true s1
      by_cases s2 : n2 ≤ 512
      · have s3 : 1024 < n3 := by omega
        have g2 : decide ((512 : Int) < (n2 : Int)) = false := by simp; omega
        have g3 : decide ((1024 : Int) < (n3 : Int)) = true := by simp; omega
        clear hsz
        go_enter Try.func21, Try.ntmps21
        go_wp2_with (go_at_call 40; refine (rwithin_q d1 _).mono ?_; rintro e w' ⟨rfl, rfl⟩)
        go_ret
        exact ⟨false, rfl, ⟨fun h => (by cases h), fun h => absurd h HNO.out⟩, Mod.alloc _ _ _⟩
      · have s3 : 512 < n2 := by omega
        have g2 : decide ((512 : Int) < (n2 : Int)) = true := by simp; omega
        clear hsz s2
        go_enter Try.func21, Try.ntmps21
        go_wp2_with (go_at_call 40; refine (rwithin_q d1 _).mono ?_; rintro e w' ⟨rfl, rfl⟩)
        go_ret
        exact ⟨false, rfl, ⟨fun h => (by cases h), fun h => absurd h HNO.out⟩, Mod.alloc _ _ _⟩
    · have d1 : decide (1 ≤ (n1 : Int) ∧ (n1 : Int) ≤ 256) = false := decide_eq_false s1
      have HS1 := Lib.hid s1
      clear hsz s1
      go_enter Try.func21, Try.ntmps21
      go_wp2_with (go_at_call 40; refine (rwithin_q d1 _).mono ?_; rintro e w' ⟨rfl, rfl⟩)
      go_ret
      exact ⟨false, rfl, ⟨fun h => (by cases h), fun h => absurd h HNO.out⟩, Mod.alloc _ _ _⟩
end Go.Proofs.Ytdccpikddhpleaa
