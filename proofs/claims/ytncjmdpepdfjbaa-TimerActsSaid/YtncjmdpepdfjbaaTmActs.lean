/- TimerActs by contract. -/
import Derived.Test.YtncjmdpepdfjbaaTmL
namespace Go.Proofs.Ytncjmdpepdfjbaa
open Go.RowKit Mile Go.Maps
set_option maxRecDepth 100000
/-- A fact about what came in, at a world later on. -/
theorem ints_rd (w : World) (a : Option Addr) (n c : Nat) (xs : List Int) (hn : xs.length = n) (hr : Rd w 1 (.slice a n c) n (xs.map (Value.int .i64))) (b : Option Addr) (m d : Nat) (ys : List Int) (hm : ys.length = m) (hs : Rd w 1 (.slice b m d) m (ys.map (Value.int .i64))) (hb : n ≤ 1000000000) (h : xs = ys) :
    Calls Try.prog 19 #[.slice a n c, .slice b m d] w fun e w' => e = .returned (.bool true) ∧ Mod (fun _ => False) w w' := by
  refine (ints_any w a n c xs hn hr b m d ys hm hs hb).mono ?_
  rintro e w' ⟨rfl, k, rfl⟩
  exact ⟨by rw [decide_eq_true h], Mod.drewN _ _ _⟩
set_option maxHeartbeats 32000000 in
theorem tacts_all (w : World) (bs mo tr : Int) (hbs : (Lit.int .i64 bs).wf = true) (hmo : (Lit.int .i64 mo).wf = true) (htr : (Lit.int .i64 tr).wf = true) (a0 : Option Addr) (m c0 : Nat) (l : List ActT) (hm : l.length = m) (hr : Rd w 3 (.slice a0 m c0) m (l.flatMap cActT)) (hok : ∀ x ∈ l, (Lit.int .i64 x.2.1).wf = true)
    (a1 : Option Addr) (m1 c1 : Nat) (ws : List Int) (hm1 : ws.length = m1) (hr1 : Rd w 1 (.slice a1 m1 c1) m1 (ws.map (Value.int .i64))) (hok1 : ∀ x ∈ ws, (Lit.int .i64 x).wf = true) :
    Calls Try.prog 3 #[.int .i64 bs, .int .i64 mo, .int .i64 tr, .slice a0 m c0, .slice a1 m1 c1] w fun e w' => e = .returned (.bool true) ∧ Mod (fun _ => False) w w' := by
  obtain ⟨iI, hiI, hzI, hsI, hbI⟩ := info_parts RT.info3
  have hinfo : (Try.prog.info? 33).map (fun i => (i.zero, i.size, i.bytes)) = some (some (.agg #[.int .i64 0, .int .i64 0, .int .i64 0]), 3, 24) := by kernel_rfl
  obtain ⟨iA, hiA, hzA, hsA, hbA⟩ := info_parts hinfo
  clear hinfo
  have HRD := Lib.hid hr
  have HRW := Lib.hid hr1
  have HLN := Lib.hid hm
  have HLW := Lib.hid hm1
  have HOK := Lib.hid hok
  have HOW := Lib.hid hok1
  clear hr hr1 hm hm1 hok hok1
  by_cases hg : 80 < m ∨ 20 < m1
  case pos =>
    by_cases h80 : 80 < m
    · have z0 : decide (80 < (m : Int)) = true := by simp; omega
      have z1 : decide (80 < m) = true := by simpa using h80
      go_enter Try.func3, Try.ntmps3
      go_wp2_with fail
      refine (awake24_any _).mono ?_
      rintro e w9 ⟨rfl, hm9⟩
      go_wp2_with fail
      go_ret
      exact ⟨rfl, hm9⟩
    · have z0 : decide (80 < (m : Int)) = false := by simp; omega
      have z1 : decide (80 < m) = false := by simpa using h80
      have z2 : decide (20 < (m1 : Int)) = true := by simp; omega
      have z3 : decide (20 < m1) = true := by simp; omega
      go_enter Try.func3, Try.ntmps3
      go_wp2_with fail
      refine (awake24_any _).mono ?_
      rintro e w9 ⟨rfl, hm9⟩
      go_wp2_with fail
      go_ret
      exact ⟨rfl, hm9⟩
  case neg =>
  have hm80 : m ≤ 80 := by omega
  have hm20 : m1 ≤ 20 := by omega
  have z0 : decide (80 < (m : Int)) = false := by simp; omega
  have z1 : decide (80 < m) = false := by simp; omega
  have z2 : decide (20 < (m1 : Int)) = false := by simp; omega
  have z3 : decide (20 < m1) = false := by simp; omega
  clear hg
  by_cases hno : ¬ (1 ≤ bs ∧ bs ≤ mo ∧ mo ≤ 1000 ∧ 0 ≤ tr ∧ tr ≤ 20)
  case pos =>
    have HNO := Lib.hid hno
    clear hno
    go_enter Try.func3, Try.ntmps3
    go_wp2_with fail
    refine (tmnew_no _ bs mo tr HNO.out).mono ?_
    rintro e w' ⟨rfl, rfl⟩
    go_wp2_with fail
    refine (rtnew_no _ bs mo tr HNO.out).mono ?_
    rintro e w' ⟨rfl, rfl⟩
    go_wp2_with fail
    refine (awake24_any _).mono ?_
    rintro e w9 ⟨rfl, hm9⟩
    go_wp2_with fail
    go_ret
    exact ⟨rfl, hm9⟩
  case neg =>
  have hyes : 1 ≤ bs ∧ bs ≤ mo ∧ mo ≤ 1000 ∧ 0 ≤ tr ∧ tr ≤ 20 := Decidable.not_not.1 hno
  clear hno
  obtain ⟨B, rfl⟩ := Int.eq_ofNat_of_zero_le (show 0 ≤ bs by omega)
  obtain ⟨M, rfl⟩ := Int.eq_ofNat_of_zero_le (show 0 ≤ mo by omega)
  obtain ⟨R, rfl⟩ := Int.eq_ofNat_of_zero_le (show 0 ≤ tr by omega)
  have hB1 : 1 ≤ B := by omega
  have hBM : B ≤ M := by omega
  have hM1 : M ≤ 1000 := by omega
  have hR2 : R ≤ 20 := by omega
  clear hyes hbs hmo htr
  go_enter Try.func3, Try.ntmps3
  go_wp2_with fail
  refine (tmnew_any w B M R hB1 hBM hM1 hR2).mono ?_
  rintro e w1 ⟨p, rfl, h1, hp, hm1⟩
  have H1 := Lib.hid h1
  have HM1 := Lib.hid hm1
  have HP := Lib.hid hp
  clear h1 hm1 hp
  go_wp2_with fail
  refine (rtnew_any w1 B M R hB1 hBM hM1 hR2).mono ?_
  rintro e w2 ⟨q, rfl, h2, hq, hm2⟩
  have HT : Hid (TSt [] w w2 p q B M R [] []) := Lib.hid (TSt.made H1.out HP.out HM1.out h2 hq hm2)
  clear h2 hq hm2 H1 HP HM1
  go_wp2_with fail
  go_loopw [14] (fun i wr => ∃ j : Nat, j ≤ m1 ∧ i = .int .i64 j ∧ TSt [] w wr p q B M R [] []) (fun i _ => m1 - (intOf i).toNat)
  case atStart => exact ⟨0, by omega, rfl, HT.out⟩
  case round =>
    obtain ⟨j, hj, rfl, ht⟩ := hrel
    obtain ⟨wo, hwo⟩ : ∃ x : World, x = wr := ⟨_, rfl⟩
    subst hwo
    have HT1 := Lib.hid ht
    clear ht HT
    by_cases hlt : j < m1
    case pos =>
      have y0 : decide ((j : Int) < (m1 : Int)) = true := by simp; omega
      have y1 : decide (j < m1) = true := by simpa using hlt
      have hjl : j < ws.length := by rw [HLW.out]; exact hlt
      have hrd := HRW.out.keep HT1.out.mod (fun _ _ e => e)
      obtain ⟨eb, eo, hpl, e0⟩ := rd1 hrd j hjl
      have hix := fun wx => run_indexS (P := Try.prog) wx 23 3 iI 1 Try.underlying23 hiI hsI a1 m1 c1 j hlt (hrd.some_ (by omega))
      rw [hpl] at hix
      have hxw := HOW.out _ (List.getElem_mem hjl)
      obtain ⟨x, hx⟩ : ∃ x, ws[j] = x := ⟨_, rfl⟩
      rw [hx] at e0 hxw
      have HXW := Lib.hid hxw
      clear hx hpl hrd hxw
      go_wp2_with fail
      go_quiet ((first | (go_at_call 10; exact Calls.quiet_of_same (tst_wait1 HT1.out _ x HXW.out)) | (go_at_call 11; exact Calls.quiet_of_same (tst_wait2 HT1.out _ x HXW.out))))
      go_wp2_with fail
      go_roundw
      case rel => exact ⟨j + 1, hlt, by go_num, HT1.out.keep (Mod.drewN _ _ _)⟩
      case measure => simp [intOf]; omega
    case neg =>
      have y0 : decide ((j : Int) < (m1 : Int)) = false := by simp; omega
      have y1 : decide (j < m1) = false := by simpa using hlt
      clear hlt
      go_wp2_with fail
      go_loopw [15] (fun i wr => ∃ (j : Nat) (L : List Wt), j ≤ m ∧ i = .int .i64 j ∧ TSt [] w wr p q B M R L L ∧ L.length ≤ j) (fun i _ => m - (intOf i).toNat)
      case atStart => exact ⟨0, [], by omega, rfl, HT1.out, Nat.le_refl _⟩
      case round =>
        obtain ⟨k, L, hk, rfl, ht, hLk⟩ := hrel
        obtain ⟨wp, hwp⟩ : ∃ x : World, x = wr := ⟨_, rfl⟩
        subst hwp
        have HT2 := Lib.hid ht
        clear ht HT1
        by_cases hlt : k < m
        case neg =>
          have y2 : decide ((k : Int) < (m : Int)) = false := by simp; omega
          have y3 : decide (k < m) = false := by simpa using hlt
          go_wp2_with fail
          refine (awake24_any _).mono ?_
          rintro e w9 ⟨rfl, hm9⟩
          go_wp2_with fail
          go_ret
          exact ⟨rfl, HT2.out.mod.of2 hm9⟩
        case pos =>
          have y2 : decide ((k : Int) < (m : Int)) = true := by simp; omega
          have y3 : decide (k < m) = true := by simpa using hlt
          have hkl : k < l.length := by rw [HLN.out]; exact hlt
          have hrd := HRD.out.keep HT2.out.mod (fun _ _ e => e)
          obtain ⟨eb, eo, hpl, e0, e1, e2⟩ := rdAct hrd HLN.out k hkl
          have hix := fun wx => run_indexS (P := Try.prog) wx 22 33 iA 3 Try.underlying22 hiA hsA a0 m c0 k hlt (hrd.some_ (by omega))
          rw [hpl] at hix
          have haw := HOK.out _ (List.getElem_mem hkl)
          obtain ⟨kd, hkd⟩ : ∃ x, l[k].1 = x := ⟨_, rfl⟩
          obtain ⟨av, hav⟩ : ∃ x, l[k].2.1 = x := ⟨_, rfl⟩
          obtain ⟨nw, hnw⟩ : ∃ x, l[k].2.2.1 = x := ⟨_, rfl⟩
          rw [hkd] at e0
          rw [hav] at e1 haw
          rw [hnw] at e2
          have HAW := Lib.hid haw
          have hL8 : L.length ≤ 80 := by omega
          clear hkd hav hnw hpl hrd haw
          have HBX : Hid (TSt [(wp.heap.size, 33, [.int .i64 kd, .int .i64 av, .int .i64 nw])] w (wp.alloc (.cells #[.int .i64 kd, .int .i64 av, .int .i64 nw] 33)) p q B M R L L) := Lib.hid (HT2.out.box 33 [.int .i64 kd, .int .i64 av, .int .i64 nw])
          obtain ⟨g, hg⟩ : ∃ x, wp.heap.size = x := ⟨_, rfl⟩
          go_wp2_with fail
          refine (round_any nw 1048576 _ (by omega) (by omega)).mono ?_
          rintro e w' ⟨rfl, rfl⟩
          have hn0 := Int.emod_nonneg nw (b := 1048576) (by omega)
          have hn1 := Int.emod_lt_of_pos nw (b := 1048576) (by omega)
          obtain ⟨now, hnow⟩ : ∃ x, nw % 1048576 = x := ⟨_, rfl⟩
          rw [hnow] at hn0 hn1 ⊢
          obtain ⟨wA, hwA⟩ : ∃ x, wp.alloc (.cells #[.int .i64 kd, .int .i64 av, .int .i64 nw] 33) = x := ⟨_, rfl⟩
          rw [hg, hwA] at HBX
          rw [hwA]
          (try rw [hg])
          have HNW : Hid (0 ≤ now ∧ now < 1048576) := Lib.hid ⟨hn0, hn1⟩
          have HGD := Lib.hid HT2.out.good
          have hgb := HBX.out.guest
          have g0 := hgb.cell 0 rfl
          have g1 := hgb.cell 1 rfl
          clear hnow hn0 hn1 hwA hg e0 e1 e2 hix hgb HT2
          by_cases hk1 : kd = 1
          · subst hk1
            go_wp2_with fail
            refine (tst_start1 HBX.out (by omega) av now HAW.out HNW.out).mono ?_
            rintro e w3 ⟨rfl, ht3⟩
            have HT3 := Lib.hid ht3
            have g1 := ht3.guest.cell 1 rfl
            clear ht3 HBX
            go_wp2_with fail
            refine (tst_start2 HT3.out (by omega) HGD.out.1 av now HNW.out).mono ?_
            rintro e w4 ⟨rfl, ht4⟩
            have HT4 := Lib.hid ht4
            clear ht4 HT3 g1
            obtain ⟨ln, hln⟩ : ∃ x, (putW L ⟨av, now + (B : Int), 0⟩).length = x := ⟨_, rfl⟩
            obtain ⟨a9, c9, hc9⟩ := HT4.out.cell3
            have hl1 := fun n => tst_len1 HT4.out n
            rw [hln] at hc9 hl1
            have HL1 := Lib.hid hl1
            have HLN2 := Lib.hid hln
            clear hl1 hln
            go_wp2_with fail
            go_quiet ((go_at_call 20; exact Calls.quiet_of_same (HL1.out _)))
            go_wp2_with fail
            go_roundw
            case rel => exact ⟨k + 1, putW L ⟨av, now + (B : Int), 0⟩, hlt, by go_num, HT4.out.rest.keep (Mod.drewN _ _ _), Nat.le_trans (putW_len _ _) (by omega)⟩
            case measure => simp [intOf]; omega
          · by_cases hk2 : kd = 2
            · subst hk2
              go_wp2_with fail
              refine (tst_stop1 HBX.out av (wrap64 (av + 1)) HAW.out (wrap64_wf _)).mono ?_
              rintro e w3 ⟨rfl, ht3⟩
              have HT3 := Lib.hid ht3
              have g1 := ht3.guest.cell 1 rfl
              clear ht3 HBX
              go_wp2_with fail
              refine (tst_stop2 HT3.out (by omega) av).mono ?_
              rintro e w4 ⟨rfl, ht4⟩
              have HT4 := Lib.hid ht4
              have g1 := ht4.guest.cell 1 rfl
              have hls : (stopW L av).length ≤ L.length := (stopW_sub L av).length_le
              clear ht4 HT3
              go_wp2_with fail
              refine (tst_stop2 HT4.out (by omega) (wrap64 (av + 1))).mono ?_
              rintro e w5 ⟨rfl, ht5⟩
              have HT5 := Lib.hid ht5
              have hls2 : (stopW (stopW L av) (wrap64 (av + 1))).length ≤ (stopW L av).length := (stopW_sub _ _).length_le
              have hls3 : (stopW (stopW L av) (wrap64 (av + 1))).length ≤ k + 1 := by omega
              have HLS := Lib.hid hls3
              clear ht5 HT4 g1 hls hls2 hls3
              obtain ⟨ln, hln⟩ : ∃ x, (stopW (stopW L av) (wrap64 (av + 1))).length = x := ⟨_, rfl⟩
              obtain ⟨a9, c9, hc9⟩ := HT5.out.cell3
              have hl1 := fun n => tst_len1 HT5.out n
              rw [hln] at hc9 hl1
              have HL1 := Lib.hid hl1
              have HLN2 := Lib.hid hln
              clear hl1 hln
              go_wp2_with fail
              go_quiet ((go_at_call 20; exact Calls.quiet_of_same (HL1.out _)))
              go_wp2_with fail
              go_roundw
              case rel => exact ⟨k + 1, stopW (stopW L av) (wrap64 (av + 1)), hlt, by go_num, HT5.out.rest.keep (Mod.drewN _ _ _), HLS.out⟩
              case measure => simp [intOf]; omega
            · by_cases hk3 : kd = 3
              · subst hk3
                go_wp2_with fail
                refine (tst_due1 HBX.out (by omega) now HNW.out).mono ?_
                rintro e w3 ⟨x1, k1, d1, x2, k2, d2, rfl, hk1', hk2', hr1, hr2, hq1, hq2, ht3⟩
                have HT3 := Lib.hid ht3
                have hag : (againE R (dueE L now)).length ≤ L.length ∧ (overE R (dueE L now)).length ≤ L.length := rlen_due R L now
                have hk80 : k1 ≤ 80 ∧ k2 ≤ 80 := by omega
                have HK80 := Lib.hid hk80
                have HR1 := Lib.hid hr1
                have HR2 := Lib.hid hr2
                have HQ1 := Lib.hid hq1
                have HQ2 := Lib.hid hq2
                have HK1 := Lib.hid hk1'
                have HK2 := Lib.hid hk2'
                clear ht3 HBX hr1 hr2 hq1 hq2 hk1' hk2' hag hk80
                go_wp2_with fail
                refine (tst_due2 HT3.out (by omega) HGD.out.2 now HNW.out).mono ?_
                rintro e w4 ⟨x3, k3, d3, x4, k4, d4, rfl, hk3', hk4', hr3, hr4, hm4, ht4⟩
                have HT4 := Lib.hid ht4
                have HR3 := Lib.hid hr3
                have HR4 := Lib.hid hr4
                have HR1' := Lib.hid (HR1.out.keep hm4 HQ1.out)
                have HR2' := Lib.hid (HR2.out.keep hm4 HQ2.out)
                have HK3 := Lib.hid hk3'
                have HK4 := Lib.hid hk4'
                clear ht4 HT3 hr3 hr4 hm4 hk3' hk4' HR1 HR2
                go_wp2_with fail
                refine (ints_rd _ x1 k1 d1 _ HK1.out HR1'.out x3 k3 d3 _ HK3.out HR3.out (by have := HK80.out; omega) rfl).mono ?_
                rintro e w5 ⟨rfl, hm5⟩
                have HM5 := Lib.hid hm5
                clear hm5
                go_wp2_with fail
                refine (ints_rd _ x2 k2 d2 _ HK2.out (HR2'.out.keep HM5.out (fun _ _ e => e)) x4 k4 d4 _ HK4.out (HR4.out.keep HM5.out (fun _ _ e => e)) (by have := HK80.out; omega) rfl).mono ?_
                rintro e w6 ⟨rfl, hm6⟩
                have HT6 := Lib.hid ((HT4.out.keep HM5.out).keep hm6)
                have hls3 : (L.filterMap (dueW B M R now)).length ≤ k + 1 := by have : (L.filterMap (dueW B M R now)).length ≤ L.length := List.length_filterMap_le _ _; omega
                have HLS := Lib.hid hls3
                clear hm6 HT4 HM5 HR1' HR2' HR3 HR4 HK1 HK2 HK3 HK4 hls3 g0 g1
                obtain ⟨ln, hln⟩ : ∃ x, (L.filterMap (dueW B M R now)).length = x := ⟨_, rfl⟩
                obtain ⟨a9, c9, hc9⟩ := HT6.out.cell3
                have hl1 := fun n => tst_len1 HT6.out n
                rw [hln] at hc9 hl1
                have HL1 := Lib.hid hl1
                have HLN2 := Lib.hid hln
                clear hl1 hln
                go_wp2_with fail
                go_quiet ((go_at_call 20; exact Calls.quiet_of_same (HL1.out _)))
                go_wp2_with fail
                go_roundw
                case rel => exact ⟨k + 1, L.filterMap (dueW B M R now), hlt, by go_num, HT6.out.rest.keep (Mod.drewN _ _ _), HLS.out⟩
                case measure => simp [intOf]; omega
              · have y4 : (kd == 1) = false := by simpa using hk1
                have y5 : (kd == 2) = false := by simpa using hk2
                have y6 : (kd == 3) = false := by simpa using hk3
                clear hk1 hk2 hk3
                obtain ⟨ln, hln⟩ : ∃ x, (L).length = x := ⟨_, rfl⟩
                obtain ⟨a9, c9, hc9⟩ := HBX.out.cell3
                have hl1 := fun n => tst_len1 HBX.out n
                rw [hln] at hc9 hl1
                have HL1 := Lib.hid hl1
                have HLN2 := Lib.hid hln
                clear hl1 hln
                go_wp2_with fail
                go_quiet ((go_at_call 20; exact Calls.quiet_of_same (HL1.out _)))
                go_wp2_with fail
                go_roundw
                case rel => exact ⟨k + 1, L, hlt, by go_num, HBX.out.rest.keep (Mod.drewN _ _ _), by omega⟩
                case measure => simp [intOf]; omega
theorem tacts_law (w : World) (bs : Int) (h1 : (Lit.int .i64 bs).wf = true) (mo : Int) (h2 : (Lit.int .i64 mo).wf = true) (tr : Int) (h3 : (Lit.int .i64 tr).wf = true) (a0 : Option Addr) (m c0 : Nat) (l : List ActT) (ok : (encSlice encActT).ok w (.slice a0 m c0, l)) (a1 : Option Addr) (m1 c1 : Nat) (ws : List Int) (ok1 : (encSlice (encInt .i64)).ok w (.slice a1 m1 c1, ws)) :
    Calls Try.prog 3 #[.int .i64 bs, .int .i64 mo, .int .i64 tr, .slice a0 m c0, .slice a1 m1 c1] w fun e w' => e = .returned (.bool true) ∧ Below w.heap.size w w' := by
  obtain ⟨hr, hp⟩ := ok
  have hr' : Rd w 3 (.slice a0 m c0) l.length (l.flatMap encActT.img) := hr
  have hn := hr'.len_eq
  subst hn
  obtain ⟨hn1, hr1, hw1⟩ := ok_ints ok1
  exact (tacts_all w bs mo tr h1 h2 h3 a0 _ c0 l rfl hr' (fun x hx => (hp x hx).2.1) a1 m1 c1 ws hn1 hr1 hw1).mono fun e w' h => ⟨h.1, h.2.below (Nat.le_refl _) (fun _ e => e.elim)⟩
end Go.Proofs.Ytncjmdpepdfjbaa
