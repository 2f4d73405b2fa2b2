/- Contract of package graph's rowsOf, at the edges' ends. -/
import Derived.Test.YtdccpikddhpleaaRow
namespace Go.Proofs.Ytdccpikddhpleaa
open Go.RowKit Mile
set_option maxRecDepth 100000

set_option maxHeartbeats 4000000 in
theorem rows_end (w : World) (N : Nat) (a : Option Addr) (n c : Nat) (E : List P3) (hn : E.length = n) (hr : Rd w 3 (.slice a n c) n (E.flatMap c3)) (hN : N ≤ 256) (hnE : n ≤ 512) (ks : List Int) (hksd : E.map (·.2.1) = ks) (hks : KeysOk ks N) :
    Calls Try.prog 32 #[.int .i64 N, .slice a n c, .func (.func 34) #[] #[]] w (RowsP ks N n w) := by
  obtain ⟨i3, hi3, hz3, hs3, hb3⟩ := info_parts GR.infoI
  obtain ⟨iE, hiE, hzE, hsE, hbE⟩ := info_parts GR.infoE
  have HN := Lib.hid hn
  clear hn
  have hmk : ∀ wx, (Instr.makeSlice 44 (.int .i64 ((N : Int) + 1)) (.int .i64 ((N : Int) + 1))).run Try.prog wx = .ok (.slice (some ⟨wx.heap.size, 0, none⟩) (N + 1) (N + 1)) (wx.alloc (.cells (zrow (.int .i64 0) (N + 1)) 3)) := fun wx => by
    have := run_makeS (P := Try.prog) 44 3 i3 (.int .i64 0) Try.underlying44 hi3 hz3 rfl hs3 (N + 1) (by rw [hb3]; omega) (by omega) wx
    rwa [show ((N + 1 : Nat) : Int) = (N : Int) + 1 by omega] at this
  go_enter Try.func32, Try.ntmps32
  go_wp2_with fail
  have hkl : ks.length = n := by rw [← hksd, List.length_map, HN.out]
  have hkat : ∀ j (hj : j < E.length), ks.getD j (-1) = E[j].2.1 := fun j hj => by rw [← hksd]; simp [List.getD, hj]
  have HKL := Lib.hid hkl
  have HKAT := Lib.hid hkat
  have HKS := Lib.hid hks
  clear hkl hkat hks hksd
  have ho1 := own_zrow (w.alloc (.cells #[.slice none 0 0, .slice none 0 0] 81)) 3 (.int .i64 0) (N + 1) (w.heap.size + 1) (by simp) (by omega)
  rw [show List.replicate (N + 1) (Value.int .i64 0) = (tab N (cntF ks 0)).map (Value.int .i64) by rw [cnt_zero, List.map_replicate]] at ho1
  have hb1 : Blk ((w.alloc (.cells #[.slice none 0 0, .slice none 0 0] 81)).alloc (.cells (zrow (.int .i64 0) (N + 1)) 3)) w.heap.size 81 [.slice none 0 0, .slice none 0 0] := (Blk.new w 81 [.slice none 0 0, .slice none 0 0]).alloc _
  have hM1 : Mod (fun _ => False) w ((w.alloc (.cells #[.slice none 0 0, .slice none 0 0] 81)).alloc (.cells (zrow (.int .i64 0) (N + 1)) 3)) := ((Mod.refl _ w).thenAlloc _).thenAlloc _
  obtain ⟨g0, hg0⟩ : ∃ g, w.heap.size = g := ⟨_, rfl⟩
  rw [hg0] at hb1 ho1 ⊢
  obtain ⟨g1, hg1⟩ : ∃ g, g0 + 1 = g := ⟨_, rfl⟩
  rw [hg1] at ho1 ⊢
  have HG0 := Lib.hid hg0
  have HG1 := Lib.hid hg1
  clear hg0 hg1 hmk
  go_loopw [9, 21] (fun _ i wr => ∃ j : Nat, j ≤ n ∧ i = .int .i64 j ∧ wr.ownsRow 0 3 1 (.slice (some ⟨g1, 0, none⟩) (N + 1) (N + 1)) (N + 1) ((tab N (cntF ks j)).map (Value.int .i64)) ∧ Blk wr g0 81 [.slice none 0 0, .slice none 0 0] ∧ Mod (fun _ => False) w wr) (fun _ i _ => n - (intOf i).toNat)
  case atStart => exact ⟨0, by omega, rfl, ho1, hb1, hM1⟩
  case round =>
    clear ho1 hb1 hM1
    obtain ⟨j, hj, rfl, hO, hB, hM⟩ := hrel
    by_cases hlt : j < n
    · have hjl : j < E.length := by rw [HN.out]; exact hlt
      obtain ⟨b, o, hpl, e1, e2, e3⟩ := rd3 (hr.keepA hM (fun _ _ e => e.elim)) j hjl
      have hix := fun wx => run_indexS (P := Try.prog) wx 23 52 iE 3 Try.underlying23 hiE hsE a n c j hlt (hr.some_ (by omega))
      rw [hpl] at hix
      have hkj := HKAT.out j hjl
      have hkr := HKS.out j (by rw [HKL.out]; exact hlt)
      rw [hkj] at hkr
      obtain ⟨x, hx⟩ : ∃ x, E[j] = x := ⟨_, rfl⟩
      rw [hx] at e1 e2 e3 hkj hkr
      clear hx hpl
      obtain ⟨x1, x2, x3⟩ := x
      simp only at e1 e2 e3 hkj hkr
      obtain ⟨k, rfl⟩ := Int.eq_ofNat_of_zero_le hkr.1
      have hkN : k < N := by omega
      have HKJ := Lib.hid hkj
      clear hkj hkr
      have ltb : b < wr.heap.size := World.block_lt_of_cell? _ _ e1
      have hcc : (k : Int) + 1 = ((k + 1 : Nat) : Int) := by omega
      obtain ⟨kk, hkk⟩ : ∃ kk, k + 1 = kk := ⟨_, rfl⟩
      rw [hkk] at hcc
      have hkk1 : kk < N + 1 := by omega
      have hA := Mod.alloc (fun _ => False) wr (.cells #[.int .i64 x1, .int .i64 (k : Int), .int .i64 x3] 52)
      go_wp2_with fail
      refine (end_any (x1, (k : Int), x3) _).mono ?_
      rintro e w1 ⟨rfl, hM1⟩
      have hMA := hA.trans hM1 (H := fun _ => False) (fun _ _ e => e) (fun _ _ e => e)
      have hO1 := Own.keep hO hMA (fun _ _ e => e)
      have hB1 := hB.keep hMA (fun e => e)
      have hMW := hM.trans hMA (H := fun _ => False) (fun _ _ e => e) (fun _ _ e => e)
      have hg1w : g0 < g1 := by have := HG1.out; omega
      have htl := tab_len N (cntF ks j)
      have hval : (tab N (cntF ks j))[kk]'(by omega) = ((idxI ks j k).length : Int) := by
        rw [tab_at]
        unfold cntF
        rw [if_neg (by omega), show ((kk : Nat) : Int) - 1 = (k : Int) by omega]
      have hvle := idxI_le ks j k
      have hst := hO1.stored kk (.int .i64 ((idxI ks j k).length + 1))
      have hset : Hid (((tab N (cntF ks j)).map (Value.int .i64)).set kk (.int .i64 ((idxI ks j k).length + 1)) = (tab N (cntF ks (j + 1))).map (Value.int .i64)) := Lib.hid (by
        rw [← cnt_step (N := N) HKJ.out, List.map_set, hkk]
        congr 2
        unfold cntF
        rw [if_neg (by omega), show ((kk : Nat) : Int) - 1 = (k : Int) by omega])
      have c1 : w1.cell? ⟨g1, kk, none⟩ = some (.int .i64 (idxI ks j k).length) := by rw [hO1.cellAt kk (by omega)]; simp [htl, hkk1, ← hval]
      have c2 := hO1.frozenAt kk
      obtain ⟨m, hm⟩ : ∃ m, (idxI ks j k).length = m := ⟨_, rfl⟩
      rw [hm] at c1 hst hset hvle
      have hst1 := Lib.hid hst.1
      have hst2 := Lib.hid (hMW.trans (Mod.ofGrown hst.2) (H := fun _ => False) (fun _ _ e => e) (fun i hi e => by
        have e1 : g1 = i := Option.some.inj e
        have := HG0.out
        omega))
      have hst3 := Lib.hid (hB1.setOther ⟨g1, kk, none⟩ (.int .i64 ((m : Int) + 1)) (by show g0 ≠ g1; omega))
      clear hst hval htl hO hB hM hM1 hMA hO1 hB1 hMW hA e1 e2 e3 hix hm
      go_wp2_with fail
      go_roundw
      case rel => exact ⟨j + 1, hlt, by go_num, by rw [← hset.out]; exact hst1.out, hst3.out, hst2.out⟩
      case measure => simp [intOf]; omega
    · obtain rfl : j = n := by omega
      rw [show tab N (cntF ks j) = tab N (sumF ks 0) by rw [← HKL.out]; exact sum_start HKS.out] at hO
      have hM' := hM
      go_wp2_with fail
      go_loopw [10, 36] (fun _ i wr => ∃ k : Nat, k ≤ N ∧ i = .int .i64 k ∧ wr.ownsRow 0 3 1 (.slice (some ⟨g1, 0, none⟩) (N + 1) (N + 1)) (N + 1) ((tab N (sumF ks k)).map (Value.int .i64)) ∧ Blk wr g0 81 [.slice none 0 0, .slice none 0 0] ∧ Mod (fun _ => False) w wr) (fun _ i _ => N - (intOf i).toNat)
      case atStart => exact ⟨0, by omega, rfl, hO, hB, hM⟩
      case round =>
        clear hO hB hM hM'
        obtain ⟨k, hk, rfl, hO, hB, hM⟩ := hrel
        by_cases hlt : k < N
        · have hcc : (k : Int) + 1 = ((k + 1 : Nat) : Int) := by omega
          have hss := @sum_step N ks k
          obtain ⟨kk, hkk⟩ : ∃ kk, k + 1 = kk := ⟨_, rfl⟩
          rw [hkk] at hcc hss
          have hkk1 : kk < N + 1 := by omega
          have htl := tab_len N (sumF ks k)
          have hg1w : g0 < g1 := by have := HG1.out; omega
          have hv0 : sumF ks k k = (belowI ks k : Int) := by unfold sumF; rw [if_pos (Nat.le_refl _)]
          have hv1 : sumF ks k kk = ((idxI ks j k).length : Int) := by
            unfold sumF cntF
            rw [if_neg (by omega), if_neg (by omega), show ((kk : Nat) : Int) - 1 = (k : Int) by omega, HKL.out]
          have hb0 := below_bound ks k
          rw [HKL.out] at hb0
          have hb1 := idxI_le ks j k
          obtain ⟨m0, hm0⟩ : ∃ m, belowI ks k = m := ⟨_, rfl⟩
          obtain ⟨m1, hm1⟩ : ∃ m, (idxI ks j k).length = m := ⟨_, rfl⟩
          rw [hm0] at hv0 hb0
          rw [hm1] at hv1 hb1
          rw [hv0, hv1] at hss
          have c1 : wr.cell? ⟨g1, kk, none⟩ = some (.int .i64 m1) := by rw [hO.cellAt kk (by omega)]; simp [htl, hkk1, tab_at, hv1]
          have c0 : wr.cell? ⟨g1, k, none⟩ = some (.int .i64 m0) := by rw [hO.cellAt k (by omega)]; simp [htl, show k < N + 1 by omega, tab_at, hv0]
          have c2 := hO.frozenAt kk
          have hst := hO.stored kk (.int .i64 ((m1 : Int) + m0))
          rw [← List.map_set, hss] at hst
          have hst1 := Lib.hid hst.1
          have hst2 := Lib.hid (hM.trans (Mod.ofGrown hst.2) (H := fun _ => False) (fun _ _ e => e) (fun i hi e => by
            have e1 : g1 = i := Option.some.inj e
            have := HG0.out
            omega))
          have hst3 := Lib.hid (hB.setOther ⟨g1, kk, none⟩ (.int .i64 ((m1 : Int) + m0)) (by show g0 ≠ g1; omega))
          clear hst htl hv0 hv1 hss hO hB hM hm0 hm1
          go_wp2_with fail
          go_region
          go_wp2
          go_roundw
          case rel => exact ⟨kk, hkk1 |> Nat.le_of_lt_succ, by go_num, hst1.out.drew, hst3.out.drew, hst2.out.thenDrew⟩
          case measure => simp [intOf]; omega
        · obtain rfl : k = N := by omega
          rw [sum_end ks] at hO
          obtain ⟨fs, hfs⟩ : ∃ fs, tab k (fun i => (belowI ks i : Int)) = fs := ⟨_, rfl⟩
          have hfl : fs.length = k + 1 := by rw [← hfs]; exact tab_len _ _
          rw [hfs] at hO
          have HFS := Lib.hid hfs
          have HFL := Lib.hid hfl
          have hlt1 : g1 < wr.heap.size := (hO.lt g1 rfl).2
          clear hfs hfl
          have hmk : ∀ wx, (Instr.makeSlice 44 (.int .i64 (j : Int)) (.int .i64 (j : Int))).run Try.prog wx = .ok (.slice (some ⟨wx.heap.size, 0, none⟩) j j) (wx.alloc (.cells (zrow (.int .i64 0) j) 3)) := fun wx =>
            run_makeS (P := Try.prog) 44 3 i3 (.int .i64 0) Try.underlying44 hi3 hz3 rfl hs3 j (by rw [hb3]; omega) (by omega) wx
          have HRF : Hid (∀ W, Mod (fun _ => False) wr W → Rd W 1 (.slice (some ⟨g1, 0, none⟩) (k + 1) (k + 1)) (k + 1) (fs.map (Value.int .i64))) := Lib.hid fun W hm => (Rd.ofOwn hO).keepA hm (fun _ _ e => e.elim)
          go_upto_region 12 with fail
          go_cut [11, 12] (fun s t wx => Made w k j g0 g1 fs s t wx)
          case first =>
            go_region_with (first | (go_at_call 59; refine (cloneI_any _ (some ⟨g1, 0, none⟩) (k + 1) (k + 1) fs HFL.out (HRF.out _ (by first | exact Mod.drew _ _ | exact (Mod.drew _ _).thenAlloc _ | exact (Mod.alloc _ _ _).thenDrew)) (by omega)).mono ?_; rintro e w1 ⟨a3, c3, rfl, hF3, hM3⟩))
            all_goals (go_wp2_with fail; go_meet; first | exact Made.tail (wr := wr.drew) hO.drew hB.drew hM.thenDrew hM3 hF3 (Nat.le_refl _) (by omega) | exact Made.head (wr := wr.drew) hO.drew hB.drew hM.thenDrew hM3 hF3 (by simp) (by omega))
          case rest =>
            clear hO hB hM hlt1 HRF hmk
            obtain ⟨g2, g3, d3, rfl, rfl, hO2, hO3, hO1, hB, hM, hg12, hg13, hg23⟩ := hcut
            rw [← HFS.out] at hO1 hO3
            rw [next_start ks] at hO3
            have hfl0 := filled_zero (ks := ks) (N := k) (A := List.replicate j (0 : Int)) (by rw [List.length_replicate, HKL.out])
            have hF0 : Fill w ks k j g0 g1 g2 g3 d3 0 wc := ⟨_, hfl0, hO2, hO3, hO1, hB, hM⟩
            clear hO2 hO3 hO1 hB hM hfl0
            go_wp2_with fail
            go_loopw [13, 14, 15, 58] (fun _ _ _ i wr => ∃ q : Nat, q ≤ j ∧ i = .int .i64 q ∧ Fill w ks k j g0 g1 g2 g3 d3 q wr) (fun _ _ _ i _ => j - (intOf i).toNat)
            case atStart => exact ⟨0, by omega, rfl, hF0⟩
            case round =>
              clear hF0
              obtain ⟨q, hq, rfl, A, hFA, hO2, hO3, hO1, hB, hM⟩ := hrel
              by_cases hlt : q < j
              · have hjl : q < E.length := by rw [HN.out]; exact hlt
                obtain ⟨b, o, hpl, e1, e2, e3⟩ := rd3 (hr.keepA hM (fun _ _ e => e.elim)) q hjl
                have hix := fun wx => run_indexS (P := Try.prog) wx 23 52 iE 3 Try.underlying23 hiE hsE a j c q hlt (hr.some_ (by omega))
                rw [hpl] at hix
                have hkj := HKAT.out q hjl
                have hkr := HKS.out q (by rw [HKL.out]; exact hlt)
                rw [hkj] at hkr
                obtain ⟨x, hx⟩ : ∃ x, E[q] = x := ⟨_, rfl⟩
                rw [hx] at e1 e2 e3 hkj hkr
                clear hx hpl
                obtain ⟨x1, x2, x3⟩ := x
                simp only at e1 e2 e3 hkj hkr
                obtain ⟨v, rfl⟩ := Int.eq_ofNat_of_zero_le hkr.1
                have hvN : v < k := by omega
                have hpos := next_lt (by rw [HKL.out]; exact hlt) hkj
                have hfs' := filled_step hFA (by rw [HKL.out]; exact hlt) hkj
                have hns' := @next_step k ks q v hkj
                have hnv : nextF ks q v = ((belowI ks v + (idxI ks q v).length : Nat) : Int) := by unfold nextF; omega
                rw [HKL.out] at hpos
                obtain ⟨pos, hpd⟩ : ∃ p, belowI ks v + (idxI ks q v).length = p := ⟨_, rfl⟩
                rw [hpd] at hpos hfs' hnv
                rw [hnv] at hns'
                have HKJ := Lib.hid hkj
                have HFS' := Lib.hid hfs'
                clear hkj hkr hpd hfs'
                have ltb : b < wr.heap.size := World.block_lt_of_cell? _ _ e1
                have hA := Mod.alloc (fun _ => False) wr (.cells #[.int .i64 x1, .int .i64 (v : Int), .int .i64 x3] 52)
                go_wp2_with fail
                refine (end_any (x1, (v : Int), x3) _).mono ?_
                rintro e w1 ⟨rfl, hM1⟩
                have hMA := hA.trans hM1 (H := fun _ => False) (fun _ _ e => e) (fun _ _ e => e)
                have hP2 := Own.keep hO2 hMA (fun _ _ e => e)
                have hP3 := Own.keep hO3 hMA (fun _ _ e => e)
                have hP1 := Own.keep hO1 hMA (fun _ _ e => e)
                have hPB := hB.keep hMA (fun e => e)
                have hMW := hM.trans hMA (H := fun _ => False) (fun _ _ e => e) (fun _ _ e => e)
                have htl := tab_len k (nextF ks q)
                have c3 : w1.cell? ⟨g3, v, none⟩ = some (.int .i64 pos) := by rw [hP3.cellAt v (by omega)]; simp [htl, show v < k + 1 by omega, tab_at, hnv]
                have d2 := hP2.frozenAt pos
                have hAl : A.length = j := by rw [hFA.1, HKL.out]
                have c2 : w1.cell? ⟨g2, pos, none⟩ = some (.int .i64 (A[pos]'(by omega))) := by rw [hP2.cellAt pos (by omega)]; simp [hAl, hpos]
                obtain ⟨av, hav⟩ : ∃ av, (A[pos]'(by omega)) = av := ⟨_, rfl⟩
                rw [hav] at c2
                clear hav
                have hst := hP2.stored pos (.int .i64 q)
                have hG := Mod.ofGrown hst.2
                have n21 : ∀ t, (Value.slice (some ⟨g1, 0, none⟩) (k + 1) (k + 1)).ownBlock = some t → ¬ some g2 = some t := fun t ht e => by
                  have e1 : g1 = g2 := Option.some.inj (ht.trans e.symm)
                  omega
                have n23 : ∀ t, (Value.slice (some ⟨g3, 0, none⟩) (k + 1) d3).ownBlock = some t → ¬ some g2 = some t := fun t ht e => hg23 (Option.some.inj (ht.trans e.symm)).symm
                have n31 : ∀ t, (Value.slice (some ⟨g1, 0, none⟩) (k + 1) (k + 1)).ownBlock = some t → ¬ some g3 = some t := fun t ht e => by
                  have e1 : g1 = g3 := Option.some.inj (ht.trans e.symm)
                  omega
                have n32 : ∀ t, (Value.slice (some ⟨g2, 0, none⟩) j j).ownBlock = some t → ¬ some g3 = some t := fun t ht e => hg23 (Option.some.inj (ht.trans e.symm))
                have hg01 : g0 < g1 := by have := HG1.out; omega
                have hQ3 := Own.keep hP3 hG n23
                have c4 := hQ3.cellAt v (by omega)
                have c5 : (w1.setCell ⟨g2, pos, none⟩ (.int .i64 q)).cell? ⟨g3, v, none⟩ = some (.int .i64 pos) := by rw [c4]; simp [htl, show v < k + 1 by omega, tab_at, hnv]
                have d3' := hQ3.frozenAt v
                have hst' := hQ3.stored v (.int .i64 ((pos : Int) + 1))
                have hG' := Mod.ofGrown hst'.2
                rw [← List.map_set] at hst
                rw [← List.map_set, hns'] at hst'
                have F1 := Lib.hid (Own.keep hst.1 hG' n32)
                have F2 := Lib.hid hst'.1
                have F3 := Lib.hid (Own.keep (Own.keep hP1 hG n21) hG' n31)
                have F4 := Lib.hid ((hPB.setOther ⟨g2, pos, none⟩ (.int .i64 q) (by show g0 ≠ g2; omega)).setOther ⟨g3, v, none⟩ (.int .i64 ((pos : Int) + 1)) (by show g0 ≠ g3; omega))
                have F5 := Lib.hid ((hMW.trans hG (H := fun _ => False) (fun _ _ e => e) (fun i hi e => by
                  have e1 : g2 = i := Option.some.inj e
                  have := HG0.out
                  omega)).trans hG' (H := fun _ => False) (fun _ _ e => e) (fun i hi e => by
                  have e1 : g3 = i := Option.some.inj e
                  have := HG0.out
                  omega))
                have HNE := Lib.hid hg23
                clear hst hst' hG hG' n21 n23 n31 n32 hP2 hP3 hP1 hPB hMW hQ3 c4 hMA hA hM1 hO2 hO3 hO1 hB hM hFA htl hns' hnv e1 e2 e3 hix
                go_wp2_with fail
                go_roundw
                case rel => exact ⟨q + 1, hlt, by go_num, _, HFS'.out, F1.out, F2.out, F3.out, F4.out, F5.out⟩
                case measure => simp [intOf]; omega
              · obtain rfl : q = j := by omega
                have b0 := hB.cell 0 rfl
                have b1 := hB.cell 1 rfl
                have f0 := hB.free 0
                have f1 := hB.free 1
                go_wp2_with fail
                have hS : Mod (fun t => t = g0) wr ((wr.setCell ⟨g0, 0, none⟩ (.slice (some ⟨g2, 0, none⟩) q q)).setCell ⟨g0, 1, none⟩ (.slice (some ⟨g1, 0, none⟩) (k + 1) (k + 1))) :=
                  (Mod.setCell (F := fun t => t = g0) wr ⟨g0, 0, none⟩ _ rfl).thenSet ⟨g0, 1, none⟩ _ (fun _ => rfl)
                have hg01 : g0 < g1 := by have := HG1.out; omega
                have hMM := hM.trans hS (H := fun _ => False) (fun _ _ e => e) (fun i hi e => by have := HG0.out; show False; omega)
                have hR2 := Own.keep hO2 hS (fun t ht e => by
                  have e1 : g2 = t := Option.some.inj ht
                  omega)
                have hR1 := Own.keep hO1 hS (fun t ht e => by
                  have e1 : g1 = t := Option.some.inj ht
                  omega)
                have hlt2 := (hR2.lt g2 rfl).2
                have hlt1 := (hR1.lt g1 rfl).2
                have b2 := (hB.set 0 (.slice (some ⟨g2, 0, none⟩) q q)).set 1 (.slice (some ⟨g1, 0, none⟩) (k + 1) (k + 1))
                (try simp only [Exit.inBlock, Exit.then])
                refine bodyPost_ret (results_cell_row rfl _ _ g0 81 #[.slice (some ⟨g2, 0, none⟩) q q, .slice (some ⟨g1, 0, none⟩) (k + 1) (k + 1)] (0, 0) _ rfl b2 Try.underlying81 rfl (by kernel_rfl)) rfl ?_
                refine ⟨some ⟨g2, 0, none⟩, q, some ⟨g1, 0, none⟩, k + 1, rfl, ⟨A, tab k (fun i => (belowI ks i : Int)), by rw [hFA.1, HKL.out], tab_len _ _, rfl, HKL.out.symm, Rd.ofOwn hR2, Rd.ofOwn hR1, fun t ht => ⟨belowI ks t, belowI ks ((t : Int) + 1), ?_, ?_, ?_, ?_, ?_⟩⟩, ?_, ?_, hMM⟩
                · rw [tab_at]
                · rw [tab_at]; rfl
                · exact below_le (by omega)
                · have := below_bound ks ((t : Int) + 1); rw [HKL.out] at this; exact this
                · rw [← HKL.out] at hFA
                  exact filled_row hFA ht
                · intro t ht
                  have e1 : g2 = t := Option.some.inj ht
                  have := HG0.out
                  exact ⟨by omega, by omega⟩
                · intro t ht
                  have e1 : g1 = t := Option.some.inj ht
                  have := HG0.out
                  exact ⟨by omega, by omega⟩
end Go.Proofs.Ytdccpikddhpleaa
