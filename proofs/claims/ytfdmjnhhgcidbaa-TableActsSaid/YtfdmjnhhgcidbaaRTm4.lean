/- The reference's Timer.Due by contract. -/
import Derived.Test.YtfdmjnhhgcidbaaRTm3
import Derived.Deep.QuietTactic
import Derived.BigQuiet
namespace Go.Proofs.Ytfdmjnhhgcidbaa
open Go.RowKit Mile Go.Maps
set_option maxRecDepth 100000
theorem RT.info3 : (Try.prog.info? 3).map (fun i => (i.zero, i.size, i.bytes)) = some (some (.int .i64 0), 1, 8) := by kernel_rfl
theorem dueE_snoc (L : List Wt) (e : Wt) (now : Int) : dueE (L ++ [e]) now = dueE L now ++ if now < e.due then [] else [e] := by
  unfold dueE
  rw [List.filter_append]
  by_cases h : now < e.due
  · rw [List.filter_cons_of_neg (by simp; omega), if_pos h]; rfl
  · rw [List.filter_cons_of_pos (by simp; omega), if_neg h]; rfl
theorem ragainE_snoc (R : Nat) (E : List Wt) (e : Wt) : againE R (E ++ [e]) = againE R E ++ if e.n < R then [e.id] else [] := by
  unfold againE
  rw [List.filter_append, List.map_append]
  by_cases h : e.n < R
  · rw [List.filter_cons_of_pos (by simpa using h), if_pos h]; rfl
  · rw [List.filter_cons_of_neg (by simpa using h), if_neg h]; rfl
theorem roverE_snoc (R : Nat) (E : List Wt) (e : Wt) : overE R (E ++ [e]) = overE R E ++ if e.n < R then [] else [e.id] := by
  unfold overE
  rw [List.filter_append, List.map_append]
  by_cases h : e.n < R
  · rw [List.filter_cons_of_neg (by simpa using h), if_pos h]; rfl
  · rw [List.filter_cons_of_pos (by simpa using h), if_neg h]; rfl
theorem restE_snoc (B M R : Nat) (now : Int) (L : List Wt) (e : Wt) : (L ++ [e]).filterMap (dueW B M R now) = L.filterMap (dueW B M R now) ++ (dueW B M R now e).toList := by
  rw [List.filterMap_append]
  cases h : dueW B M R now e with
  | none => rw [List.filterMap_cons_none h]; rfl
  | some x => rw [List.filterMap_cons_some h]; rfl
theorem rlen_due (R : Nat) (L : List Wt) (now : Int) : (againE R (dueE L now)).length ≤ L.length ∧ (overE R (dueE L now)).length ≤ L.length := by
  have h : (dueE L now).length ≤ L.length := List.length_filter_le _ _
  have h1 : (againE R (dueE L now)).length ≤ (dueE L now).length := by unfold againE; rw [List.length_map]; exact List.length_filter_le _ _
  have h2 : (overE R (dueE L now)).length ≤ (dueE L now).length := by unfold overE; rw [List.length_map]; exact List.length_filter_le _ _
  omega
/-- What Due tells and leaves. -/
def RTDueP (q : Nat) (B M R : Nat) (L : List Wt) (now : Int) (w : World) (e : Ending) (w' : World) : Prop :=
  ∃ a1 c1 a2 c2, e = .returned (.tuple #[.slice a1 (againE R (dueE L now)).length c1, .slice a2 (overE R (dueE L now)).length c2]) ∧
    World.ownsRow w' w.heap.size 3 1 (.slice a1 (againE R (dueE L now)).length c1) (againE R (dueE L now)).length ((againE R (dueE L now)).map (Value.int .i64)) ∧
    World.ownsRow w' w.heap.size 3 1 (.slice a2 (overE R (dueE L now)).length c2) (overE R (dueE L now)).length ((overE R (dueE L now)).map (Value.int .i64)) ∧
    ∃ a' n' c', RT w' q a' n' c' B M R (L.filterMap (dueW B M R now)) ∧ (∀ k, (Value.slice a' n' c').ownBlock = some k → w.heap.size ≤ k) ∧ Mod (fun k => k = q) w w'
set_option maxHeartbeats 16000000 in
theorem rtdue_any (w : World) (q : Nat) (a : Option Addr) (n c B M R : Nat) (L : List Wt) (h : RT w q a n c B M R L) (hL : n ≤ 1000000) (hnR : ∀ e ∈ L, e.n ≤ R) (now : Int) (hnow : -4611686018427387904 ≤ now ∧ now ≤ 4611686018427387904) :
    Calls Try.prog 86 #[.pointer (some ⟨q, 0, none⟩), .int .i64 now] w fun e w' => RTDueP q B M R L now w e w' := by
  obtain ⟨iW, hiW, hzW, hsW, hbW⟩ := info_parts RT.infoW
  obtain ⟨iI, hiI, hzI, hsI, hbI⟩ := info_parts RT.info3
  have HT := Lib.hid h
  have HNR := Lib.hid hnR
  have HNOW := Lib.hid hnow
  have hqlt := h.blk.lt
  have hlen := h.len
  have hR20 := h.rx
  have hmx := h.mx
  clear h hnR hnow
  obtain ⟨B0, hB0⟩ : ∃ b, w.heap.size = b := ⟨_, rfl⟩
  have HB0 := Lib.hid hB0
  rw [hB0] at hqlt
  clear hB0
  go_enter Try.func86, Try.ntmps86
  go_wp2_with fail
  go_loopw [6, 7, 8, 9] (fun v1 v2 v3 iv wr => ∃ (j n1 n2 n3 : Nat) (a1 a2 a3 : Option Addr) (c1 c2 c3 : Nat), j ≤ n ∧ iv = .int .i64 j ∧ v1 = .slice a1 n1 c1 ∧ v2 = .slice a2 n2 c2 ∧ v3 = .slice a3 n3 c3 ∧ (againE R (dueE (L.take j) now)).length = n1 ∧ (overE R (dueE (L.take j) now)).length = n2 ∧ ((L.take j).filterMap (dueW B M R now)).length = n3 ∧
    World.ownsRow wr B0 3 1 (.slice a1 n1 c1) n1 ((againE R (dueE (L.take j) now)).map (Value.int .i64)) ∧ World.ownsRow wr B0 3 1 (.slice a2 n2 c2) n2 ((overE R (dueE (L.take j) now)).map (Value.int .i64)) ∧ World.ownsRow wr B0 192 3 (.slice a3 n3 c3) n3 (((L.take j).filterMap (dueW B M R now)).flatMap c3W) ∧
    (∀ k, (Value.slice a1 n1 c1).ownBlock = some k → (Value.slice a2 n2 c2).ownBlock ≠ some k) ∧ (∀ k, (Value.slice a1 n1 c1).ownBlock = some k → (Value.slice a3 n3 c3).ownBlock ≠ some k) ∧ (∀ k, (Value.slice a2 n2 c2).ownBlock = some k → (Value.slice a3 n3 c3).ownBlock ≠ some k) ∧ Mod (fun _ => False) w wr) (fun _ _ _ iv _ => n - (intOf iv).toNat)
  case atStart => exact ⟨0, 0, 0, 0, none, none, none, 0, 0, 0, by omega, rfl, rfl, rfl, rfl, rfl, rfl, rfl, World.ownsRow_nil _ _ _ _, World.ownsRow_nil _ _ _ _, World.ownsRow_nil _ _ _ _, fun k hk => (by cases hk), fun k hk => (by cases hk), fun k hk => (by cases hk), Mod.refl _ _⟩
  case round =>
    obtain ⟨j, n1, n2, n3, a1, a2, a3, c1, c2, c3, hj, rfl, rfl, rfl, rfl, hl1, hl2, hl3, ho1, ho2, ho3, h12, h13, h23, hmr⟩ := hrel
    obtain ⟨wo, hwo⟩ : ∃ x : World, x = wr := ⟨_, rfl⟩
    subst hwo
    have hbb := rlen_due R (L.take j) now
    have htl : (L.take j).length ≤ j := List.length_take_le _ _
    have hf3 : ((L.take j).filterMap (dueW B M R now)).length ≤ (L.take j).length := List.length_filterMap_le _ _
    have hb1 : n1 ≤ 1000000 := by omega
    have hb2 : n2 ≤ 1000000 := by omega
    have hb3 : n3 ≤ 1000000 := by omega
    have HTO := Lib.hid (HT.out.keep hmr (fun e => e) (fun _ _ e => e.elim))
    have hsz : B0 ≤ wo.heap.size := by rw [← HB0.out]; exact hmr.size
    have HSZ := Lib.hid hsz
    have HL1 := Lib.hid hl1
    have HL2 := Lib.hid hl2
    have HL3 := Lib.hid hl3
    have HO1 := Lib.hid ho1
    have HO2 := Lib.hid ho2
    have HO3 := Lib.hid ho3
    have H12 := Lib.hid h12
    have H13 := Lib.hid h13
    have H23 := Lib.hid h23
    have HMR := Lib.hid hmr
    have d3 := HTO.out.blk.cell 3 rfl
    clear hbb htl hf3 hsz hl1 hl2 hl3 ho1 ho2 ho3 h12 h13 h23 hmr
    by_cases hlt : j < n
    case neg =>
      have z0 : decide ((j : Int) < (n : Int)) = false := by simp; omega
      have z1 : decide (j < n) = false := by simpa using hlt
      obtain rfl : j = n := by omega
      have HLT : Hid (L.take j = L) := Lib.hid (by rw [← hlen]; exact List.take_length)
      have f3 := HTO.out.blk.free 3
      go_wp2_with fail
      go_ret2
      unfold RTDueP
      rw [HLT.out] at HL1 HL2 HL3 HO1 HO2 HO3
      rw [HL1.out, HL2.out, HB0.out]
      have hset : Mod (fun k => k = q) wo (wo.setCell ⟨q, 3, none⟩ (.slice a3 n3 c3)) := Mod.setCell _ _ _ rfl
      exact ⟨a1, c1, a2, c2, rfl, Own.keep HO1.out hset (fun k hk e => by have := (HO1.out.lt k hk).1; omega), Own.keep HO2.out hset (fun k hk e => by have := (HO2.out.lt k hk).1; omega), a3, n3, c3, HTO.out.put HL3.out hqlt HO3.out, fun k hk => (HO3.out.lt k hk).1, HMR.out.trans hset (fun _ _ e => e.elim) (fun _ _ e => e)⟩
    case pos =>
      have z0 : decide ((j : Int) < (n : Int)) = true := by simp; omega
      have z1 : decide (j < n) = true := by simpa using hlt
      have hjl : j < L.length := by omega
      obtain ⟨eb, eo, hpl, e0, e1, e2⟩ := rd3w HTO.out.rd j hjl
      have hix := fun wx => run_indexS (P := Try.prog) wx 166 192 iW 3 Try.underlying166 hiW hsW a n c j hlt (HTO.out.rd.some_ (by omega))
      rw [hpl] at hix
      have hnr := HNR.out L[j] (List.getElem_mem hjl)
      have hsd := dueE_snoc (L.take j) L[j] now
      have hsr := restE_snoc B M R now (L.take j) L[j]
      rw [← List.take_succ_eq_append_getElem hjl] at hsd hsr
      obtain ⟨e, he⟩ : ∃ e, L[j] = e := ⟨_, rfl⟩
      rw [he] at e0 e1 e2 hsd hsr hnr
      obtain ⟨x0, hx0⟩ : ∃ x, e.id = x := ⟨_, rfl⟩
      obtain ⟨x1, hx1⟩ : ∃ x, e.due = x := ⟨_, rfl⟩
      obtain ⟨x2, hx2⟩ : ∃ x, e.n = x := ⟨_, rfl⟩
      have hdw : dueW B M R now e = if now < x1 then some e else if x2 < R then some ⟨x0, now + waitN B M (x2 + 1), x2 + 1⟩ else none := by unfold dueW; rw [hx0, hx1, hx2]
      rw [hx0] at e0
      rw [hx1] at e1 hsd
      rw [hx2] at e2 hnr
      rw [hdw] at hsr
      have HSD := Lib.hid hsd
      have HSR := Lib.hid hsr
      have HCE : Hid (c3W e = [.int .i64 x0, .int .i64 x1, .int .i64 (x2 : Int)]) := Lib.hid (by unfold c3W; rw [hx0, hx1, hx2])
      have hx20 : x2 ≤ 20 := by omega
      have HX0 := Lib.hid hx0
      have HX2 := Lib.hid hx2
      clear hsd hsr hdw hx0 hx1 hx2 he hpl hnr
      by_cases hdue : now < x1
      case pos =>
        have z2 : decide (now < x1) = true := by simpa using hdue
        have HA : Hid (againE R (dueE (L.take (j + 1)) now) = againE R (dueE (L.take j) now)) := Lib.hid (by rw [HSD.out, if_pos hdue, List.append_nil])
        have HB : Hid (overE R (dueE (L.take (j + 1)) now) = overE R (dueE (L.take j) now)) := Lib.hid (by rw [HSD.out, if_pos hdue, List.append_nil])
        have HC : Hid ((L.take (j + 1)).filterMap (dueW B M R now) = (L.take j).filterMap (dueW B M R now) ++ [e]) := Lib.hid (by rw [HSR.out, if_pos hdue]; rfl)
        clear HSD HSR hdue
        go_wp2_with (at_builtin; refine wpList_append_any rfl (.tmp 37) (.tmp 39) 166 rfl 192 iW (.agg #[.int .i64 0, .int .i64 0, .int .i64 0]) 3 24 Try.underlying166 hiW hzW hsW hbW rfl (by decide) _ n3 _ rfl (World.ownsRow.alloc (World.ownsRow.alloc (Own.base HO3.out (Nat.zero_le _)) _) _) _ 1 [.int .i64 x0, .int .i64 x1, .int .i64 (x2 : Int)] rfl (Rd.litN 192 3 [.int .i64 x0, .int .i64 x1, .int .i64 (x2 : Int)] (0, 0) (wo.heap.size + 1) 1 (by simp) rfl (by decide)) (by intro u hu; simp at hu; rcases hu with rfl | rfl | rfl <;> rfl) (by unfold maxLen; omega) (by omega) ?_; intro v4 w4 hap)
        obtain ⟨a4, c4, rfl⟩ := hap.form
        have ho4 := hap.own
        have lo4 := hap.low (B := B0) (by have := HSZ.out; simp; omega) (fun k hk => (HO3.out.lt k hk).1)
        have k1 := hap.others (World.ownsRow.alloc (World.ownsRow.alloc HO1.out _) _) (fun k hk e => H13.out k e hk)
        have k2 := hap.others (World.ownsRow.alloc (World.ownsRow.alloc HO2.out _) _) (fun k hk e => H23.out k e hk)
        have hm4 := ((HMR.out.thenAlloc _).thenAlloc _).old hap.mod (fun i hi => by have := (HO3.out.lt i hi).1; have := HB0.out; omega)
        have HO5 := Lib.hid (Own.rebase ho4 lo4)
        have K1 := Lib.hid k1
        have K2 := Lib.hid k2
        have HM4 := Lib.hid hm4
        clear hap ho4 lo4 hm4 k1 k2
        go_wp2_with fail
        go_roundw
        case rel => exact ⟨j + 1, n1, n2, n3 + 1, a1, a2, a4, c1, c2, c4, hlt, by go_num, rfl, rfl, rfl, by rw [HA.out]; exact HL1.out, by rw [HB.out]; exact HL2.out, by rw [HC.out, List.length_append, HL3.out]; rfl, by rw [HA.out]; exact K1.out.1, by rw [HB.out]; exact K2.out.1, by rw [HC.out, List.flatMap_append, List.flatMap_cons, List.flatMap_nil, List.append_nil, HCE.out]; exact HO5.out, H12.out, fun k hk e => K1.out.2 k e hk, fun k hk e => K2.out.2 k e hk, HM4.out⟩
        case measure => simp [intOf]; omega
      case neg =>
        have z2 : decide (now < x1) = false := by simpa using hdue
        by_cases hxr : x2 < R
        case pos =>
          have z3 : decide ((x2 : Int) < (R : Int)) = true := by simpa using hxr
          have z4 : decide (x2 < R) = true := by simpa using hxr
          have HA : Hid (againE R (dueE (L.take (j + 1)) now) = againE R (dueE (L.take j) now) ++ [x0]) := Lib.hid (by rw [HSD.out, if_neg hdue, ragainE_snoc, HX2.out, if_pos hxr, HX0.out])
          have HB : Hid (overE R (dueE (L.take (j + 1)) now) = overE R (dueE (L.take j) now)) := Lib.hid (by rw [HSD.out, if_neg hdue, roverE_snoc, HX2.out, if_pos hxr, List.append_nil])
          have HC : Hid ((L.take (j + 1)).filterMap (dueW B M R now) = (L.take j).filterMap (dueW B M R now) ++ [⟨x0, now + waitN B M (x2 + 1), x2 + 1⟩]) := Lib.hid (by rw [HSR.out, if_neg hdue, if_pos hxr]; rfl)
          clear HSD HSR hdue hxr
          have r2 := HTO.out.blk.cell 2 rfl
          go_wp2_with fail
          obtain ⟨g, hg⟩ : ∃ g, wo.heap.size = g := ⟨_, rfl⟩
          obtain ⟨wA, hwA⟩ : ∃ x, (wo.alloc (.cells #[.int .i64 x0, .int .i64 x1, .int .i64 (x2 : Int)] 192)) = x := ⟨_, rfl⟩
          have hBg : Blk wA g 192 [.int .i64 x0, .int .i64 x1, .int .i64 (x2 : Int)] := by rw [← hwA, ← hg]; exact Blk.new wo 192 [.int .i64 x0, .int .i64 x1, .int .i64 (x2 : Int)]
          have hmA : Mod (fun _ => False) wo wA := by rw [← hwA]; exact Mod.alloc _ _ _
          rw [hwA, hg]
          have HG := Lib.hid hg
          have HBG := Lib.hid hBg
          have HMA := Lib.hid hmA
          have hTA := HTO.out.keep hmA (fun e => e) (fun _ _ e => e.elim)
          have HTA := Lib.hid hTA
          have g0 := hBg.cell 0 rfl
          have g1 := hBg.cell 1 rfl
          have g2 := hBg.cell 2 rfl
          have q2 := hTA.blk.cell 2 rfl
          clear hwA hg hBg hmA hTA e0 e1 e2 d3 r2 hix
          go_quiet (fail)
          obtain ⟨wB, hwB⟩ : ∃ x, World.drewN wA nq = x := ⟨_, rfl⟩
          have hmB : Mod (fun _ => False) wA wB := by rw [← hwB]; exact Mod.drewN _ _ _
          have HBB := Lib.hid (HBG.out.keep hmB (fun e => e))
          have HTB := Lib.hid (HTA.out.keep hmB (fun e => e) (fun _ _ e => e.elim))
          have HMB := Lib.hid (HMA.out.of2 hmB)
          rw [hwB]
          clear hwB hmB g0 g1 g2 q2 HBG HTA HMA
          have hgq : q ≠ g := by have h1 := HTO.out.blk.lt; have h2 := HG.out; omega
          have HGQ := Lib.hid hgq
          clear hgq
          have g0 := HBB.out.cell 0 rfl
          have g1 := HBB.out.cell 1 rfl
          have g2 := HBB.out.cell 2 rfl
          have k1 := HBB.out.free 1
          have k2 := HBB.out.free 2
          obtain ⟨wt, hwt⟩ : ∃ x, waitN B M (x2 + 1) = x := ⟨_, rfl⟩
          have hwtl := waitN_le B M (x2 + 1)
          rw [hwt] at HC hwtl
          have hwr : IntKind.i64.wrap (now + (wt : Int)) = now + (wt : Int) := IntWalk.i64_in _ (by have := HNOW.out; omega)
          have hbq := HTB.out.blk.setOther ⟨g, 2, none⟩ (.int .i64 ((x2 : Int) + 1)) HGQ.out
          have hcall := rtwait_at _ q (.slice a n c) B M R HTO.out.b1 HTO.out.bm HTO.out.mx hbq ((x2 : Int) + 1) ((i64_wf _).2 (by omega))
          rw [show ((x2 : Int) + 1).toNat = x2 + 1 by omega, hwt] at hcall
          have HCALL := Lib.hid hcall
          clear hcall hbq hwt
          go_wp2_with fail
          refine HCALL.out.mono ?_
          rintro e5 w5 ⟨rfl, rfl⟩
          go_upto_region 13 with fail
          obtain ⟨wC, hwC⟩ : ∃ x, ((wB.setCell ⟨g, 2, none⟩ (.int .i64 ((x2 : Int) + 1))).setCell ⟨g, 1, none⟩ (.int .i64 (now + (wt : Int)))) = x := ⟨_, rfl⟩
          have hBC : Blk wC g 192 [.int .i64 x0, .int .i64 (now + (wt : Int)), .int .i64 ((x2 : Int) + 1)] := by rw [← hwC]; exact (HBB.out.set 2 _).set 1 _
          have hmC : Mod (fun k => k = g) wB wC := by rw [← hwC]; exact (Mod.setCell (F := fun k => k = g) _ ⟨g, 2, none⟩ _ rfl).trans (Mod.setCell (F := fun k => k = g) _ ⟨g, 1, none⟩ _ rfl) (fun _ _ e => e) (fun _ _ e => e)
          rw [hwC]
          have hmo : Mod (fun _ => False) wo wC := HMB.out.old hmC (fun i hi => by have := HG.out; omega)
          have HBC := Lib.hid hBC
          have HMO := Lib.hid hmo
          have p1 := Own.keep HO1.out hmo (fun _ _ e => e)
          have p2 := Own.keep HO2.out hmo (fun _ _ e => e)
          have p3 := Own.keep HO3.out hmo (fun _ _ e => e)
          have P1 := Lib.hid p1
          have P2 := Lib.hid p2
          have P3 := Lib.hid p3
          have HGL : Hid (∀ k, (Value.slice a1 n1 c1).ownBlock = some k → k < g) := Lib.hid (fun k hk => by have := Own.lt HO1.out hk; have := HG.out; omega)
          clear hwC hBC hmC hmo p1 p2 p3 g0 g1 g2 k1 k2 hwr
          have g0 := HBC.out.cell 0 rfl
          go_upto_region 14 with (at_builtin; refine wpList_append_any rfl (.tmp 60) (.tmp 63) 70 rfl 3 iI (.int .i64 0) 1 8 Try.underlying70 hiI hzI hsI hbI rfl (by decide) _ n1 _ rfl (World.ownsRow.alloc (Own.base P1.out (Nat.zero_le _)) _) _ 1 [.int .i64 x0] rfl (Rd.lit 3 [.int .i64 x0] (0, 0) wC.heap.size 1 rfl rfl (by decide)) (by intro u hu; simp at hu; subst hu; rfl) (by unfold maxLen; omega) (by omega) ?_; intro v4 w4 hap)
          obtain ⟨a4, c4, rfl⟩ := hap.form
          have hsc : wo.heap.size ≤ wC.heap.size := HMO.out.size
          have ho4 := hap.own
          have lo4 := hap.low (B := B0) (by have := HSZ.out; simp; omega) (fun k hk => (HO1.out.lt k hk).1)
          have u2 := hap.others (World.ownsRow.alloc P2.out _) (fun k hk e => H12.out k hk e)
          have u3 := hap.others (World.ownsRow.alloc P3.out _) (fun k hk e => H13.out k hk e)
          have hm4 := (HMO.out.thenAlloc (.cells #[.int .i64 x0] 3)).trans hap.mod (H := fun k => (Value.slice a1 n1 c1).ownBlock = some k) (fun _ _ e => e.elim) (fun _ _ e => e)
          have hBD := (HBC.out.alloc (.cells #[.int .i64 x0] 3)).keep hap.mod (fun e => by have := HGL.out g e; omega)
          have HO5 := Lib.hid (Own.rebase ho4 lo4)
          have U2 := Lib.hid u2
          have U3 := Lib.hid u3
          have HM4 := Lib.hid hm4
          have HBD := Lib.hid hBD
          have HSC : Hid (B0 ≤ w4.heap.size) := Lib.hid (by have h1 := hap.mod.size; have h2 := HSZ.out; simp at h1; omega)
          clear hap ho4 lo4 hm4 u2 u3 hBD hsc g0
          have g0 := HBD.out.cell 0 rfl
          have g1 := HBD.out.cell 1 rfl
          have g2 := HBD.out.cell 2 rfl
          go_wp2_with (at_builtin; refine wpList_append_any rfl (.tmp 65) (.tmp 67) 166 rfl 192 iW (.agg #[.int .i64 0, .int .i64 0, .int .i64 0]) 3 24 Try.underlying166 hiW hzW hsW hbW rfl (by decide) _ n3 _ rfl (World.ownsRow.alloc (Own.base U3.out.1 (Nat.zero_le _)) _) _ 1 [.int .i64 x0, .int .i64 (now + (wt : Int)), .int .i64 ((x2 : Int) + 1)] rfl (Rd.litN 192 3 [.int .i64 x0, .int .i64 (now + (wt : Int)), .int .i64 ((x2 : Int) + 1)] (0, 0) w4.heap.size 1 rfl rfl (by decide)) (by intro u hu; simp at hu; rcases hu with rfl | rfl | rfl <;> rfl) (by unfold maxLen; omega) (by omega) ?_; intro v6 w6 hap)
          obtain ⟨a6, c6, rfl⟩ := hap.form
          have ho6 := hap.own
          have lo6 := hap.low (B := B0) (by have := HSC.out; simp; omega) (fun k hk => (HO3.out.lt k hk).1)
          have s1 := hap.others (World.ownsRow.alloc HO5.out _) (fun k hk e => U3.out.2 k e hk)
          have s2 := hap.others (World.ownsRow.alloc U2.out.1 _) (fun k hk e => H23.out k e hk)
          have hm6 := (HM4.out.thenAlloc (.cells #[.int .i64 x0, .int .i64 (now + (wt : Int)), .int .i64 ((x2 : Int) + 1)] 192)).trans hap.mod (H := fun k => B0 ≤ k) (fun k _ e => (HO1.out.lt k e).1) (fun k _ e => (HO3.out.lt k e).1)
          have HO7 := Lib.hid (Own.rebase ho6 lo6)
          have S1 := Lib.hid s1
          have S2 := Lib.hid s2
          have HM6 := Lib.hid (HMR.out.old hm6 (fun i hi => by have := HB0.out; omega))
          clear hap ho6 lo6 hm6 s1 s2
          go_wp2_with fail
          go_roundw
          case rel => exact ⟨j + 1, n1 + 1, n2, n3 + 1, a4, a2, a6, c4, c2, c6, hlt, by go_num, rfl, rfl, rfl, by rw [HA.out, List.length_append, HL1.out]; rfl, by rw [HB.out]; exact HL2.out, by rw [HC.out, List.length_append, HL3.out]; rfl, by rw [HA.out, List.map_append]; exact S1.out.1, by rw [HB.out]; exact S2.out.1, by rw [HC.out, List.flatMap_append, List.flatMap_cons, List.flatMap_nil, List.append_nil]; exact HO7.out, fun k hk e => U2.out.2 k hk e, fun k hk e => S1.out.2 k e hk, fun k hk e => S2.out.2 k e hk, HM6.out⟩
          case measure => simp [intOf]; omega
        case neg =>
          have z3 : decide ((x2 : Int) < (R : Int)) = false := by simpa using hxr
          have z4 : decide (x2 < R) = false := by simpa using hxr
          have HA : Hid (againE R (dueE (L.take (j + 1)) now) = againE R (dueE (L.take j) now)) := Lib.hid (by rw [HSD.out, if_neg hdue, ragainE_snoc, HX2.out, if_neg hxr, List.append_nil])
          have HB : Hid (overE R (dueE (L.take (j + 1)) now) = overE R (dueE (L.take j) now) ++ [x0]) := Lib.hid (by rw [HSD.out, if_neg hdue, roverE_snoc, HX2.out, if_neg hxr, HX0.out])
          have HC : Hid ((L.take (j + 1)).filterMap (dueW B M R now) = (L.take j).filterMap (dueW B M R now)) := Lib.hid (by rw [HSR.out, if_neg hdue, if_neg hxr]; exact List.append_nil _)
          clear HSD HSR hdue hxr
          have r2 := HTO.out.blk.cell 2 rfl
          go_wp2_with fail
          obtain ⟨g, hg⟩ : ∃ g, wo.heap.size = g := ⟨_, rfl⟩
          obtain ⟨wA, hwA⟩ : ∃ x, (wo.alloc (.cells #[.int .i64 x0, .int .i64 x1, .int .i64 (x2 : Int)] 192)) = x := ⟨_, rfl⟩
          have hBg : Blk wA g 192 [.int .i64 x0, .int .i64 x1, .int .i64 (x2 : Int)] := by rw [← hwA, ← hg]; exact Blk.new wo 192 [.int .i64 x0, .int .i64 x1, .int .i64 (x2 : Int)]
          have hmA : Mod (fun _ => False) wo wA := by rw [← hwA]; exact Mod.alloc _ _ _
          rw [hwA, hg]
          have HG := Lib.hid hg
          have HBG := Lib.hid hBg
          have HMA := Lib.hid hmA
          have hTA := HTO.out.keep hmA (fun e => e) (fun _ _ e => e.elim)
          have HTA := Lib.hid hTA
          have g0 := hBg.cell 0 rfl
          have g1 := hBg.cell 1 rfl
          have g2 := hBg.cell 2 rfl
          have q2 := hTA.blk.cell 2 rfl
          clear hwA hg hBg hmA hTA e0 e1 e2 d3 r2 hix
          go_quiet (fail)
          obtain ⟨wB, hwB⟩ : ∃ x, World.drewN wA nq = x := ⟨_, rfl⟩
          have hmB : Mod (fun _ => False) wA wB := by rw [← hwB]; exact Mod.drewN _ _ _
          have HBB := Lib.hid (HBG.out.keep hmB (fun e => e))
          have HTB := Lib.hid (HTA.out.keep hmB (fun e => e) (fun _ _ e => e.elim))
          have HMB := Lib.hid (HMA.out.of2 hmB)
          rw [hwB]
          clear hwB hmB g0 g1 g2 q2 HBG HTA HMA
          have hgq : q ≠ g := by have h1 := HTO.out.blk.lt; have h2 := HG.out; omega
          have HGQ := Lib.hid hgq
          clear hgq
          have g0 := HBB.out.cell 0 rfl
          go_wp2_with (at_builtin; refine wpList_append_any rfl (.tmp 27) (.tmp 30) 70 rfl 3 iI (.int .i64 0) 1 8 Try.underlying70 hiI hzI hsI hbI rfl (by decide) _ n2 _ rfl (World.ownsRow.alloc (Own.base (Own.keep HO2.out HMB.out (fun _ _ e => e)) (Nat.zero_le _)) _) _ 1 [.int .i64 x0] rfl (Rd.lit 3 [.int .i64 x0] (0, 0) wB.heap.size 1 rfl rfl (by decide)) (by intro u hu; simp at hu; subst hu; rfl) (by unfold maxLen; omega) (by omega) ?_; intro v4 w4 hap)
          obtain ⟨a4, c4, rfl⟩ := hap.form
          have hsc : wo.heap.size ≤ wB.heap.size := HMB.out.size
          have ho4 := hap.own
          have lo4 := hap.low (B := B0) (by have := HSZ.out; simp; omega) (fun k hk => (HO2.out.lt k hk).1)
          have s1 := hap.others (World.ownsRow.alloc (Own.keep HO1.out HMB.out (fun _ _ e => e)) _) (fun k hk e => H12.out k e hk)
          have s3 := hap.others (World.ownsRow.alloc (Own.keep HO3.out HMB.out (fun _ _ e => e)) _) (fun k hk e => H23.out k hk e)
          have hm4 := (HMB.out.thenAlloc (.cells #[.int .i64 x0] 3)).trans hap.mod (H := fun k => B0 ≤ k) (fun _ _ e => e.elim) (fun k _ e => (HO2.out.lt k e).1)
          have HO5 := Lib.hid (Own.rebase ho4 lo4)
          have S1 := Lib.hid s1
          have S3 := Lib.hid s3
          have HM6 := Lib.hid (HMR.out.old hm4 (fun i hi => by have := HB0.out; omega))
          clear hap ho4 lo4 hm4 s1 s3 hsc
          go_wp2_with fail
          go_roundw
          case rel => exact ⟨j + 1, n1, n2 + 1, n3, a1, a4, a3, c1, c4, c3, hlt, by go_num, rfl, rfl, rfl, by rw [HA.out]; exact HL1.out, by rw [HB.out, List.length_append, HL2.out]; rfl, by rw [HC.out]; exact HL3.out, by rw [HA.out]; exact S1.out.1, by rw [HB.out, List.map_append]; exact HO5.out, by rw [HC.out]; exact S3.out.1, fun k hk e => S1.out.2 k e hk, H13.out, fun k hk e => S3.out.2 k hk e, HM6.out⟩
          case measure => simp [intOf]; omega
end Go.Proofs.Ytfdmjnhhgcidbaa
