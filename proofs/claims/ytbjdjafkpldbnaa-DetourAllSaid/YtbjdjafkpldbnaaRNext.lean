/- turns.May by contract; milepostref4's Turn, Next, Prev by contract. -/
import Derived.Test.YtbjdjafkpldbnaaTurns
import Derived.Test.YtbjdjafkpldbnaaR4
import Derived.Test.YtbjdjafkpldbnaaRTurn
import Derived.Deep.DeepCutAuto
import Derived.Deep.CutBlock
namespace Go.Proofs.Ytbjdjafkpldbnaa
open Go.RowKit Mile
set_option maxRecDepth 100000

set_option maxHeartbeats 16000000 in
theorem r4next_new (G : GD) (w : World) (a1 : Option Addr) (n1 d1 : Nat) (a2 : Option Addr) (n2 d2 : Nat) (a3 : Option Addr) (n3 d3 : Nat) (h : GV w a1 n1 d1 a2 n2 d2 a3 n3 d3 G) (q2 : n2 ≤ 100000) (q3 : n3 ≤ 100000) (ed : Int) :
    Calls Try.prog 18 #[.agg #[.slice a1 n1 d1, .slice a2 n2 d2, .slice a3 n3 d3], .int .i64 ed] w fun e w' => ∃ v, e = .returned v ∧ NRow w.heap.size (nxtR G ed) v w' ∧ Mod (fun _ => False) w w' := by
  obtain ⟨iI, hiI, hzI, hsI, hbI⟩ := info_parts GR.infoI
  have he := Lib.hid h.e
  have HS : Hid (Ev (Mod (fun _ => False) w) w) := Lib.hid (Ev.mod w)
  replace HS := Lib.hid ((Ev.gv h).and HS.out)
  go_enter Try.func18, Try.ntmps18
  go_upto_region 1 with fail
  obtain ⟨bx, hbx⟩ : ∃ b, w.heap.size = b := ⟨_, rfl⟩
  obtain ⟨wq1, hwq1⟩ : ∃ W, World.alloc w (.cells #[.slice a1 n1 d1, .slice a2 n2 d2, .slice a3 n3 d3] 28) = W := ⟨_, rfl⟩
  have hBbx : Blk wq1 bx 28 [.slice a1 n1 d1, .slice a2 n2 d2, .slice a3 n3 d3] := by rw [← hwq1, ← hbx]; exact Blk.new _ 28 [.slice a1 n1 d1, .slice a2 n2 d2, .slice a3 n3 d3]
  have hzbx : wq1.heap.size = bx + 1 := by rw [← hwq1, ← hbx]; exact heap_size_alloc _ _
  replace HS := Lib.hid (HS.out.step (w' := wq1) (by rw [← hwq1]; exact Mod.alloc _ _ _))
  replace HS := Lib.hid ((Ev.blk hBbx).and HS.out)
  try rw [hwq1]
  try rw [hbx]
  clear hzbx hBbx hbx hwq1
  have hbbx := (HS.out.now).1
  have qbx_0 := hbbx.cell 0 rfl
  have qbx_1 := hbbx.cell 1 rfl
  have qbx_2 := hbbx.cell 2 rfl
  have lbx := hbbx.lt
  clear hbbx
  have HSB0 : Hid (Ev (Mod (fun _ => False) w) wq1) := Lib.hid (Ev.of fun W m => ((HS.out.now).2.2).of2 m)
  obtain ⟨B0, hB0⟩ : ∃ n, wq1.heap.size = n := ⟨_, rfl⟩
  have HB0 := Lib.hid hB0
  clear hB0
  replace HS := Lib.hid ((Ev.mod wq1).and HS.out)
  go_wp2_with fail
  clear qbx_0 qbx_1 qbx_2 lbx
  go_loopw [5, 6] (fun v i wr => ∃ j : Nat, j ≤ n2 ∧ i = .int .i64 j ∧ Mod (fun _ => False) wq1 wr ∧ World.ownsRow wr B0 3 1 v ((List.range j).filter (fun i : Nat => turnB G ed (i : Int))).length ((((List.range j).filter (fun i : Nat => turnB G ed (i : Int))).map Int.ofNat).map (Value.int .i64))) (fun _ i _ => n2 - (intOf i).toNat)
  case atStart => exact ⟨0, by omega, rfl, Mod.refl _ _, World.ownsRow_nil _ _ _ _⟩
  case round =>
    obtain ⟨j, hj, rfl, hmr, hown⟩ := hrel
    obtain ⟨wo, hwo⟩ : ∃ x : World, x = wr := ⟨_, rfl⟩
    subst hwo
    replace HS := Lib.hid (HS.out.step hmr)
    clear hmr
    have hbbx := (HS.out.now).2.1
    have qbx_0 := hbbx.cell 0 rfl
    have qbx_1 := hbbx.cell 1 rfl
    have qbx_2 := hbbx.cell 2 rfl
    have lbx := hbbx.lt
    clear hbbx
    obtain ⟨av, cv, rfl⟩ := own_form hown
    obtain ⟨ln, hln⟩ : ∃ n, ((List.range j).filter (fun i : Nat => turnB G ed (i : Int))).length = n := ⟨_, rfl⟩
    rw [hln] at hown ⊢
    have hlj : ln ≤ j := by rw [← hln]; exact Nat.le_trans (List.length_filter_le _ _) (by simp)
    have HLN := Lib.hid hln
    have HO := Lib.hid hown
    clear hln hown
    by_cases hlt : j < n2
    case pos =>
      have z0 : decide ((j : Int) < (n2 : Int)) = true := by simp; omega
      obtain ⟨b, hpb⟩ : ∃ b, turnB G ed (j : Int) = b := ⟨_, rfl⟩
      have HP := Lib.hid hpb
      clear hpb
      go_wp2_with fail
      refine (r4turn_any G _ a1 n1 d1 a2 n2 d2 a3 n3 d3 ((HS.out.now).2.2.1) q2 q3 ed (j : Int)).mono ?_
      rintro e wq2 ⟨rfl, hmm⟩
      have HMT := Lib.hid hmm
      replace HS := Lib.hid (HS.out.step hmm)
      clear hmm
      clear qbx_0 qbx_1 qbx_2 lbx
      have hbbx := (HS.out.now).2.1
      have qbx_0 := hbbx.cell 0 rfl
      have qbx_1 := hbbx.cell 1 rfl
      have qbx_2 := hbbx.cell 2 rfl
      have lbx := hbbx.lt
      clear hbbx
      rw [HP.out]
      have HO2 := Lib.hid (Own.keep HO.out HMT.out (fun _ _ e => e))
      cases b with
      | true =>
        have hz : B0 ≤ wq2.heap.size := by rw [← HB0.out]; exact ((HS.out.now).1).size
        go_wp2_with (at_builtin; refine wpList_append_any rfl (.tmp 18) (.tmp 20) 22 rfl 3 iI (.int .i64 0) 1 8 Try.underlying22 hiI hzI hsI hbI rfl (by decide) _ ln _ rfl (World.ownsRow.alloc (Own.base HO2.out (Nat.zero_le _)) _) _ 1 [.int .i64 (j : Int)] rfl (Rd.one _ _ _) (by simp [Value.oneCell']) (by unfold maxLen; omega) (by omega) ?_; intro v4 w4 hap; obtain ⟨a4, c4, rfl⟩ := hap.form; have ho4 := hap.own; have lo4 := hap.low (B := B0) (by simp; omega) (fun k hk => (HO2.out.lt k hk).1); have hm4 := hap.modOld (((HS.out.now).1).thenAlloc _) (fun k hk => by rw [HB0.out]; exact (HO2.out.lt k hk).1); have HO4 := Lib.hid (Own.rebase ho4 lo4); have HM4 := Lib.hid hm4; clear hap ho4 lo4 hm4)
        go_roundw
        case rel =>
          refine ⟨j + 1, hlt, by go_num, HM4.out, ?_⟩
          have hs : (List.range (j + 1)).filter (fun i : Nat => turnB G ed (i : Int)) = (List.range j).filter (fun i : Nat => turnB G ed (i : Int)) ++ [j] := by rw [List.range_succ, List.filter_append]; simp [HP.out]
          rw [hs, List.map_append, List.map_append, List.length_append, HLN.out]
          exact HO4.out
        case measure => simp [intOf]; omega
      | false =>
        go_wp2_with fail
        go_roundw
        case rel =>
          refine ⟨j + 1, hlt, by go_num, (HS.out.now).1, ?_⟩
          have hs : (List.range (j + 1)).filter (fun i : Nat => turnB G ed (i : Int)) = (List.range j).filter (fun i : Nat => turnB G ed (i : Int)) := by rw [List.range_succ, List.filter_append]; simp [HP.out]
          rw [hs, HLN.out]
          exact HO2.out
        case measure => simp [intOf]; omega
    case neg =>
      obtain rfl : j = n2 := by omega
      have z0 : decide ((j : Int) < (j : Int)) = false := by simp
      go_wp2_with fail
      go_ret
      refine ⟨_, rfl, ⟨⟨av, cv, ?_, ?_⟩, fun q hq => Nat.le_trans (by rw [← HB0.out]; exact (HSB0.out.now).size) (HO.out.lt q (by rw [← hq]; exact own_slice _ _ _ _ _)).1⟩, (HS.out.now).2.2.2⟩
      · show Value.slice av ln cv = _; unfold nxtR; rw [List.length_map, he.out, HLN.out]
      · unfold nxtR; rw [List.length_map, he.out, HLN.out]; exact Rd.ofOwn HO.out
theorem r4next_any (G : GD) (w : World) (a1 : Option Addr) (n1 d1 : Nat) (a2 : Option Addr) (n2 d2 : Nat) (a3 : Option Addr) (n3 d3 : Nat) (h : GV w a1 n1 d1 a2 n2 d2 a3 n3 d3 G) (q2 : n2 ≤ 100000) (q3 : n3 ≤ 100000) (ed : Int) :
    Calls Try.prog 18 #[.agg #[.slice a1 n1 d1, .slice a2 n2 d2, .slice a3 n3 d3], .int .i64 ed] w fun e w' => ∃ v, e = .returned v ∧ IRow (nxtR G ed) v w' ∧ Mod (fun _ => False) w w' :=
  (r4next_new G w a1 n1 d1 a2 n2 d2 a3 n3 d3 h q2 q3 ed).mono fun _ _ ⟨v, he, hr, hm⟩ => ⟨v, he, hr.1, hm⟩
end Go.Proofs.Ytbjdjafkpldbnaa
