/- net's Each, by contract: what its range keeps. -/
import Derived.Test.YtjjedebjbgpimaaGreatKN9
import Derived.Test.YtjjedebjbgpimaaGreatKRg
import Derived.Shelf.Abstract
import Derived.Shelf.RegionOpen
import Derived.OwnWalkIn
import Derived.TacticsInMore
import Derived.LoopNIn
import Derived.LoopIn
namespace Go.Proofs.YtjjedebjbgpimaaGreat
open Go.RowKit Mile
set_option maxRecDepth 100000
attribute [local go_sem] Oper.semAt_some
set_option maxHeartbeats 2000000 in
theorem nt_each (w : World) (p : Nat) (v : Int) : Calls Tryz.prog 159 #[.pointer (some ⟨p, 0, none⟩), .int .i64 v] w fun e w' => ∃ b1 b2, e = .returned (.func (.func 161) #[] #[.pointer (some ⟨b1, 0, none⟩), .pointer (some ⟨b2, 0, none⟩)]) ∧ Blk w' b1 29 [.pointer (some ⟨p, 0, none⟩)] ∧ Blk w' b2 3 [.int .i64 v] ∧ w.heap.size ≤ b1 ∧ w.heap.size ≤ b2 ∧ Mod (fun _ => False) w w' := by
  obtain ⟨w1, hw1⟩ : ∃ y, w.alloc (.cells #[.pointer (some ⟨p, 0, none⟩)] 29) = y := ⟨_, rfl⟩
  have hm1 : Mod (fun _ => False) w w1 := by rw [← hw1]; exact Mod.alloc _ _ _
  have hb1 : Blk w1 w.heap.size 29 [.pointer (some ⟨p, 0, none⟩)] := by rw [← hw1]; exact Blk.new w 29 [.pointer (some ⟨p, 0, none⟩)]
  obtain ⟨w2, hw2⟩ : ∃ y, w1.alloc (.cells #[.int .i64 v] 3) = y := ⟨_, rfl⟩
  have hm2 : Mod (fun _ => False) w1 w2 := by rw [← hw2]; exact Mod.alloc _ _ _
  have hs1 := hm1.size
  have hb2 : Blk w2 w1.heap.size 3 [.int .i64 v] := by rw [← hw2]; exact Blk.new w1 3 [.int .i64 v]
  have HX := Lib.hid (And.intro (hb1.keep hm2 (fun e => e)) (And.intro hb2 (hm1.of2 hm2)))
  clear hm1 hb1 hm2 hb2
  go_enter Tryz.func159, Tryz.ntmps159
  go_wp2_with fail
  go_ret
  (try rw [hw1])
  (try rw [hw2])
  exact ⟨_, _, rfl, HX.out.1, HX.out.2.1, Nat.le_refl _, hs1, HX.out.2.2⟩
def arcE (R : List Ar) (j : Nat) : Array Value := #[arV (R.getD j ⟨0, 0, 0, 0⟩)]
def EachP (l D : Nat) (R O : Obj) (Q : World → Prop) (e : Ending) (W' : World) : Prop := (∃ v, e = .returned v) ∧ Q W' ∧ W'.heap[l]? = some R ∧ W'.heap[D]? = some O
set_option maxHeartbeats 8000000 in
theorem each_in {w0 : World} {p n : Nat} {L : List Ar} {F : Nat → Prop} (h : NT w0 p n L F) (v : Int) (l D : Nat) (Q : Nat → World → Prop) (hQ : ∀ j W, Q j W → Mod (fun _ => False) w0 W) (hQs : ∀ j W W', Q j W → Mod (fun _ => False) W W' → Q j W')
    (R O : Obj) (W1 : World) (b1 b2 : Nat) (hb1 : Blk W1 b1 29 [.pointer (some ⟨p, 0, none⟩)]) (hb2 : Blk W1 b2 3 [.int .i64 v]) (hJ : Q 0 W1) (hl : W1.heap[l]? = some R) (hD : W1.heap[D]? = some O)
    (hY : YieldsTo Tryz.prog (arcE (outL L v)) l D R O (fun j W => j < (outL L v).length ∧ Q j W) (fun j => Q (j + 1))) :
    CallsIn Fence.wide 0 Tryz.prog 161 #[.func (.yield l) #[] #[], .pointer (some ⟨b1, 0, none⟩), .pointer (some ⟨b2, 0, none⟩)] W1 (EachP l D R O (Q (outL L v).length)) := by
  refine callsIn_wide.2 ?_
  have h1 := h.later (hQ 0 W1 hJ)
  have c1 := hb1.cell 0 rfl
  have c2 := hb2.cell 0 rfl
  by_cases hf : 0 ≤ v ∧ v < (n : Int)
  case neg =>
    have HH := Lib.hid (nt_has h1 v false (decide_eq_false hf))
    have hres : outL L v = [] := List.filter_eq_nil_iff.2 fun b hb => by
      have := h.ok.may b hb; unfold mayA at this; simp; omega
    rw [hres]
    have HJ := Lib.hid (And.intro hJ (And.intro hl hD))
    clear h h1 hQ hQs hb1 hb2 hJ hl hD hY hres hf
    go_enter Tryz.func161, Tryz.ntmps161
    go_wp2_with fail
    refine HH.out.mono ?_
    rintro e w' ⟨rfl, rfl⟩
    go_wp2_with fail
    refine bodyPost_ret (results_none rfl _ _ _) rfl ?_
    exact ⟨⟨_, rfl⟩, HJ.out⟩
  case pos =>
    obtain ⟨v, rfl⟩ := Int.eq_ofNat_of_zero_le hf.1
    have hv : v < n := by omega
    have HH := Lib.hid (nt_has h1 (v : Int) true (decide_eq_true hf))
    obtain ⟨ob, ib, a, c, q0, q1, q2, ho, _⟩ := h.orow v hv
    replace q0 := (hQ 0 W1 hJ).cell q0 (fun e => e)
    replace q2 := (hQ 0 W1 hJ).cell q2 (fun e => e)
    have hlen := outL_len h.ok (v : Int)
    have h512 := h.n512
    obtain ⟨iS, hiS, hzS, hsS, hbS⟩ := info_parts Nt.infoSA
    obtain ⟨iA, hiA, hzA, hsA, hbA⟩ := info_parts Nt.infoA
    have hix := fun wx => run_indexS (P := Tryz.prog) wx 88 34 iS 1 Tryz.underlying88 hiS hsS (some ⟨ob, 0, none⟩) n n v hv (by simp)
    rw [elemA_lit] at hix
    obtain ⟨Ro, hRo⟩ : ∃ Ro, outL L (v : Int) = Ro := ⟨_, rfl⟩
    rw [hRo] at ho hlen q2 hY ⊢
    obtain ⟨ln, hln⟩ : ∃ x, Ro.length = x := ⟨_, rfl⟩
    rw [hln] at q2 ho ⊢
    have hln2 : ln ≤ 512 := by omega
    have HO := Lib.hid (Rd.ofOwn ho)
    have HLN := Lib.hid hln
    have HM1 := Lib.hid (hQ 0 W1 hJ)
    have HJ := Lib.hid hJ
    have HL := Lib.hid hl
    have HD := Lib.hid hD
    have HY := Lib.hid hY
    have HQ := Lib.hid hQ
    have HQS := Lib.hid hQs
    have h2n : (0 : Int) ≤ (v : Int) := by omega
    clear h h1 hQ hQs hb1 hb2 hJ hl hD hY ho hlen hf hRo hln q1 h512
    go_enter Tryz.func161, Tryz.ntmps161
    go_wp2_with fail
    refine HH.out.mono ?_
    rintro e w' ⟨rfl, rfl⟩
    go_upto_region 1 with fail
    go_quiet (fail)
    obtain ⟨wB, hwB⟩ : ∃ y, World.drewN W1 nq = y := ⟨_, rfl⟩
    have hmB : Mod (fun _ => False) W1 wB := by rw [← hwB]; exact Mod.drewN _ _ _
    (try rw [hwB])
    have HJB := Lib.hid (HQS.out 0 W1 wB HJ.out hmB)
    have HLB := Lib.hid (hmB.obj HL.out (fun e => e))
    have HDB := Lib.hid (hmB.obj HD.out (fun e => e))
    have HMB := Lib.hid hmB
    clear hwB hmB c1 c2 q0 q2 hix HH
    go_wp2_with fail
    go_loopw [18] (fun jv wr => ∃ j : Nat, jv = .int .i64 (j : Int) ∧ j ≤ ln ∧ Q j wr ∧ wr.heap[l]? = some R ∧ wr.heap[D]? = some O) (fun jv _ => ln - (intOf jv).toNat)
    case atStart => exact ⟨0, rfl, Nat.zero_le _, HJB.out, HLB.out, HDB.out⟩
    case round =>
      obtain ⟨j, rfl, hj, hq, hl, hd⟩ := hrel
      obtain ⟨w2, hw2⟩ : ∃ x : World, x = wr := ⟨_, rfl⟩
      subst hw2
      have HQ2 := Lib.hid hq
      have HL2 := Lib.hid hl
      have HD2 := Lib.hid hd
      clear hq hl hd
      by_cases hjl : j < ln
      case neg =>
        obtain rfl : j = ln := by omega
        have z0 : decide ((j : Int) < (j : Int)) = false := by simp
        go_wp2_with fail
        go_end0
        exact ⟨⟨_, rfl⟩, HQ2.out, HL2.out, HD2.out⟩
      case pos =>
        have z0 : decide ((j : Int) < (ln : Int)) = true := by simp; omega
        have hjR : j < Ro.length := by rw [HLN.out]; exact hjl
        have hk1 : IntKind.i64.wrap ((j : Int) + 1) = ((j + 1 : Nat) : Int) := by rw [IntWalk.i64_in _ (by omega)]; omega
        have HRD : Hid (Rd w2 4 (.slice a ln c) ln (Ro.flatMap c4)) := Lib.hid (HO.out.keep (HQ.out j w2 HQ2.out) (fun _ _ e => e))
        obtain ⟨eb, eo, hpe, e0, e1, e2, e3⟩ := rd4 HRD.out j hjR
        have hix := fun wx => run_indexS (P := Tryz.prog) wx 34 50 iA 4 Tryz.underlying34 hiA hsA a ln c j hjl (HRD.out.some_ (by omega))
        rw [hpe] at hix
        have hge : Ro.getD j ⟨0, 0, 0, 0⟩ = Ro[j] := by simp [List.getD, hjR]
        obtain ⟨b, hb⟩ : ∃ b, Ro[j] = b := ⟨_, rfl⟩
        rw [hb] at e0 e1 e2 e3 hge
        obtain ⟨bf, bt, bw, bm⟩ := b
        simp only at e0 e1 e2 e3
        have HGE := Lib.hid hge
        have HK1 := Lib.hid hk1
        have HJR := Lib.hid hjR
        clear hpe hb hjR hge hk1
        go_upto_region 4 with fail
        obtain ⟨g, hg⟩ : ∃ y, w2.heap.size = y := ⟨_, rfl⟩
        obtain ⟨w5, hw5⟩ : ∃ y, w2.alloc (.cells #[.int .i64 bf, .int .i64 bt, .int .i64 bw, .int .i64 bm] 50) = y := ⟨_, rfl⟩
        have hg5 : Blk w5 g 50 [.int .i64 bf, .int .i64 bt, .int .i64 bw, .int .i64 bm] := by rw [← hw5, ← hg]; exact Blk.new w2 50 [.int .i64 bf, .int .i64 bt, .int .i64 bw, .int .i64 bm]
        have hm5 : Mod (fun _ => False) w2 w5 := by rw [← hw5]; exact Mod.alloc _ _ _
        (try rw [hw5])
        (try rw [hg])
        have g0 := hg5.cell 0 rfl
        have g1 := hg5.cell 1 rfl
        have g2 := hg5.cell 2 rfl
        have g3 := hg5.cell 3 rfl
        obtain ⟨fn, tmps, assign, body, hy, hR⟩ := HY.out j w5 ⟨HJR.out, HQS.out j w2 w5 HQ2.out hm5⟩ (hm5.obj HL2.out (fun e => e)) (hm5.obj HD2.out (fun e => e))
        have HR := Lib.hid hR
        unfold arcE at hy
        rw [HGE.out] at hy
        unfold arV at hy
        simp only at hy
        clear hR hg hw5 hg5 hm5 e0 e1 e2 e3 hix
        refine (wpIn_wide (n := 0)).1 ?_
        gi_wp2_with fail
        first | refine HR.out.mono ?_ | refine ⟨rfl, HR.out.mono ?_⟩ | refine ⟨trivial, rfl, HR.out.mono ?_⟩
        rintro e W3 ⟨rfl, hq3, hl3, hd3⟩
        have HQ3 := Lib.hid hq3
        have HL3 := Lib.hid hl3
        have HD3 := Lib.hid hd3
        have hk1 := HK1.out
        clear hq3 hl3 hd3
        gi_wp2_with fail
        go_wp2_with fail
        go_roundw
        case rel => exact ⟨j + 1, rfl, by omega, HQ3.out, HL3.out, HD3.out⟩
        case measure => simp [intOf]; omega
end Go.Proofs.YtjjedebjbgpimaaGreat
