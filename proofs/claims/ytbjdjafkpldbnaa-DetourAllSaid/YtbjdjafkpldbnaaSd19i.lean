/- The reference's Meets by contract. -/
import Derived.Test.YtbjdjafkpldbnaaSd19h
import Derived.Test.YtbjdjafkpldbnaaRDistF
namespace Go.Proofs.Ytbjdjafkpldbnaa
open Go.RowKit Mile
set_option maxRecDepth 100000
attribute [local go_sem] Oper.semAt_some
def RMtC (G : GD) (hm : May G) (k : Nat) (v : Int) (cl : List Bool) (m : Nat) (w1 : World) (av bv : Value) (wx : World) : Prop :=
  ∃ ra dA rb dB, av = .slice (some ⟨ra, 0, none⟩) m m ∧ bv = .slice (some ⟨rb, 0, none⟩) m m ∧ (∃ B, wx.ownsRow B 3 1 (.slice (some ⟨ra, 0, none⟩) m m) m (dA.map (Value.int .i64))) ∧ (∃ B, wx.ownsRow B 3 1 (.slice (some ⟨rb, 0, none⟩) m m) m (dB.map (Value.int .i64))) ∧ Fix (webFrom G hm (k : Int) cl) dA ∧ Fix (webTo G hm v cl) dB ∧ Mod (fun _ => False) w1 wx
set_option maxHeartbeats 16000000 in
theorem r4meets_any (G : GD) (hm : May G) (w : World) (a1 : Option Addr) (n1 d1 : Nat) (a2 : Option Addr) (n2 d2 : Nat) (a3 : Option Addr) (n3 d3 : Nat) (h : GV w a1 n1 d1 a2 n2 d2 a3 n3 d3 G) (ev v : Int) (a : Option Addr) (n c : Nat) (cl : List Bool) (hn : cl.length = n) (hr : Rd w 1 (.slice a n c) n (cl.map Value.bool)) :
    Calls Try.prog 14 #[.agg #[.slice a1 n1 d1, .slice a2 n2 d2, .slice a3 n3 d3], .int .i64 ev, .int .i64 v, .slice a n c] w (RMtsP G hm v cl ev w) := by
  obtain ⟨iI, hiI, hzI, hsI, hbI⟩ := info_parts GR.infoI
  have hes : G.E.length ≤ 512 := hm.1.2.1
  obtain ⟨bx, hbx⟩ : ∃ b, w.heap.size = b := ⟨_, rfl⟩
  obtain ⟨w0, hw0⟩ : ∃ W, w.alloc (.cells #[.slice a1 n1 d1, .slice a2 n2 d2, .slice a3 n3 d3] 28) = W := ⟨_, rfl⟩
  have hB : Blk w0 bx 28 [.slice a1 n1 d1, .slice a2 n2 d2, .slice a3 n3 d3] := by rw [← hw0, ← hbx]; exact Blk.new _ _ [.slice a1 n1 d1, .slice a2 n2 d2, .slice a3 n3 d3]
  have hm0 : Mod (fun _ => False) w w0 := by rw [← hw0]; exact Mod.alloc _ _ _
  have HG := Lib.hid (Ev.gv (h.keep hm0))
  have HR := Lib.hid (Ev.rd (hr.keep hm0 (fun _ _ e => e)))
  have HN := Lib.hid hn
  have HB := Lib.hid (Ev.blk hB)
  have HM0 := Lib.hid hm0
  have q0 := hB.cell 0 rfl
  have q1 := hB.cell 1 rfl
  have q2 := hB.cell 2 rfl
  clear h hn hr hB hm0
  go_enter Try.func14, Try.ntmps14
  go_upto_region 1 with fail
  try rw [hw0]
  try rw [hbx]
  clear hw0 hbx
  go_wp2_with fail
  refine (r4btw_any G hm w0 a1 n1 d1 a2 n2 d2 a3 n3 d3 HG.out.now ev v a n c cl HN.out HR.out.now).mono ?_
  rintro e w1 ⟨x, hbt, rfl, hm1⟩
  have HM1 := Lib.hid hm1
  have HBT := Lib.hid hbt
  have hlow := hbt.low
  clear q0 q1 q2 hm1 hbt
  by_cases hx0 : x < 0
  case pos =>
    have z0 : decide (x < 0) = true := decide_eq_true hx0
    go_wp2_with fail
    go_ret
    refine ⟨-1, ?_, rfl, HM0.out.of2 HM1.out⟩
    rcases HBT.out with ⟨h1, d, h2, h3⟩ | ⟨h1, h2⟩
    · obtain ⟨k, rfl⟩ := Int.eq_ofNat_of_zero_le h1.2.1
      obtain ⟨dA, hA, _⟩ := fix_from G hm k cl
      exact .inl ⟨h1, dA, d, hA, h2, Mee.neg (by omega)⟩
    · exact .inr ⟨h1, rfl⟩
  case neg =>
    have z0 : decide (x < 0) = false := decide_eq_false hx0
    have hin : (0 ≤ v ∧ v < (G.N.length : Int)) ∧ (0 ≤ ev ∧ ev < (G.E.length : Int)) := by
      rcases HBT.out with ⟨h1, _⟩ | ⟨h1, h2⟩
      · exact h1
      · omega
    obtain ⟨k, rfl⟩ := Int.eq_ofNat_of_zero_le hin.2.1
    have hk : k < G.E.length := by have := hin.2.2; omega
    have hxd : ∀ d, Fix (webTo G hm v cl) d → dAt d k = x := fun d hd => by
      rcases HBT.out with ⟨h1, d', h2, h3⟩ | ⟨h1, h2⟩
      · rw [hd.uniq h2, h3]; rfl
      · exact absurd hin h1
    have HXD := Lib.hid hxd
    have HIN := Lib.hid hin
    obtain ⟨m, hm0⟩ : ∃ m, G.E.length = m := ⟨_, rfl⟩
    have hx1 : (webFrom G hm (k : Int) cl).m = m := hm0
    have hx2 : (webTo G hm v cl).m = m := hm0
    rw [hm0] at hk hes
    have HXM := Lib.hid (And.intro hx1 (And.intro hx2 hm0))
    clear hxd hin hm0 hx1 hx2 hlow
    have hb1 := HB.out.at HM1.out
    have q0 := hb1.cell 0 rfl
    have q1 := hb1.cell 1 rfl
    have q2 := hb1.cell 2 rfl
    clear hb1
    go_upto_region 4 with fail
    go_cut [10, 11] from 20 to 27 (fun av bv wx => RMtC G hm k v cl m w1 av bv wx)
    case first =>
      go_region_with (first
        | (go_at_call 15
           refine (r4from_any G hm _ a1 n1 d1 a2 n2 d2 a3 n3 d3 (HG.out.at (HM1.out.of2 (by first | exact Mod.refl _ _ | exact Mod.drew _ _))) (k : Int) a n c cl HN.out (HR.out.at (HM1.out.of2 (by first | exact Mod.refl _ _ | exact Mod.drew _ _)))).mono ?_
           rintro e w9 hp
           obtain ⟨_, x, rfl, ⟨ra, dA, rfl, hoA, hfA⟩, hmA⟩ := hp.resolve_right (fun h => h.1 HIN.out.2)
           rw [HXM.out.1] at hoA ⊢
           have hm9 : Mod (fun _ => False) w1 w9 := Mod.of2 (by first | exact Mod.refl _ _ | exact Mod.drew _ _) hmA
           have HM9 := Lib.hid hm9
           have HOA := Lib.hid (And.intro hoA hfA)
           have hb9 := HB.out.at (HM1.out.of2 hm9)
           have q09 := hb9.cell 0 rfl
           have q19 := hb9.cell 1 rfl
           have q29 := hb9.cell 2 rfl
           clear hoA hfA hmA hm9 hp hb9)
        | (go_at_call 16
           refine (r4to_any G hm _ a1 n1 d1 a2 n2 d2 a3 n3 d3 (HG.out.at ((HM1.out.of2 HM9.out).of2 (by first | exact Mod.refl _ _ | exact Mod.drew _ _))) v a n c cl HN.out (HR.out.at ((HM1.out.of2 HM9.out).of2 (by first | exact Mod.refl _ _ | exact Mod.drew _ _)))).mono ?_
           rintro e w10 hp
           obtain ⟨_, x, rfl, ⟨rb, dB, rfl, hoB, hfB⟩, hmB⟩ := hp.resolve_right (fun h => h.1 HIN.out.1)
           rw [HXM.out.2.1] at hoB ⊢
           have hm10 : Mod (fun _ => False) w9 w10 := Mod.of2 (by first | exact Mod.refl _ _ | exact Mod.drew _ _) hmB
           have HM10 := Lib.hid hm10
           have HOB := Lib.hid (And.intro hoB hfB)
           clear hoB hfB hmB hm10 hp))
      all_goals
        (try go_wp2_with fail)
        go_meet
        exact ⟨ra, dA, rb, dB, rfl, rfl, ⟨_, Own.keep HOA.out.1 HM10.out (fun _ _ e => e)⟩, ⟨_, HOB.out.1⟩, HOA.out.2, HOB.out.2, HM9.out.of2 HM10.out⟩
    case rest =>
      obtain ⟨ra, dA, rb, dB, rfl, rfl, ⟨BA, hoA⟩, ⟨BB, hoB⟩, hfA, hfB, hmc⟩ := hcut
      obtain ⟨w2, hw2⟩ : ∃ x : World, x = wc := ⟨_, rfl⟩
      subst hw2
      have hnn := HXD.out dB hfB
      have hfin : ∀ y, Mee dA dB x m y → Mts G hm v cl (k : Int) y := fun y h => .inl ⟨HIN.out, dA, dB, hfA, hfB, by rw [HXM.out.2.2]; show Mee dA dB (dAt dB k) m y; rw [hnn]; exact h⟩
      have HFIN := Lib.hid hfin
      have HM := Lib.hid ((HM0.out.of2 HM1.out).of2 hmc)
      have HOA2 := Lib.hid hoA
      have HOB2 := Lib.hid hoB
      have HTP := Lib.hid (And.intro (from_top G hm (k : Int) cl hfA) (And.intro (to_top G hm v cl hfB) (And.intro hfA.low hfB.low)))
      clear hoA hoB hfA hfB hmc hfin hnn q0 q1 q2 HG HR HN HB HXD HBT HIN
      go_wp2_with fail
      go_loopw [12] (fun i wr => ∃ j : Nat, j ≤ m ∧ i = .int .i64 j ∧ Mod (fun _ => False) w2 wr ∧ ∀ i, i < j → ¬ okM dA dB x i) (fun i _ => m - (intOf i).toNat)
      case atStart => exact ⟨0, by omega, rfl, Mod.refl _ _, fun i h => by omega⟩
      case round =>
        obtain ⟨j, hj, rfl, hM2, hno⟩ := hrel
        obtain ⟨wo, hwo⟩ : ∃ x : World, x = wr := ⟨_, rfl⟩
        subst hwo
        have HNO := Lib.hid hno
        have HM2 := Lib.hid hM2
        clear hno hM2
        by_cases hlt : j < m
        case neg =>
          obtain rfl : j = m := by omega
          have z0 : decide ((j : Int) < (j : Int)) = false := by simp
          go_wp2_with fail
          go_ret
          exact ⟨-1, HFIN.out _ (.inr ⟨rfl, HNO.out⟩), rfl, HM.out.of2 HM2.out⟩
        case pos =>
          have z0 : decide ((j : Int) < (m : Int)) = true := by simp; omega
          have hixA := fun wx => own_ix iI hiI hsI ra m j hlt wx
          have hixB := fun wx => own_ix iI hiI hsI rb m j hlt wx
          have qA := own_at (Own.keep HOA2.out HM2.out (fun _ _ e => e)) j hlt
          have qB := own_at (Own.keep HOB2.out HM2.out (fun _ _ e => e)) j hlt
          obtain ⟨ga, hga⟩ : ∃ x, dAt dA j = x := ⟨_, rfl⟩
          obtain ⟨gb, hgb⟩ : ∃ x, dAt dB j = x := ⟨_, rfl⟩
          have b1 := HTP.out.1 j
          have b2 := HTP.out.2.1 j
          have b3 := HTP.out.2.2.1 j
          have b4 := HTP.out.2.2.2 j
          rw [hga] at qA b1 b3
          rw [hgb] at qB b2 b4
          have hok : okM dA dB x j ↔ (0 ≤ ga ∧ 0 ≤ gb ∧ ga + gb = x) := by unfold okM; rw [hga, hgb]
          have HOK := Lib.hid hok
          clear hga hgb hok
          have hnext : ¬ okM dA dB x j → ∀ i, i < j + 1 → ¬ okM dA dB x i := fun hno i hi h => (Nat.lt_succ_iff_lt_or_eq.1 hi).elim (fun e => HNO.out i e h) (fun e => by rw [e] at h; exact hno h)
          have HNEXT := Lib.hid hnext
          clear hnext
          by_cases h1 : 0 ≤ ga
          · have z1 : decide (0 ≤ ga) = true := decide_eq_true h1
            by_cases h2 : 0 ≤ gb
            · have z2 : decide (0 ≤ gb) = true := decide_eq_true h2
              by_cases h3 : ga + gb = x
              · have z3 : (ga + gb == x) = true := beq_iff_eq.2 h3
                go_upto_region 8 with fail
                go_quiet (fail)
                go_wp2_with fail
                go_ret
                exact ⟨(j : Int), HFIN.out _ (.inl ⟨j, hlt, rfl, HOK.out.2 ⟨h1, h2, h3⟩, HNO.out⟩), rfl, (HM.out.of2 HM2.out).of2 (Mod.drewN _ _ _)⟩
              · have z3 : (ga + gb == x) = false := beq_eq_false_iff_ne.2 h3
                go_upto_region 8 with fail
                go_quiet (fail)
                go_wp2_with fail
                go_roundw
                case rel => exact ⟨j + 1, hlt, by go_num, HM2.out.of2 (Mod.drewN _ _ _), HNEXT.out (fun h => h3 (HOK.out.1 h).2.2)⟩
                case measure => simp [intOf]; omega
            · have z2 : decide (0 ≤ gb) = false := decide_eq_false h2
              go_upto_region 8 with fail
              go_quiet (fail)
              go_wp2_with fail
              go_roundw
              case rel => exact ⟨j + 1, hlt, by go_num, HM2.out.of2 (Mod.drewN _ _ _), HNEXT.out (fun h => h2 (HOK.out.1 h).2.1)⟩
              case measure => simp [intOf]; omega
          · have z1 : decide (0 ≤ ga) = false := decide_eq_false h1
            go_upto_region 8 with fail
            go_quiet (fail)
            go_wp2_with fail
            go_roundw
            case rel => exact ⟨j + 1, hlt, by go_num, HM2.out.of2 (Mod.drewN _ _ _), HNEXT.out (fun h => h1 (HOK.out.1 h).1)⟩
            case measure => simp [intOf]; omega
end Go.Proofs.Ytbjdjafkpldbnaa
