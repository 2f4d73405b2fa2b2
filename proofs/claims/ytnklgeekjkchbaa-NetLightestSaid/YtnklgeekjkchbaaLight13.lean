/- Law NetLightest. -/
import Derived.Test.YtnklgeekjkchbaaLightP
import Derived.Test.YtnklgeekjkchbaaOpen3
namespace Go.Proofs.Ytnklgeekjkchbaa
open Go.RowKit Mile Go.Maps
set_option maxRecDepth 100000
theorem Nl.arr : WideMaps.ArrKey Try.prog 54 3 2 := ⟨Try.underlying54, by kernel_rfl, by kernel_rfl, by kernel_rfl⟩
theorem Nl.rows : ∃ m, Try.prog.types.size = m + 1 := ⟨Try.prog.types.size - 1, by have : 0 < Try.prog.types.size := of_decide_eq_true (by kernel_rfl); omega⟩
theorem Nl.zeroI (w : World) : (zeroValue 3).run Try.prog w = .ok (.int .i64 0) w := by
  obtain ⟨iI, hiI, hzI, hsI, hbI⟩ := info_parts Nt.infoI
  simp [zeroValue, typeInfo, hiI, hzI]
set_option maxHeartbeats 32000000 in
theorem nlight_all (w : World) (n : Nat) (h40 : n ≤ 40) (a : Option Addr) (ln c : Nat) (T : List T3) (hT : T.length = ln) (hr : Rd w 3 (.slice a ln c) ln (T.flatMap c3T)) (hln : ln ≤ 100) :
    Calls Try.prog 4 #[.int .i64 (n : Int), .slice a ln c] w fun e w' => e = .returned (.bool true) ∧ Mod (fun _ => False) w w' := by
  obtain ⟨iA, hiA, hzA, hsA, hbA⟩ := info_parts Nt.infoA
  have y0 : decide ((n : Int) < 0) = false := by simp
  have y1 : decide ((40 : Int) < (n : Int)) = false := by simp; omega
  have y2 : decide ((100 : Int) < (ln : Int)) = false := by simp; omega
  have y2n : decide (100 < ln) = false := by simp; omega
  have HMD := Lib.hid (made13_any w n (by omega) a ln c T hT hr (by omega))
  have HAR := Lib.hid (fun W (mm : Mod (fun _ => False) w W) => arcs13_any W n (by omega) a ln c T hT (hr.keep mm (fun _ _ e => e)) (by omega))
  have HMAY := Lib.hid (arcsR_may (n := n) T)
  have hle := arcsR_len (n : Int) T
  have hok := (putAll_ok (arcsR (n : Int) T) [] (NetOk.nil n) (arcsR_may T)).1
  have hok2 : ∀ k, NetOk n (putAllN ((arcsR (n : Int) T).take k)) := fun k => (putAll_ok ((arcsR (n : Int) T).take k) [] (NetOk.nil n) (fun b hb => arcsR_may T b (List.mem_of_mem_take hb))).1
  have hle2 : ∀ k, (putAllN ((arcsR (n : Int) T).take k)).length ≤ 100 := fun k => by
    have h := (putAll_ok ((arcsR (n : Int) T).take k) [] (NetOk.nil n) (fun b hb => arcsR_may T b (List.mem_of_mem_take hb))).2
    unfold putAllN
    simp only [List.length_nil, List.length_take] at h; omega
  rw [hT] at hle
  obtain ⟨A, hA⟩ : ∃ A, arcsR (n : Int) T = A := ⟨_, rfl⟩
  rw [hA] at HMD HAR HMAY hle hok hok2 hle2
  obtain ⟨m, hm⟩ : ∃ m, A.length = m := ⟨_, rfl⟩
  rw [hm] at hle
  have hmR := hm
  have HM := Lib.hid hm
  have HOK2 := Lib.hid hok2
  have HLE2 := Lib.hid hle2
  have htA : A.take m = A := List.take_of_length_le (Nat.le_of_eq hm)
  have hok0 : NetOk n (putAllN A) := by have := hok2 m; rw [htA] at this; exact this
  have hle0 : (putAllN A).length ≤ 100 := by have := hle2 m; rw [htA] at this; exact this
  have HTA := Lib.hid htA
  obtain ⟨L0, hL0⟩ : ∃ L, putAllN A = L := ⟨_, rfl⟩
  rw [hL0] at HMD hok0 hle0
  have HL0 := Lib.hid hL0
  have HOK := Lib.hid hok0
  have HLE := Lib.hid hle0
  clear hok hok2 hle2 hT hr hm hmR hA hL0 htA hok0 hle0
  go_enter Try.func4, Try.ntmps4
  go_wp2_with fail
  refine HMD.out.mono ?_
  rintro e w1 ⟨q, F, mq, rfl, hnt, _, hnw, _, hm1⟩
  have HN1 := Lib.hid hnt
  have HF1 := Lib.hid hnw
  have HM1 := Lib.hid hm1
  obtain ⟨mb, hmb⟩ : ∃ y, w1.heap.size = y := ⟨_, rfl⟩
  obtain ⟨wA, hwA⟩ : ∃ y, w1.alloc (.map #[] 0) = y := ⟨_, rfl⟩
  have hmA : Mod (fun _ => False) w1 wA := by rw [← hwA]; exact Mod.alloc _ _ _
  have HF2 : Hid (PMapI Try.prog 54 3 wA mb 0 (fun _ _ => none)) := Lib.hid (by rw [← hwA, ← hmb]; exact PMapI.made w1)
  have HN2 := Lib.hid (HN1.out.later hmA)
  have HMA := Lib.hid (HM1.out.of2 hmA)
  have HFM : Hid (∀ j, F j → j < mb) := Lib.hid (fun j hj => by rw [← hmb]; exact HN1.out.lt j hj)
  have HMB : Hid (w.heap.size ≤ mb) := Lib.hid (by rw [← hmb]; exact HM1.out.size)
  clear hnt hnw hm1 HMD y0 y1 y2 y2n hmA
  have hmm := @run_makeMap Try.prog
  go_upto_region 7 with fail
  (try rw [hwA])
  (try rw [hmb])
  clear hwA hmb hmm
  go_wp2_with fail
  refine (HAR.out wA HMA.out).mono ?_
  rintro e w2 ⟨a1, c1, rfl, ho1, hm2⟩
  rw [HM.out] at ho1 ⊢
  have HO1 := Lib.hid ho1
  have HN3 := Lib.hid (HN2.out.later hm2)
  have HF3 := Lib.hid (HF2.out.keep hm2 (fun e => e))
  have HM2 := Lib.hid (HMA.out.of2 hm2)
  have HRB : Hid (∀ j, (Value.slice a1 m c1).ownBlock = some j → j ≠ mb) := Lib.hid (fun j hj e => by have h1 := (HO1.out.lt j hj).1; have h2 := HF2.out.lt; omega)
  clear ho1 hm2 HN2 HF2 HMA
  go_wp2_with fail
  go_loopw [43] (fun jv wr => ∃ k : Nat, jv = .int .i64 (k : Int) ∧ k ≤ m ∧ PMapI Try.prog 54 3 wr mb (putAllN (A.take k)).length (wOf (putAllN (A.take k))) ∧ Mod (fun j => j = mb) w2 wr) (fun jv _ => m - (intOf jv).toNat)
  case atStart => exact ⟨0, rfl, Nat.zero_le _, by rw [List.take_zero]; exact HF3.out, Mod.refl _ _⟩
  case round =>
    obtain ⟨k, rfl, hk, hf, hmr⟩ := hrel
    obtain ⟨w3, hw3⟩ : ∃ x : World, x = wr := ⟨_, rfl⟩
    subst hw3
    have HFK := Lib.hid hf
    have HMR := Lib.hid hmr
    have hrd : Rd w3 4 (.slice a1 m c1) m (A.flatMap c4) := (Rd.ofOwn HO1.out).keep hmr (fun j hj e => HRB.out j hj e)
    have HRD := Lib.hid hrd
    clear hf hmr hrd
    by_cases hkl : k < m
    case pos =>
      have z0 : decide ((k : Int) < (m : Int)) = true := by simp; omega
      have z0n : decide (k < m) = true := by simpa using hkl
      have hkR : k < A.length := by rw [HM.out]; exact hkl
      obtain ⟨eb, eo, hpe, e0, e1, e2, e3⟩ := rd4 HRD.out k hkR
      have hst := putAllN_step A k hkR
      have hmay := HMAY.out A[k] (List.getElem_mem hkR)
      obtain ⟨b, hb⟩ : ∃ b, A[k] = b := ⟨_, rfl⟩
      rw [hb] at e0 e1 e2 e3 hst hmay
      obtain ⟨f, t, v, mm⟩ := b
      simp only at e0 e1 e2 e3
      have hix := fun wx => run_indexS (P := Try.prog) wx 22 32 iA 4 Try.underlying22 hiA hsA a1 m c1 k hkl (HRD.out.some_ (by omega))
      rw [hpe] at hix
      obtain ⟨hf0, hf1, ht0, ht1, hft, hv0, hv1, hmm⟩ : mayA n ⟨f, t, v, mm⟩ := hmay
      simp only at hf0 hf1 ht0 ht1 hft hv0 hv1 hmm
      have hwf : (Lit.int .i64 f).wf = true := (i64_wf _).2 ⟨by omega, by omega⟩
      have hwt : (Lit.int .i64 t).wf = true := (i64_wf _).2 ⟨by omega, by omega⟩
      have hwv : (Lit.int .i64 v).wf = true := (i64_wf _).2 ⟨by omega, by omega⟩
      have hk1 : IntKind.i64.wrap ((k : Int) + 1) = ((k + 1 : Nat) : Int) := by rw [IntWalk.i64_in _ (by omega)]; omega
      have hsk := (HOK2.out k).sort
      obtain ⟨LK, hLK⟩ : ∃ L, putAllN (A.take k) = L := ⟨_, rfl⟩
      have hlk := HLE2.out k
      rw [hLK] at hst hsk hlk
      have HFK2 : Hid (PMapI Try.prog 54 3 w3 mb LK.length (wOf LK)) := Lib.hid (by have := HFK.out; rw [hLK] at this; exact this)
      have HPU := Lib.hid (wOf_put hsk ⟨f, t, v, mm⟩)
      have HST := Lib.hid hst
      have HSK := Lib.hid hsk
      have HWF := Lib.hid hwf
      have HWT := Lib.hid hwt
      have HWV := Lib.hid hwv
      have HK1 := Lib.hid hk1
      clear hf0 hf1 ht0 ht1 hft hv0 hv1 hmm hwf hwt hwv hk1 hst hsk hLK hb hpe hkR HFK
      go_upto_region 10 with fail
      obtain ⟨g, hg⟩ : ∃ y, w3.heap.size = y := ⟨_, rfl⟩
      obtain ⟨w5, hw5⟩ : ∃ y, w3.alloc (.cells #[.int .i64 f, .int .i64 t, .int .i64 v, .int .i64 mm] 32) = y := ⟨_, rfl⟩
      have hg5 : Blk w5 g 32 [.int .i64 f, .int .i64 t, .int .i64 v, .int .i64 mm] := by rw [← hw5, ← hg]; exact Blk.new w3 32 [.int .i64 f, .int .i64 t, .int .i64 v, .int .i64 mm]
      have hm5 : Mod (fun _ => False) w3 w5 := by rw [← hw5]; exact Mod.alloc _ _ _
      (try rw [hw5])
      (try rw [hg])
      have g0 := hg5.cell 0 rfl
      have g1 := hg5.cell 1 rfl
      have g2 := hg5.cell 2 rfl
      have HF5 := Lib.hid (HFK2.out.keep hm5 (fun e => e))
      have HM5 := Lib.hid ((HMR.out).trans hm5 (H := fun j => j = mb) (fun _ _ e => e) (fun _ _ e => e.elim))
      have hlk2 := HF5.out.look2 (t := 52) Nl.arr Try.underlying3 Nl.rows Try.underlying52 Try.underlying3 (Nl.zeroI w5) f t HWF.out HWT.out
      clear hg hw5 hg5 hm5 e0 e1 e2 e3 hix HFK2
      obtain ⟨ov, hov⟩ : ∃ o, wOf LK f t = o := ⟨_, rfl⟩
      have hpu := HPU.out
      simp only at hpu
      rw [hov] at hlk2 hpu
      have hnx : putB LK ⟨f, t, v, mm⟩ = true → ∃ w6, (Instr.mapUpdate 52 (.map (some mb)) (.agg #[.int .i64 f, .int .i64 t]) (.int .i64 v)).run Try.prog w5 = .ok () w6 ∧ PMapI Try.prog 54 3 w6 mb (putAllN (A.take (k + 1))).length (wOf (putAllN (A.take (k + 1)))) ∧ Mod (fun i => i = mb) w5 w6 := fun hpb => by
        obtain ⟨w6, hrun, h6, m6⟩ := HF5.out.store (t := 52) Nl.arr Try.underlying3 Nl.rows Try.underlying52 Try.underlying3 (by unfold maxLen; omega) f t v HWF.out HWT.out HWV.out
        refine ⟨w6, hrun, ?_, m6⟩
        rw [HST.out]
        unfold putN
        rw [if_pos hpb, wOf_new HSK.out, len_new HSK.out]
        exact h6
      have hny : putB LK ⟨f, t, v, mm⟩ = false → PMapI Try.prog 54 3 w5 mb (putAllN (A.take (k + 1))).length (wOf (putAllN (A.take (k + 1)))) := fun hpb => by
        rw [HST.out]
        unfold putN
        rw [if_neg (by rw [hpb]; decide)]
        exact HF5.out
      have HNX := Lib.hid hnx
      have HNY := Lib.hid hny
      have HPU2 := Lib.hid hpu
      have hk1 := HK1.out
      clear hnx hny hpu hov HPU
      cases ov with
      | none =>
        obtain ⟨w6, hrun, h6, m6⟩ := HNX.out (by rw [HPU2.out]; rfl)
        simp only [Option.getD_none, Option.isSome_none] at hlk2
        have H6 := Lib.hid h6
        have HM6 := Lib.hid (HM5.out.trans m6 (H := fun j => j = mb) (fun _ _ e => e) (fun _ _ e => e))
        clear h6 m6 HNX HNY HPU2
        go_wp2_with fail
        go_roundw
        case rel => exact ⟨k + 1, rfl, by omega, H6.out, HM6.out⟩
        case measure => simp [intOf]; omega
      | some x =>
        simp only [Option.getD_some, Option.isSome_some] at hlk2
        by_cases hvx : v < x
        · have z5 : decide (v < x) = true := decide_eq_true hvx
          obtain ⟨w6, hrun, h6, m6⟩ := HNX.out (by rw [HPU2.out]; simp [hvx])
          have H6 := Lib.hid h6
          have HM6 := Lib.hid (HM5.out.trans m6 (H := fun j => j = mb) (fun _ _ e => e) (fun _ _ e => e))
          clear h6 m6 HNX HNY HPU2 hvx
          go_wp2_with fail
          go_roundw
          case rel => exact ⟨k + 1, rfl, by omega, H6.out, HM6.out⟩
          case measure => simp [intOf]; omega
        · have z5 : decide (v < x) = false := decide_eq_false hvx
          have h6 := HNY.out (by rw [HPU2.out]; simp [hvx])
          have H6 := Lib.hid h6
          clear h6 HNX HNY HPU2 hvx
          go_wp2_with fail
          go_roundw
          case rel => exact ⟨k + 1, rfl, by omega, H6.out, HM5.out⟩
          case measure => simp [intOf]; omega
    case neg =>
      obtain rfl : k = m := by omega
      have z0 : decide ((k : Int) < (k : Int)) = false := by simp
      have hf0 := HFK.out
      rw [HTA.out, HL0.out] at hf0
      have HNT := Lib.hid (HN3.out.keep HMR.out (fun j hj e => by have := HFM.out j hj; omega))
      have HMW : Hid (Mod (fun _ => False) w w3) := Lib.hid (HM2.out.trans HMR.out (fun _ _ e => e) (fun j hj e => by have := HMB.out; omega))
      have HFX := Lib.hid hf0
      clear hf0 HFK
      go_wp2_with fail
      refine (nt_all HNT.out).mono ?_
      rintro e w4 ⟨aa, ca, rfl, hoa, hm4⟩
      have HOA := Lib.hid hoa
      have HN4 := Lib.hid (HNT.out.later hm4)
      have HF4 := Lib.hid (HFX.out.keep hm4 (fun e => e))
      have HM4 := Lib.hid (HMW.out.of2 hm4)
      obtain ⟨la, hla⟩ : ∃ x, L0.length = x := ⟨_, rfl⟩
      have HLA := Lib.hid hla
      rw [hla] at HOA HF4 ⊢
      have hla2 : la ≤ 100 := by rw [← hla]; exact HLE.out
      clear hoa hm4 hla HNT HFX
      go_wp2_with fail
      go_loopw [13, 14, 15] (fun iv fv vv wr => ∃ u : Nat, iv = .int .i64 (cntB L0 (·.t) u : Int) ∧ fv = .int .i64 (cntB L0 (·.f) u : Int) ∧ vv = .int .i64 (u : Int) ∧ u ≤ n ∧ Mod (fun _ => False) w4 wr) (fun _ _ vv _ => n - (intOf vv).toNat)
      case atStart => exact ⟨0, by rw [cntB_zero L0 _ (fun b hb => (HOK.out.may b hb).2.2.1)]; rfl, by rw [cntB_zero L0 _ (fun b hb => (HOK.out.may b hb).1)]; rfl, rfl, Nat.zero_le _, Mod.refl _ _⟩
      case round =>
        obtain ⟨u, rfl, rfl, rfl, hu, hmr⟩ := hrel
        obtain ⟨w5, hw5⟩ : ∃ x : World, x = wr := ⟨_, rfl⟩
        subst hw5
        have HMR5 := Lib.hid hmr
        clear hmr
        by_cases hul : u < n
        case pos =>
          have z1 : decide ((u : Int) < (n : Int)) = true := by simp; omega
          have z1n : decide (u < n) = true := by simpa using hul
          have hs1 := cntB_step L0 (·.t) u
          have hs2 := cntB_step L0 (·.f) u
          have hb1 := cntB_le L0 (·.t) (u + 1)
          have hb2 := cntB_le L0 (·.f) (u + 1)
          rw [HLA.out] at hb1 hb2
          obtain ⟨x1, hx1⟩ : ∃ x, cntB L0 (·.t) u = x := ⟨_, rfl⟩
          obtain ⟨x2, hx2⟩ : ∃ x, cntB L0 (·.f) u = x := ⟨_, rfl⟩
          rw [hx1] at hs1 ⊢
          rw [hx2] at hs2 ⊢
          have hq1 : (L0.filter fun b => decide (b.t = (u : Int))).length = (inL L0 (u : Int)).length := rfl
          have hq2 : (L0.filter fun b => decide (b.f = (u : Int))).length = (outL L0 (u : Int)).length := rfl
          obtain ⟨y1, hy1⟩ : ∃ x, (inL L0 (u : Int)).length = x := ⟨_, rfl⟩
          obtain ⟨y2, hy2⟩ : ∃ x, (outL L0 (u : Int)).length = x := ⟨_, rfl⟩
          rw [hq1, hy1] at hs1
          rw [hq2, hy2] at hs2
          have hw1 : IntKind.i64.wrap ((x1 : Int) + (y1 : Int)) = ((cntB L0 (·.t) (u + 1) : Nat) : Int) := by rw [IntWalk.i64_in _ (by omega)]; omega
          have hw2 : IntKind.i64.wrap ((x2 : Int) + (y2 : Int)) = ((cntB L0 (·.f) (u + 1) : Nat) : Int) := by rw [IntWalk.i64_in _ (by omega)]; omega
          have hw3 : IntKind.i64.wrap ((u : Int) + 1) = ((u + 1 : Nat) : Int) := by rw [IntWalk.i64_in _ (by omega)]; omega
          obtain ⟨s1, hs1'⟩ : ∃ x, cntB L0 (·.t) (u + 1) = x := ⟨_, rfl⟩
          obtain ⟨s2, hs2'⟩ : ∃ x, cntB L0 (·.f) (u + 1) = x := ⟨_, rfl⟩
          rw [hs1'] at hw1
          rw [hs2'] at hw2
          have HS1 := Lib.hid hs1'
          have HS2 := Lib.hid hs2'
          have HY1 := Lib.hid hy1
          have HY2 := Lib.hid hy2
          clear hs1 hs2 hb1 hb2 hx1 hx2 hq1 hq2 hy1 hy2 hs1' hs2'
          go_wp2_with fail
          refine (nt_in (HN4.out.later HMR5.out) (u : Int)).mono ?_
          rintro e w6 ⟨a6, c6, rfl, _, hm6⟩
          rw [HY1.out]
          have HM6 := Lib.hid (HMR5.out.of2 hm6)
          clear hm6
          go_wp2_with fail
          refine (nt_out (HN4.out.later HM6.out) (u : Int)).mono ?_
          rintro e w7 ⟨a7, c7, rfl, _, hm7⟩
          rw [HY2.out]
          have HM7 := Lib.hid (HM6.out.of2 hm7)
          clear hm7
          go_wp2_with fail
          go_roundw
          case rel => exact ⟨u + 1, by rw [HS1.out], by rw [HS2.out], rfl, by omega, HM7.out⟩
          case measure => simp [intOf]; omega
        case neg =>
          obtain rfl : u = n := by omega
          have z1 : decide ((u : Int) < (u : Int)) = false := by simp
          rw [cntB_all L0 (·.t) u (fun b hb => (HOK.out.may b hb).2.2.2.1), cntB_all L0 (·.f) u (fun b hb => (HOK.out.may b hb).2.1), HLA.out]
          go_wp2_with fail
          go_loopw [16] (fun iv wr => ∃ i : Nat, iv = .int .i64 (i : Int) ∧ i ≤ la ∧ Mod (fun _ => False) w4 wr) (fun iv _ => la - (intOf iv).toNat)
          case atStart => exact ⟨0, rfl, Nat.zero_le _, HMR5.out⟩
          case round =>
            obtain ⟨i, rfl, hi, hmr⟩ := hrel
            obtain ⟨w6, hw6⟩ : ∃ x : World, x = wr := ⟨_, rfl⟩
            subst hw6
            have HMR6 := Lib.hid hmr
            clear hmr
            by_cases hil : i < la
            case pos =>
              have z2 : decide ((i : Int) < (la : Int)) = true := by simp; omega
              have z2n : decide (i < la) = true := by simpa using hil
              have hiR : i < L0.length := by rw [HLA.out]; exact hil
              have hrd := (Rd.ofOwn HOA.out).keep HMR6.out (fun _ _ e => e)
              obtain ⟨eb, eo, hpe, e0, e1, e2, e3⟩ := rd4 hrd i hiR
              have hwo := wOf_at HOK.out.sort i hiR
              have hmay := HOK.out.may L0[i] (List.getElem_mem hiR)
              have hix := fun wx => run_indexS (P := Try.prog) wx 22 32 iA 4 Try.underlying22 hiA hsA aa la ca i hil (hrd.some_ (by omega))
              rw [hpe] at hix
              have hpv : i ≠ 0 → ∃ pb po x0 x1, (∀ wx, (Instr.indexAt 22 (.slice aa la ca) (.int .i64 (((i - 1 : Nat) : Int)))).run Try.prog wx = .ok (.pointer (some ⟨pb, po, none⟩)) wx) ∧ pb < w6.heap.size ∧ w6.cell? ⟨pb, po, none⟩ = some (.int .i64 x0) ∧ w6.cell? ⟨pb, po + 1, none⟩ = some (.int .i64 x1) ∧ (x0 < L0[i].f ∨ (x0 = L0[i].f ∧ x1 < L0[i].t)) := fun hi0 => by
                obtain ⟨pb, po, hpp, p0, p1, _, _⟩ := rd4 hrd (i - 1) (by omega)
                have hiq := fun wx => run_indexS (P := Try.prog) wx 22 32 iA 4 Try.underlying22 hiA hsA aa la ca (i - 1) (by omega) (hrd.some_ (by omega))
                rw [hpp] at hiq
                exact ⟨pb, po, _, _, hiq, World.block_lt_of_cell? _ _ p0, p0, p1, List.pairwise_iff_getElem.1 HOK.out.sort (i - 1) i (by omega) hiR (by omega)⟩
              obtain ⟨b, hb⟩ : ∃ b, L0[i] = b := ⟨_, rfl⟩
              rw [hb] at e0 e1 e2 e3 hwo hmay hpv
              obtain ⟨f, t, v, mm⟩ := b
              simp only at e0 e1 e2 e3 hwo hpv
              obtain ⟨hf0, hf1, ht0, ht1, hft, hv0, hv1, hmm⟩ : mayA u ⟨f, t, v, mm⟩ := hmay
              simp only at hf0 hf1 ht0 ht1 hft hv0 hv1 hmm
              have hwf : (Lit.int .i64 f).wf = true := (i64_wf _).2 ⟨by omega, by omega⟩
              have hwt : (Lit.int .i64 t).wf = true := (i64_wf _).2 ⟨by omega, by omega⟩
              have HWF := Lib.hid hwf
              have HWT := Lib.hid hwt
              have HWO := Lib.hid hwo
              have HPV := Lib.hid hpv
              have elt := World.block_lt_of_cell? _ _ e0
              have hk1 : IntKind.i64.wrap ((i : Int) + 1) = ((i + 1 : Nat) : Int) := by rw [IntWalk.i64_in _ (by omega)]; omega
              have HK1 := Lib.hid hk1
              clear hf0 hf1 ht0 ht1 hft hv0 hv1 hmm hwf hwt hwo hpv hk1 hb hpe hiR hrd
              go_upto_region 24 with fail
              obtain ⟨g, hg⟩ : ∃ y, w6.heap.size = y := ⟨_, rfl⟩
              obtain ⟨w7, hw7⟩ : ∃ y, w6.alloc (.cells #[.int .i64 f, .int .i64 t, .int .i64 v, .int .i64 mm] 32) = y := ⟨_, rfl⟩
              have hg7 : Blk w7 g 32 [.int .i64 f, .int .i64 t, .int .i64 v, .int .i64 mm] := by rw [← hw7, ← hg]; exact Blk.new w6 32 [.int .i64 f, .int .i64 t, .int .i64 v, .int .i64 mm]
              have hm7 : Mod (fun _ => False) w6 w7 := by rw [← hw7]; exact Mod.alloc _ _ _
              (try rw [hw7])
              (try rw [hg])
              have g0 := hg7.cell 0 rfl
              have g1 := hg7.cell 1 rfl
              have g2 := hg7.cell 2 rfl
              have HM7 := Lib.hid (HMR6.out.of2 hm7)
              have HMC := Lib.hid hm7
              have HF7 := Lib.hid (HF4.out.keep HM7.out (fun e => e))
              have hlk : ∀ k, (Instr.lookup 52 (.map (some mb)) (.agg #[.int .i64 f, .int .i64 t]) false).run Try.prog (w7.drewN k) = .ok (.int .i64 v) (w7.drewN k) := fun k => by
                have := (HF7.out.keep (Mod.drewN (fun _ => False) w7 k) (fun e => e)).look1 (t := 52) Nl.arr Try.underlying3 Nl.rows Try.underlying52 Try.underlying3 (Nl.zeroI _) f t HWF.out HWT.out
                rw [HWO.out] at this
                exact this
              have hvv : (v != v) = false := by simp
              clear hg hw7 hg7 hm7 e0 e1 e2 e3 elt hix
              by_cases hi0 : i = 0
              · subst hi0
                clear HPV
                go_quiet (fail)
                go_wp2_with fail
                go_roundw
                case rel => exact ⟨1, by first | rfl | simp, by omega, HM7.out.of2 (Mod.drewN _ _ _)⟩
                case measure => simp [intOf]; omega
              · obtain ⟨pb, po, x0, x1, hiq, plt, p0, p1, hkk⟩ := HPV.out hi0
                replace p0 := HMC.out.cell p0 (fun e => e)
                replace p1 := HMC.out.cell p1 (fun e => e)
                have z3 : decide ((0 : Int) < (i : Int)) = true := by simp; omega
                have z3n : decide (0 < i) = true := by simp; omega
                have hws : IntKind.i64.wrap ((i : Int) - 1) = ((i - 1 : Nat) : Int) := by rw [IntWalk.i64_in _ (by omega)]; omega
                have hws2 : (i : Int) - 1 = ((i - 1 : Nat) : Int) := by omega
                obtain ⟨i1, hi1⟩ : ∃ y, i - 1 = y := ⟨_, rfl⟩
                rw [hi1] at hws hws2 hiq
                have hk1 := HK1.out
                by_cases hc1 : x0 < f
                · have z6 : decide (f < x0) = false := by simp; omega
                  have z7 : (x0 == f) = false := by simp; omega
                  clear hkk HPV hi0 hi1 hc1
                  go_quiet (fail)
                  go_wp2_with fail
                  go_roundw
                  case rel => exact ⟨i + 1, rfl, by omega, HM7.out.of2 (Mod.drewN _ _ _)⟩
                  case measure => simp [intOf]; omega
                · obtain ⟨hxf, hxt⟩ : x0 = f ∧ x1 < t := by omega
                  have z6 : decide (f < x0) = false := by simp; omega
                  have z7 : (x0 == f) = true := by simp; omega
                  have z8 : decide (t ≤ x1) = false := by simp; omega
                  clear hkk HPV hi0 hi1 hc1 hxf hxt
                  go_quiet (fail)
                  go_wp2_with fail
                  go_roundw
                  case rel => exact ⟨i + 1, rfl, by omega, HM7.out.of2 (Mod.drewN _ _ _)⟩
                  case measure => simp [intOf]; omega
            case neg =>
              obtain rfl : i = la := by omega
              have z2 : decide ((i : Int) < (i : Int)) = false := by simp
              have hlen := fun ty => (HF4.out.keep HMR6.out (fun e => e)).len (t := 52) Try.underlying52 ty
              have heq : (((i : Nat) : Int) == ((i : Nat) : Int)) = true := by simp
              go_wp2_with fail
              refine (awake13_any _).mono ?_
              rintro e w8 ⟨rfl, hm8⟩
              have HM8 := Lib.hid (HM4.out.of2 (HMR6.out.of2 hm8))
              clear hm8
              go_wp2_with fail
              go_ret
              exact ⟨rfl, HM8.out⟩
set_option maxHeartbeats 8000000 in
theorem nlight_law (w : World) (nv : Int) (_ : (Lit.int .i64 nv).wf = true) (a : Option Addr) (ln c : Nat) (T : List T3) (ok : (encSlice enc3).ok w (.slice a ln c, T)) :
    Calls Try.prog 4 #[.int .i64 nv, .slice a ln c] w fun e w' => e = .returned (.bool true) ∧ Below w.heap.size w w' := by
  obtain ⟨hT, hr⟩ := ok_t3 ok
  suffices h : Calls Try.prog 4 #[.int .i64 nv, .slice a ln c] w fun e w' => e = .returned (.bool true) ∧ Mod (fun _ => False) w w' from
    h.mono fun e w' h => ⟨h.1, h.2.below (Nat.le_refl _) (fun _ e => e.elim)⟩
  by_cases hno : ¬ (0 ≤ nv ∧ nv ≤ 40 ∧ ln ≤ 100)
  case pos =>
    clear hr hT ok
    have hend : ∀ (b0 b1 b2 : Bool), decide (nv < 0) = b0 → decide (40 < nv) = b1 → decide (100 < (ln : Int)) = b2 → (b0 || b1 || b2) = true →
        Calls Try.prog 4 #[.int .i64 nv, .slice a ln c] w fun e w' => e = .returned (.bool true) ∧ Mod (fun _ => False) w w' := by
      intro b0 b1 b2 hc0 hc1 hc2 hbb
      clear hno
      cases b0
      · skip
        cases b1
        · skip
          cases b2
          · cases hbb
          · clear hbb 
            go_enter Try.func4, Try.ntmps4
            go_wp2_with fail
            refine (awake13_any _).mono ?_
            rintro e w9 ⟨rfl, hm9⟩
            go_wp2_with fail
            go_ret
            exact ⟨rfl, hm9⟩
        · clear hbb hc2
          go_enter Try.func4, Try.ntmps4
          go_wp2_with fail
          refine (awake13_any _).mono ?_
          rintro e w9 ⟨rfl, hm9⟩
          go_wp2_with fail
          go_ret
          exact ⟨rfl, hm9⟩
      · clear hbb hc1 hc2
        go_enter Try.func4, Try.ntmps4
        go_wp2_with fail
        refine (awake13_any _).mono ?_
        rintro e w9 ⟨rfl, hm9⟩
        go_wp2_with fail
        go_ret
        exact ⟨rfl, hm9⟩
    refine hend _ _ _ rfl rfl rfl ?_
    simp only [Bool.or_eq_true, decide_eq_true_eq]
    omega
  case neg =>
    have hyes := Decidable.not_not.1 hno
    obtain ⟨n, rfl⟩ := Int.eq_ofNat_of_zero_le (show 0 ≤ nv by omega)
    exact nlight_all w n (by omega) a ln c T hT hr (by omega)
end Go.Proofs.Ytnklgeekjkchbaa
