/- SenderActs by contract. -/
import Derived.Test.YtopldodfkcgmhaaSdB
import Derived.Test.YtopldodfkcgmhaaSdW
namespace Go.Proofs.Ytopldodfkcgmhaa
open Go.RowKit Mile Go.Maps
set_option maxRecDepth 100000
abbrev ActS := Int × Int × Int × (Value × List Int) × Unit
def encActS : Enc ActS := encPair (encInt .i64) (encPair (encInt .i64) (encPair (encInt .i64) (encPair (encSlice (encInt .u8)) encUnit)))
theorem opens_actS : Opens Try.prog 37 encActS :=
  opens_struct Try.underlying37 (by kernel_rfl) (opens_cons rfl (by kernel_rfl) (opens_int Try.underlying3) (opens_cons rfl (by kernel_rfl) (opens_int Try.underlying3)
    (opens_cons rfl (by kernel_rfl) (opens_int Try.underlying3) (opens_cons rfl (by kernel_rfl) opens_bytes (opens_nil _ _)))))
theorem opens_actSs : Opens Try.prog 22 (encSlice encActS) := opens_slice Try.underlying22 (by kernel_rfl) opens_actS (by decide)
def cActS (x : ActS) : List Value := [.int .i64 x.1, .int .i64 x.2.1, .int .i64 x.2.2.1, x.2.2.2.1.1]
theorem cActS_eq (x : ActS) : encActS.img x = cActS x := rfl
theorem cActS_at : ∀ (L : List ActS) (i : Nat) (hi : i < L.length), (L.flatMap cActS)[i * 4 + 0]? = some (.int .i64 L[i].1) ∧ (L.flatMap cActS)[i * 4 + 1]? = some (.int .i64 L[i].2.1) ∧ (L.flatMap cActS)[i * 4 + 2]? = some (.int .i64 L[i].2.2.1) ∧ (L.flatMap cActS)[i * 4 + 3]? = some L[i].2.2.2.1.1
  | [], i, hi => by simp at hi
  | x :: l, 0, hi => by simp [cActS]
  | x :: l, i + 1, hi => by
    have := cActS_at l i (by simpa using hi)
    rw [List.flatMap_cons, List.getElem?_append_right (by simp [cActS]; omega), List.getElem?_append_right (by simp [cActS]; omega), List.getElem?_append_right (by simp [cActS]; omega), List.getElem?_append_right (by simp [cActS]; omega)]
    simp only [List.getElem_cons_succ]
    rw [show (i + 1) * 4 + 0 - (cActS x).length = i * 4 + 0 by simp [cActS]; omega, show (i + 1) * 4 + 1 - (cActS x).length = i * 4 + 1 by simp [cActS]; omega, show (i + 1) * 4 + 2 - (cActS x).length = i * 4 + 2 by simp [cActS]; omega, show (i + 1) * 4 + 3 - (cActS x).length = i * 4 + 3 by simp [cActS]; omega]
    exact this
theorem rdActS {w : World} {n c : Nat} {a : Option Addr} {L : List ActS} (h : Rd w 4 (.slice a n c) n (L.flatMap cActS)) (hl : L.length = n) (i : Nat) (hi : i < L.length) :
    ∃ b o, elemA a i 4 = ⟨b, o, none⟩ ∧ w.cell? ⟨b, o, none⟩ = some (.int .i64 L[i].1) ∧ w.cell? ⟨b, o + 1, none⟩ = some (.int .i64 L[i].2.1) ∧ w.cell? ⟨b, o + 2, none⟩ = some (.int .i64 L[i].2.2.1) ∧ w.cell? ⟨b, o + 3, none⟩ = some L[i].2.2.2.1.1 := by
  obtain ⟨b, o, hp, _⟩ := h.place (j := i) (by omega)
  have hg := cActS_at L i hi
  exact ⟨b, o, hp, by have := h.elemN hp 0 hg.1; simpa using this, h.elemN hp 1 hg.2.1, h.elemN hp 2 hg.2.2.1, h.elemN hp 3 hg.2.2.2⟩
/-- How much there can be after j acts. -/
structure Bd (x : SdS) (j : Nat) : Prop where
  n : x.F + x.bs.length ≤ j
  l : x.L.length ≤ j
  b : ∀ b ∈ x.bs, b.length ≤ 30
theorem putW_le (L : List Wt) (x : Wt) : (putW L x).length ≤ L.length + 1 := putW_len _ _
theorem Bd.send {x x' : SdS} {j W B : Nat} {now r e2 : Int} {b : List Int} (h : Bd x j) (hr : SendR W B x now b r e2 x') (hb : b.length ≤ 30) : Bd x' (j + 1) := by
  rcases hr with ⟨_, _, _, rfl⟩ | ⟨_, _, _, _, rfl⟩ | ⟨_, _, _, _, rfl⟩
  · exact ⟨by have := h.n; omega, by have := h.l; omega, h.b⟩
  · exact ⟨by have := h.n; omega, by have := h.l; omega, h.b⟩
  · refine ⟨by have := h.n; simp; omega, Nat.le_trans (putW_le _ _) (by have := h.l; omega), fun c hc => ?_⟩
    rcases List.mem_append.1 hc with hc | hc
    · exact h.b c hc
    · rw [List.mem_singleton] at hc; rw [hc]; exact hb
theorem stopN_len (L : List Wt) (F j : Nat) : (stopN L F j).length ≤ L.length := by
  induction j with
  | zero => exact Nat.le_refl _
  | succ j ih => rw [stopN_succ]; exact Nat.le_trans (stopW_sub _ _).length_le ih
theorem Bd.ack {x : SdS} {j K : Nat} {av : Int} (h : Bd x j) (hK : AckR x av K) : Bd (ackS x K) (j + 1) :=
  ⟨by have := h.n; have := hK.1; simp [ackS]; omega, Nat.le_trans (stopN_len _ _ _) (by have := h.l; omega), fun c hc => h.b c (List.mem_of_mem_drop hc)⟩
theorem Bd.again {x : SdS} {j B M R : Nat} {now : Int} (h : Bd x j) : Bd (againS x B M R now) (j + 1) := by
  unfold againS
  split
  · exact ⟨by have := h.n; omega, by have := h.l; omega, h.b⟩
  · exact ⟨by have := h.n; simp; omega, Nat.le_trans (List.length_filterMap_le _ _) (by have := h.l; omega), h.b⟩
theorem Bd.up {x : SdS} {j : Nat} (h : Bd x j) : Bd x (j + 1) := ⟨by have := h.n; omega, by have := h.l; omega, h.b⟩
theorem againV_len (x : SdS) (R : Nat) (now : Int) : (againV x R now).length ≤ x.L.length := by
  unfold againV
  split
  · exact Nat.zero_le _
  · split
    · exact (rlen_due R x.L now).1
    · exact Nat.zero_le _
set_option maxHeartbeats 64000000 in
theorem sacts_all (w : World) (wv bv tv : Int) (a0 : Option Addr) (m c0 : Nat) (l : List ActS) (hm : l.length = m) (hr : Rd w 4 (.slice a0 m c0) m (l.flatMap cActS)) (hb : ∀ x ∈ l, Rd w 1 x.2.2.2.1.1 x.2.2.2.1.2.length (x.2.2.2.1.2.map (Value.int .u8))) :
    Calls Try.prog 3 #[.int .i64 wv, .int .i64 bv, .int .i64 tv, .slice a0 m c0] w fun e w' => e = .returned (.bool true) ∧ Mod (fun _ => False) w w' := by
  by_cases hno : ¬ (m ≤ 60 ∧ 1 ≤ bv ∧ bv ≤ 50 ∧ 0 ≤ tv ∧ tv ≤ 20)
  case pos =>
    clear hr hm hb
    have hend : ∀ (b0 b1 b2 b3 b4 : Bool), decide (60 < (m : Int)) = b0 → decide (bv < 1) = b1 → decide (50 < bv) = b2 → decide (tv < 0) = b3 → decide (20 < tv) = b4 → (b0 || b1 || b2 || b3 || b4) = true →
        Calls Try.prog 3 #[.int .i64 wv, .int .i64 bv, .int .i64 tv, .slice a0 m c0] w fun e w' => e = .returned (.bool true) ∧ Mod (fun _ => False) w w' := by
      intro b0 b1 b2 b3 b4 hc0 hc1 hc2 hc3 hc4 hbb
      clear hno
      cases b0
      · skip
        cases b1
        · skip
          cases b2
          · skip
            cases b3
            · skip
              cases b4
              · cases hbb
              · clear hbb 
                go_enter Try.func3, Try.ntmps3
                go_wp2_with fail
                refine (awake25_any _).mono ?_
                rintro e w9 ⟨rfl, hm9⟩
                go_wp2_with fail
                go_ret
                exact ⟨rfl, hm9⟩
            · clear hbb hc4
              go_enter Try.func3, Try.ntmps3
              go_wp2_with fail
              refine (awake25_any _).mono ?_
              rintro e w9 ⟨rfl, hm9⟩
              go_wp2_with fail
              go_ret
              exact ⟨rfl, hm9⟩
          · clear hbb hc3 hc4
            go_enter Try.func3, Try.ntmps3
            go_wp2_with fail
            refine (awake25_any _).mono ?_
            rintro e w9 ⟨rfl, hm9⟩
            go_wp2_with fail
            go_ret
            exact ⟨rfl, hm9⟩
        · clear hbb hc2 hc3 hc4
          go_enter Try.func3, Try.ntmps3
          go_wp2_with fail
          refine (awake25_any _).mono ?_
          rintro e w9 ⟨rfl, hm9⟩
          go_wp2_with fail
          go_ret
          exact ⟨rfl, hm9⟩
      · clear hbb hc1 hc2 hc3 hc4
        go_enter Try.func3, Try.ntmps3
        go_wp2_with fail
        refine (awake25_any _).mono ?_
        rintro e w9 ⟨rfl, hm9⟩
        go_wp2_with fail
        go_ret
        exact ⟨rfl, hm9⟩
    refine hend _ _ _ _ _ rfl rfl rfl rfl rfl ?_
    simp only [Bool.or_eq_true, decide_eq_true_eq]
    omega
  case neg =>
  obtain ⟨iI, hiI, hzI, hsI, hbI⟩ := info_parts Tm.info3
  have hinfo : (Try.prog.info? 37).map (fun i => (i.zero, i.size, i.bytes)) = some (some (.agg #[.int .i64 0, .int .i64 0, .int .i64 0, .slice none 0 0]), 4, 48) := by kernel_rfl
  obtain ⟨iA, hiA, hzA, hsA, hbA⟩ := info_parts hinfo
  clear hinfo
  have hyes := Decidable.not_not.1 hno
  clear hno
  obtain ⟨B, rfl⟩ := Int.eq_ofNat_of_zero_le (show 0 ≤ bv by omega)
  obtain ⟨T, rfl⟩ := Int.eq_ofNat_of_zero_le (show 0 ≤ tv by omega)
  have hm60 : m ≤ 60 := by omega
  have hB1 : 1 ≤ B := by omega
  have hB2 : B ≤ 50 := by omega
  have hT2 : T ≤ 20 := by omega
  clear hyes
  have z0 : decide (60 < (m : Int)) = false := by simp; omega
  have z0n : decide (60 < m) = false := by simp; omega
  have z1 : decide ((B : Int) < 1) = false := by simp; omega
  have z2 : decide (50 < (B : Int)) = false := by simp; omega
  have z3 : decide ((T : Int) < 0) = false := by simp
  have z4 : decide (20 < (T : Int)) = false := by simp; omega
  obtain ⟨M, hM⟩ : ∃ x, 4 * B = x := ⟨_, rfl⟩
  have hw4 : IntKind.i64.wrap (4 * (B : Int)) = (M : Int) := by rw [IntWalk.i64_in _ (by omega)]; omega
  have hw4n : 4 * (B : Int) = (M : Int) := by omega
  have hM1 : B ≤ M := by omega
  have hM2 : M ≤ 200 := by omega
  have HLN := Lib.hid hm
  have HRD := Lib.hid hr
  have HBD := Lib.hid hb
  clear hm hr hb hM
  go_enter Try.func3, Try.ntmps3
  go_wp2_with fail
  refine (tmnew_any w B M T hB1 hM1 (by omega) hT2).mono ?_
  rintro e w1 ⟨tp, rfl, h1, htp, hm1⟩
  have H1 := Lib.hid h1
  have HM1 := Lib.hid hm1
  have HTP := Lib.hid htp
  clear h1 hm1 htp
  go_wp2_with fail
  by_cases hwv : 1 ≤ wv ∧ wv ≤ 16
  case neg =>
    have HNO := Lib.hid hwv
    clear hwv
    refine (sdnew_no w1 wv _ (.inl HNO.out)).mono ?_
    rintro e w' ⟨rfl, rfl⟩
    go_wp2_with fail
    refine (rtnew_any w1 B M T hB1 hM1 (by omega) hT2).mono ?_
    rintro e w2 ⟨tq, rfl, _, _, hm2⟩
    have HM2 := Lib.hid hm2
    clear hm2
    go_wp2_with fail
    refine (rsnew_no w2 wv _ HNO.out).mono ?_
    rintro e w' ⟨rfl, rfl⟩
    go_wp2_with fail
    refine (awake25_any _).mono ?_
    rintro e w9 ⟨rfl, hm9⟩
    have HM9 := Lib.hid hm9
    clear hm9
    go_wp2_with fail
    go_ret
    exact ⟨rfl, (HM1.out.of2 HM2.out).of2 HM9.out⟩
  case pos =>
  obtain ⟨W, rfl⟩ := Int.eq_ofNat_of_zero_le (show 0 ≤ wv by omega)
  have hW1 : 1 ≤ W := by omega
  have hW2 : W ≤ 16 := by omega
  clear hwv
  refine (sdnew_any w1 W tp none B M T [] H1.out hW1 hW2).mono ?_
  rintro e w2 ⟨p, rfl, hs, hp, hm2⟩
  have HS2 := Lib.hid hs
  have HP := Lib.hid hp
  have HM2 := Lib.hid (HM1.out.of2 hm2)
  clear hs hp hm2
  go_wp2_with fail
  refine (rtnew_any w2 B M T hB1 hM1 (by omega) hT2).mono ?_
  rintro e w3 ⟨tq, rfl, h3, htq, hm3⟩
  have H3 := Lib.hid h3
  have HTQ := Lib.hid htq
  have HM3 := Lib.hid hm3
  clear h3 htq hm3
  go_wp2_with fail
  refine (rsnew_any w3 W tq B M T hW1 hW2 H3.out).mono ?_
  rintro e w4 ⟨q, rfl, h4, hq, hm4⟩
  have HT : Hid (SSt [] w w4 p tp q tq W B M T ⟨0, false, [], []⟩ ⟨0, false, [], []⟩) := Lib.hid (sst_made HS2.out (Nat.le_trans HM1.out.size HP.out) HTP.out HM2.out HM3.out HTQ.out hm4 h4 hq)
  clear h4 hq hm4 H1 HS2 H3 HP HTQ HTP HM1 HM2 HM3
  go_wp2_with fail
  go_loopw [14] (fun i wr => ∃ (j : Nat) (x : SdS), j ≤ m ∧ i = .int .i64 j ∧ SSt [] w wr p tp q tq W B M T x x ∧ Bd x j) (fun i _ => m - (intOf i).toNat)
  case atStart => exact ⟨0, _, Nat.zero_le _, rfl, HT.out, ⟨Nat.le_refl _, Nat.le_refl _, fun b hb => by simp at hb⟩⟩
  case round =>
    obtain ⟨k, x, hk, rfl, ht, hbd⟩ := hrel
    obtain ⟨wp, hwp⟩ : ∃ y : World, y = wr := ⟨_, rfl⟩
    subst hwp
    have HT2 := Lib.hid ht
    have HBX := Lib.hid hbd
    clear ht hbd HT
    by_cases hlt : k < m
    case neg =>
      have y2 : decide ((k : Int) < (m : Int)) = false := by simp; omega
      have y3 : decide (k < m) = false := by simpa using hlt
      go_wp2_with fail
      refine (awake25_any _).mono ?_
      rintro e w9 ⟨rfl, hm9⟩
      go_wp2_with fail
      go_ret
      exact ⟨rfl, HT2.out.mod.of2 hm9⟩
    case pos =>
      have y2 : decide ((k : Int) < (m : Int)) = true := by simp; omega
      have y3 : decide (k < m) = true := by simpa using hlt
      have hkl : k < l.length := by rw [HLN.out]; exact hlt
      have hrd := HRD.out.keep HT2.out.mod (fun _ _ e => e)
      obtain ⟨eb, eo, hpl, e0, e1, e2, e3⟩ := rdActS hrd HLN.out k hkl
      have hix := fun wx => run_indexS (P := Try.prog) wx 22 37 iA 4 Try.underlying22 hiA hsA a0 m c0 k hlt (hrd.some_ (by omega))
      rw [hpl] at hix
      have hbw := HBD.out _ (List.getElem_mem hkl)
      obtain ⟨kd, hkd⟩ : ∃ y, l[k].1 = y := ⟨_, rfl⟩
      obtain ⟨av, hav⟩ : ∃ y, l[k].2.1 = y := ⟨_, rfl⟩
      obtain ⟨nw, hnw⟩ : ∃ y, l[k].2.2.1 = y := ⟨_, rfl⟩
      obtain ⟨⟨bvl, bl⟩, hbv⟩ : ∃ y, l[k].2.2.2.1 = y := ⟨_, rfl⟩
      rw [hkd] at e0
      rw [hav] at e1
      rw [hnw] at e2
      rw [hbv] at e3 hbw
      replace hbw : Rd w 1 bvl bl.length (bl.map (Value.int .u8)) := hbw
      replace e3 : wp.cell? ⟨eb, eo + 3, none⟩ = some bvl := e3
      obtain ⟨ab, cb, rfl⟩ : ∃ a c, bvl = .slice a bl.length c := by obtain ⟨_, a, c, h, _⟩ := hbw; exact ⟨a, c, h⟩
      obtain ⟨nb, hnb⟩ : ∃ y, bl.length = y := ⟨_, rfl⟩
      rw [hnb] at hbw e3
      have hbr := hbw.keep HT2.out.mod (fun _ _ e => e)
      have HBW := Lib.hid hbw
      clear hkd hav hnw hbv hpl hrd
      have HBX2 : Hid (SSt [(wp.heap.size, 37, [.int .i64 kd, .int .i64 av, .int .i64 nw, .slice ab nb cb])] w (wp.alloc (.cells #[.int .i64 kd, .int .i64 av, .int .i64 nw, .slice ab nb cb] 37)) p tp q tq W B M T x x) := Lib.hid (HT2.out.box 37 [.int .i64 kd, .int .i64 av, .int .i64 nw, .slice ab nb cb])
      have HBR := Lib.hid (hbr.alloc (.cells #[.int .i64 kd, .int .i64 av, .int .i64 nw, .slice ab nb cb] 37))
      have HNB := Lib.hid hnb
      have HMT := Lib.hid HT2.out.mod
      obtain ⟨g, hg⟩ : ∃ y, wp.heap.size = y := ⟨_, rfl⟩
      clear hbr hnb hbw
      go_upto_region 16 with fail
      obtain ⟨wA, hwA⟩ : ∃ y, wp.alloc (.cells #[.int .i64 kd, .int .i64 av, .int .i64 nw, .slice ab nb cb] 37) = y := ⟨_, rfl⟩
      rw [hg, hwA] at HBX2
      rw [hwA] at HBR ⊢
      (try rw [hg])
      have hgb := HBX2.out.guest
      have g0 := hgb.cell 0 rfl
      have g1 := hgb.cell 1 rfl
      have g2 := hgb.cell 2 rfl
      have g3 := hgb.cell 3 rfl
      clear hwA hg e0 e1 e2 e3 hix hgb HT2
      by_cases hnb3 : nb ≤ 30
      case neg =>
        have y4 : decide (30 < (nb : Int)) = true := by simp; omega
        have y5 : decide (30 < nb) = true := by simp; omega
        go_wp2_with fail
        refine (awake25_any _).mono ?_
        rintro e w9 ⟨rfl, hm9⟩
        go_wp2_with fail
        go_ret
        exact ⟨rfl, HBX2.out.mod.of2 hm9⟩
      case pos =>
        have y4 : decide (30 < (nb : Int)) = false := by simp; omega
        have y5 : decide (30 < nb) = false := by simp; omega
        go_wp2_with fail
        refine (round_any nw 1048576 _ (by omega) (by omega)).mono ?_
        rintro e w' ⟨rfl, rfl⟩
        have hn0 := Int.emod_nonneg nw (b := 1048576) (by omega)
        have hn1 := Int.emod_lt_of_pos nw (b := 1048576) (by omega)
        obtain ⟨now, hnow⟩ : ∃ y, nw % 1048576 = y := ⟨_, rfl⟩
        rw [hnow] at hn0 hn1 ⊢
        have HNW : Hid (0 ≤ now ∧ now ≤ 1048576) := Lib.hid ⟨hn0, by omega⟩
        have HGD := Lib.hid HBX2.out.good
        have hxF : x.F ≤ 60 := by have := HBX.out.n; omega
        have hxL : x.L.length ≤ 60 := by have := HBX.out.l; omega
        clear hnow hn0 hn1
        by_cases hk1 : kd = 1
        case pos =>
          subst hk1
          obtain ⟨r, e9, x2, hsr⟩ := sendR_some (B := B) HBX2.out.w16.2 now bl
          have HSR := Lib.hid hsr
          clear hsr
          go_wp2_with fail
          refine (sst_send1 HBX2.out ⟨by omega, by omega⟩ now HNW.out ab nb cb bl HNB.out HBR.out hnb3 r e9 x2 HSR.out).mono ?_
          rintro e w3 ⟨rfl, ht3⟩
          have HT3 := Lib.hid ht3
          have hgb := ht3.guest
          have g1 := hgb.cell 1 rfl
          have g3 := hgb.cell 3 rfl
          have HB3 := Lib.hid (HBW.out.keep ht3.mod (fun _ _ e => e))
          clear ht3 hgb
          go_wp2_with fail
          refine (sst_send2 HT3.out ⟨by omega, by omega⟩ HGD.out.1 now HNW.out ab nb cb bl HNB.out HB3.out hnb3 r e9 x2 HSR.out).mono ?_
          rintro e w4 ⟨rfl, ht4⟩
          have HT4 := Lib.hid ht4
          have g1 := ht4.guest.cell 1 rfl
          clear ht4 HT3 g3
          go_wp2_with fail
          obtain ⟨z, hz⟩ : ∃ y, x2 = y := ⟨_, rfl⟩
          have HZB : Hid (Bd (x2) (k + 1)) := Lib.hid (HBX.out.send HSR.out (by have := HNB.out; omega))
          rw [hz] at HZB HT4
          clear hz
          have hzF : z.F ≤ 1000000 := by have := HZB.out.n; omega
          obtain ⟨k1, hk1⟩ : ∃ y, (bodyV z av).length = y := ⟨_, rfl⟩
          have HK1 := Lib.hid hk1
          obtain ⟨bb, hbb⟩ : ∃ y, bodyB z av = y := ⟨_, rfl⟩
          have hbo1 := sst_body1 HT4.out hzF HZB.out.b av k1 hk1
          rw [hbb] at hbo1
          have HBO1 := Lib.hid hbo1
          clear hbo1 hk1
          go_wp2_with fail
          refine HBO1.out.mono ?_
          rintro e w7 ⟨a7, c7, rfl, hr7, h7, hm7⟩
          have H7 := Lib.hid h7
          have HR7 := Lib.hid hr7
          have g1 := h7.guest.cell 1 rfl
          clear h7 hm7 hr7 HBO1 HT4
          have hbo2 := sst_body2 H7.out hzF av k1 HK1.out
          rw [hbb] at hbo2
          have HBO2 := Lib.hid hbo2
          clear hbo2 hbb
          go_wp2_with fail
          refine HBO2.out.mono ?_
          rintro e w8 ⟨a8, c8, rfl, hr8, rfl⟩
          obtain ⟨Y, hY⟩ : ∃ y, strOf (bodyV z av) = y := ⟨_, rfl⟩
          have k4 := fun n => run_strS (World.drewN w7 n) 35 9 5 Try.underlying35 Try.underlying5 Try.underlying9 (HR7.out.keep (Mod.drewN (fun _ => False) w7 n) (fun _ _ e => e))
          have k5 := fun n => run_strS (World.drewN w7 n) 35 9 5 Try.underlying35 Try.underlying5 Try.underlying9 (hr8.keep (Mod.drewN (fun _ => False) w7 n) (fun _ _ e => e))
          rw [hY] at k4 k5
          have HR1 := Lib.hid (sst_room1 H7.out)
          have HR2 := Lib.hid (sst_room2 H7.out)
          have HSQ := Lib.hid (sst_seq1 H7.out hzF)
          have qn := H7.out.cell2
          obtain ⟨rv, hrv⟩ : ∃ y, roomV W z = y := ⟨_, rfl⟩
          rw [hrv] at HR1 HR2
          obtain ⟨sq, hsq⟩ : ∃ y : Int, ((z.F + z.bs.length : Nat) : Int) = y := ⟨_, rfl⟩
          rw [hsq] at HSQ qn
          clear hr8 hY hrv hsq HBO2
          go_wp2_with fail
          go_quiet ((first | (go_at_call 22; exact Calls.quiet_of (HR1.out _)) | (go_at_call 23; exact Calls.quiet_of (HR2.out _)) | (go_at_call 24; exact Calls.quiet_of (HSQ.out _))))
          go_wp2_with fail
          go_roundw
          case rel => exact ⟨k + 1, z, hlt, by go_num, H7.out.rest.keep (Mod.drewN _ _ _), HZB.out⟩
          case measure => simp [intOf]; omega
        case neg =>
          have x1 : (kd == 1) = false := by simpa using hk1
          by_cases hk2 : kd = 2
          case pos =>
            subst hk2
            obtain ⟨K, hAK⟩ := ackR_some x av
            have HAK := Lib.hid hAK
            clear hAK
            have HD := Lib.hid (HBX2.out.keep (Mod.drew (fun _ => False) wA))
            go_upto_region 26 with fail
            go_region_law (first | (go_simp; go_at_call 15; refine (sst_acked1 HD.out (by omega) av K HAK.out).mono ?_; rintro e wb ⟨rfl, hs⟩; have g1b := hs.guest.cell 1 rfl; have HS3 := Lib.hid hs; clear hs) | (go_simp; go_at_call 16; refine (sst_acked2 HS3.out ⟨by omega, by omega⟩ av K HAK.out).mono ?_; rintro e wc ⟨rfl, hs⟩; have g1c := hs.guest.cell 1 rfl; have HS4 := Lib.hid hs; clear hs HS3 g1b))
            all_goals
              go_wp2_with fail
              obtain ⟨z, hz⟩ : ∃ y, ackS x K = y := ⟨_, rfl⟩
              have HZB : Hid (Bd (ackS x K) (k + 1)) := Lib.hid (HBX.out.ack HAK.out)
              rw [hz] at HZB HS4
              clear hz
              have hzF : z.F ≤ 1000000 := by have := HZB.out.n; omega
              obtain ⟨k1, hk1⟩ : ∃ y, (bodyV z av).length = y := ⟨_, rfl⟩
              have HK1 := Lib.hid hk1
              obtain ⟨bb, hbb⟩ : ∃ y, bodyB z av = y := ⟨_, rfl⟩
              have hbo1 := sst_body1 HS4.out hzF HZB.out.b av k1 hk1
              rw [hbb] at hbo1
              have HBO1 := Lib.hid hbo1
              clear hbo1 hk1
              go_wp2_with fail
              refine HBO1.out.mono ?_
              rintro e w7 ⟨a7, c7, rfl, hr7, h7, hm7⟩
              have H7 := Lib.hid h7
              have HR7 := Lib.hid hr7
              have g1 := h7.guest.cell 1 rfl
              clear h7 hm7 hr7 HBO1 HS4
              have hbo2 := sst_body2 H7.out hzF av k1 HK1.out
              rw [hbb] at hbo2
              have HBO2 := Lib.hid hbo2
              clear hbo2 hbb
              go_wp2_with fail
              refine HBO2.out.mono ?_
              rintro e w8 ⟨a8, c8, rfl, hr8, rfl⟩
              obtain ⟨Y, hY⟩ : ∃ y, strOf (bodyV z av) = y := ⟨_, rfl⟩
              have k4 := fun n => run_strS (World.drewN w7 n) 35 9 5 Try.underlying35 Try.underlying5 Try.underlying9 (HR7.out.keep (Mod.drewN (fun _ => False) w7 n) (fun _ _ e => e))
              have k5 := fun n => run_strS (World.drewN w7 n) 35 9 5 Try.underlying35 Try.underlying5 Try.underlying9 (hr8.keep (Mod.drewN (fun _ => False) w7 n) (fun _ _ e => e))
              rw [hY] at k4 k5
              have HR1 := Lib.hid (sst_room1 H7.out)
              have HR2 := Lib.hid (sst_room2 H7.out)
              have HSQ := Lib.hid (sst_seq1 H7.out hzF)
              have qn := H7.out.cell2
              obtain ⟨rv, hrv⟩ : ∃ y, roomV W z = y := ⟨_, rfl⟩
              rw [hrv] at HR1 HR2
              obtain ⟨sq, hsq⟩ : ∃ y : Int, ((z.F + z.bs.length : Nat) : Int) = y := ⟨_, rfl⟩
              rw [hsq] at HSQ qn
              clear hr8 hY hrv hsq HBO2
              go_wp2_with fail
              go_quiet ((first | (go_at_call 22; exact Calls.quiet_of (HR1.out _)) | (go_at_call 23; exact Calls.quiet_of (HR2.out _)) | (go_at_call 24; exact Calls.quiet_of (HSQ.out _))))
              go_wp2_with fail
              go_roundw
              case rel => exact ⟨k + 1, z, hlt, by go_num, H7.out.rest.keep (Mod.drewN _ _ _), HZB.out⟩
              case measure => simp [intOf]; omega
          case neg =>
            have x2 : (kd == 2) = false := by simpa using hk2
            by_cases hk3 : kd = 3
            case pos =>
              subst hk3
              obtain ⟨k5, hk5⟩ : ∃ y, (againV x T now).length = y := ⟨_, rfl⟩
              have hk5b : k5 ≤ 60 := by have := againV_len x T now; omega
              obtain ⟨cv, hcv⟩ : ∃ y, againC x T now = y := ⟨_, rfl⟩
              have HA1 := Lib.hid (sst_again1 HBX2.out (by omega) now HNW.out k5 hk5)
              have HK5 := Lib.hid hk5
              have HCV := Lib.hid hcv
              rw [hcv] at HA1
              clear hk5 hcv
              go_wp2_with fail
              refine HA1.out.mono ?_
              rintro e w3 ⟨a3, c3, rfl, hr3, hq3, ht3⟩
              have HT3 := Lib.hid ht3
              have HR3 := Lib.hid hr3
              have HQ3 := Lib.hid hq3
              have g1 := ht3.guest.cell 1 rfl
              clear ht3 hr3 hq3 HBX2 HA1
              have HA2 := Lib.hid (sst_again2 HT3.out (by omega) HGD.out.2 now HNW.out k5 HK5.out)
              rw [HCV.out] at HA2
              go_wp2_with fail
              refine HA2.out.mono ?_
              rintro e w4 ⟨a4, c4, rfl, hr4, ht4, hm4⟩
              have HT4 := Lib.hid ht4
              have HR4 := Lib.hid hr4
              have HR3b := Lib.hid (HR3.out.keep hm4 (fun k hk e => e.elim (HQ3.out k hk).1 (HQ3.out k hk).2))
              have g1 := ht4.guest.cell 1 rfl
              clear ht4 hr4 hm4 HT3 HA2 HR3
              go_wp2_with fail
              refine (ints_same _ a3 k5 c3 _ HK5.out HR3b.out a4 k5 c4 _ HK5.out HR4.out (by omega) true (decide_eq_true rfl)).mono ?_
              rintro e w5 ⟨rfl, hm5⟩
              have HT5 := Lib.hid (HT4.out.keep hm5)
              have g1 := HT5.out.guest.cell 1 rfl
              clear hm5 HT4 HR3b HR4
              go_wp2_with fail
              obtain ⟨z, hz⟩ : ∃ y, againS x B M T now = y := ⟨_, rfl⟩
              have HZB : Hid (Bd (againS x B M T now) (k + 1)) := Lib.hid (HBX.out.again)
              rw [hz] at HZB HT5
              clear hz
              have hzF : z.F ≤ 1000000 := by have := HZB.out.n; omega
              obtain ⟨k1, hk1⟩ : ∃ y, (bodyV z av).length = y := ⟨_, rfl⟩
              have HK1 := Lib.hid hk1
              obtain ⟨bb, hbb⟩ : ∃ y, bodyB z av = y := ⟨_, rfl⟩
              have hbo1 := sst_body1 HT5.out hzF HZB.out.b av k1 hk1
              rw [hbb] at hbo1
              have HBO1 := Lib.hid hbo1
              clear hbo1 hk1
              go_wp2_with fail
              refine HBO1.out.mono ?_
              rintro e w7 ⟨a7, c7, rfl, hr7, h7, hm7⟩
              have H7 := Lib.hid h7
              have HR7 := Lib.hid hr7
              have g1 := h7.guest.cell 1 rfl
              clear h7 hm7 hr7 HBO1 HT5
              have hbo2 := sst_body2 H7.out hzF av k1 HK1.out
              rw [hbb] at hbo2
              have HBO2 := Lib.hid hbo2
              clear hbo2 hbb
              go_wp2_with fail
              refine HBO2.out.mono ?_
              rintro e w8 ⟨a8, c8, rfl, hr8, rfl⟩
              obtain ⟨Y, hY⟩ : ∃ y, strOf (bodyV z av) = y := ⟨_, rfl⟩
              have k4 := fun n => run_strS (World.drewN w7 n) 35 9 5 Try.underlying35 Try.underlying5 Try.underlying9 (HR7.out.keep (Mod.drewN (fun _ => False) w7 n) (fun _ _ e => e))
              have k5 := fun n => run_strS (World.drewN w7 n) 35 9 5 Try.underlying35 Try.underlying5 Try.underlying9 (hr8.keep (Mod.drewN (fun _ => False) w7 n) (fun _ _ e => e))
              rw [hY] at k4 k5
              have HR1 := Lib.hid (sst_room1 H7.out)
              have HR2 := Lib.hid (sst_room2 H7.out)
              have HSQ := Lib.hid (sst_seq1 H7.out hzF)
              have qn := H7.out.cell2
              obtain ⟨rv, hrv⟩ : ∃ y, roomV W z = y := ⟨_, rfl⟩
              rw [hrv] at HR1 HR2
              obtain ⟨sq, hsq⟩ : ∃ y : Int, ((z.F + z.bs.length : Nat) : Int) = y := ⟨_, rfl⟩
              rw [hsq] at HSQ qn
              clear hr8 hY hrv hsq HBO2
              go_wp2_with fail
              go_quiet ((first | (go_at_call 22; exact Calls.quiet_of (HR1.out _)) | (go_at_call 23; exact Calls.quiet_of (HR2.out _)) | (go_at_call 24; exact Calls.quiet_of (HSQ.out _))))
              go_wp2_with fail
              go_roundw
              case rel => exact ⟨k + 1, z, hlt, by go_num, H7.out.rest.keep (Mod.drewN _ _ _), HZB.out⟩
              case measure => simp [intOf]; omega
            case neg =>
              have x3 : (kd == 3) = false := by simpa using hk3
              obtain ⟨z, hz⟩ : ∃ y, x = y := ⟨_, rfl⟩
              have HZB : Hid (Bd (x) (k + 1)) := Lib.hid (HBX.out.up)
              rw [hz] at HZB HBX2
              clear hz
              have hzF : z.F ≤ 1000000 := by have := HZB.out.n; omega
              obtain ⟨k1, hk1⟩ : ∃ y, (bodyV z av).length = y := ⟨_, rfl⟩
              have HK1 := Lib.hid hk1
              obtain ⟨bb, hbb⟩ : ∃ y, bodyB z av = y := ⟨_, rfl⟩
              have hbo1 := sst_body1 HBX2.out hzF HZB.out.b av k1 hk1
              rw [hbb] at hbo1
              have HBO1 := Lib.hid hbo1
              clear hbo1 hk1
              go_wp2_with fail
              refine HBO1.out.mono ?_
              rintro e w7 ⟨a7, c7, rfl, hr7, h7, hm7⟩
              have H7 := Lib.hid h7
              have HR7 := Lib.hid hr7
              have g1 := h7.guest.cell 1 rfl
              clear h7 hm7 hr7 HBO1 HBX2
              have hbo2 := sst_body2 H7.out hzF av k1 HK1.out
              rw [hbb] at hbo2
              have HBO2 := Lib.hid hbo2
              clear hbo2 hbb
              go_wp2_with fail
              refine HBO2.out.mono ?_
              rintro e w8 ⟨a8, c8, rfl, hr8, rfl⟩
              obtain ⟨Y, hY⟩ : ∃ y, strOf (bodyV z av) = y := ⟨_, rfl⟩
              have k4 := fun n => run_strS (World.drewN w7 n) 35 9 5 Try.underlying35 Try.underlying5 Try.underlying9 (HR7.out.keep (Mod.drewN (fun _ => False) w7 n) (fun _ _ e => e))
              have k5 := fun n => run_strS (World.drewN w7 n) 35 9 5 Try.underlying35 Try.underlying5 Try.underlying9 (hr8.keep (Mod.drewN (fun _ => False) w7 n) (fun _ _ e => e))
              rw [hY] at k4 k5
              have HR1 := Lib.hid (sst_room1 H7.out)
              have HR2 := Lib.hid (sst_room2 H7.out)
              have HSQ := Lib.hid (sst_seq1 H7.out hzF)
              have qn := H7.out.cell2
              obtain ⟨rv, hrv⟩ : ∃ y, roomV W z = y := ⟨_, rfl⟩
              rw [hrv] at HR1 HR2
              obtain ⟨sq, hsq⟩ : ∃ y : Int, ((z.F + z.bs.length : Nat) : Int) = y := ⟨_, rfl⟩
              rw [hsq] at HSQ qn
              clear hr8 hY hrv hsq HBO2
              go_wp2_with fail
              go_quiet ((first | (go_at_call 22; exact Calls.quiet_of (HR1.out _)) | (go_at_call 23; exact Calls.quiet_of (HR2.out _)) | (go_at_call 24; exact Calls.quiet_of (HSQ.out _))))
              go_wp2_with fail
              go_roundw
              case rel => exact ⟨k + 1, z, hlt, by go_num, H7.out.rest.keep (Mod.drewN _ _ _), HZB.out⟩
              case measure => simp [intOf]; omega
theorem sacts_law (w : World) (wv : Int) (_ : (Lit.int .i64 wv).wf = true) (bv : Int) (_ : (Lit.int .i64 bv).wf = true) (tv : Int) (_ : (Lit.int .i64 tv).wf = true) (a0 : Option Addr) (m c0 : Nat) (l : List ActS) (ok : (encSlice encActS).ok w (.slice a0 m c0, l)) :
    Calls Try.prog 3 #[.int .i64 wv, .int .i64 bv, .int .i64 tv, .slice a0 m c0] w fun e w' => e = .returned (.bool true) ∧ Below w.heap.size w w' := by
  obtain ⟨hr, hp⟩ := ok
  have hr' : Rd w 4 (.slice a0 m c0) l.length (l.flatMap encActS.img) := hr
  have hn := hr'.len_eq
  subst hn
  exact (sacts_all w wv bv tv a0 _ c0 l rfl hr' (fun x hx => (by have h : Rd w 1 x.2.2.2.1.1 x.2.2.2.1.2.length (x.2.2.2.1.2.flatMap fun y => [Value.int .u8 y]) := (hp x hx).2.2.2.1.1; simpa [List.map_eq_flatMap] using h))).mono fun e w' h => ⟨h.1, h.2.below (Nat.le_refl _) (fun _ e => e.elim)⟩
end Go.Proofs.Ytopldodfkcgmhaa
