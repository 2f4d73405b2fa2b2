/- levels.Build by contract. -/
import Derived.Test.YtjjedebjbgpimaaGreatKLv
namespace Go.Proofs.YtjjedebjbgpimaaGreat
open Go.RowKit Mile
set_option maxRecDepth 100000
attribute [local go_sem] Oper.semAt_some
def LI (w0 : World) (n : Nat) (L : List Ar) (s : Value) (W : World) : Prop :=
  ∃ pl tl rd mb FT, s = .pointer (some ⟨pl, 0, none⟩) ∧ LvM W pl tl rd mb n L [] FT ∧ rd < W.heap.size ∧ (pl ≠ rd ∧ pl ≠ mb ∧ rd ≠ mb) ∧ (∀ k, (k = pl ∨ k = rd ∨ k = mb) → ¬ FT k) ∧ (∀ k, lvF pl rd mb FT k → w0.heap.size ≤ k) ∧ Mod (fun _ => False) w0 W
theorem li_mk {w0 wa X Z : World} {n tl mb : Nat} {L : List Ar} {FT : Nat → Prop} (hnt : NT wa tl n L FT) (hF : ∀ k, FT k → w0.heap.size ≤ k) (h0 : Mod (fun _ => False) w0 wa) (h1 : Mod (fun _ => False) wa X) (h2 : Mod (fun _ => False) (X.alloc (.cells (madeCells #[Value.int .i64 0] n) 3)) Z) (hmb : NoMap Z mb) (hmn : wa.heap.size ≤ mb) :
    LI w0 n L (.pointer (some ⟨Z.heap.size, 0, none⟩)) (Z.alloc (.cells #[.pointer (some ⟨tl, 0, none⟩), .slice (some ⟨X.heap.size, 0, none⟩) n n, .map (some mb)] 43)) := by
  have h512 := hnt.n512
  have hr := own_zrow X 3 (.int .i64 0) n X.heap.size rfl (by omega)
  have hrow : Blk (X.alloc (.cells (madeCells #[Value.int .i64 0] n) 3)) X.heap.size 3 (madeCells #[Value.int .i64 0] n).toList := by
    have := Blk.new X 3 (madeCells #[Value.int .i64 0] n).toList
    simpa using this
  have hne := hmb.not (BlT.blk (hrow.keep h2 (fun e => e)))
  have hz1 := h1.size
  have hz0 := h0.size
  have hzx : (X.alloc (.cells (madeCells #[Value.int .i64 0] n) 3)).heap.size = X.heap.size + 1 := heap_size_alloc _ _
  have hz2 := h2.size
  have hzz : (Z.alloc (.cells #[.pointer (some ⟨tl, 0, none⟩), .slice (some ⟨X.heap.size, 0, none⟩) n n, .map (some mb)] 43)).heap.size = Z.heap.size + 1 := heap_size_alloc _ _
  have hma : Mod (fun _ => False) Z (Z.alloc (.cells #[.pointer (some ⟨tl, 0, none⟩), .slice (some ⟨X.heap.size, 0, none⟩) n n, .map (some mb)] 43)) := Mod.alloc _ _ _
  have hml := hmb.lt
  have hFl := hnt.lt
  have hxa : Mod (fun _ => False) X (X.alloc (.cells (madeCells #[Value.int .i64 0] n) 3)) := Mod.alloc _ _ _
  have hall : Mod (fun _ => False) wa (Z.alloc (.cells #[.pointer (some ⟨tl, 0, none⟩), .slice (some ⟨X.heap.size, 0, none⟩) n n, .map (some mb)] 43)) := ((h1.of2 hxa).of2 h2).of2 hma
  refine ⟨Z.heap.size, tl, X.heap.size, mb, FT, rfl, ⟨Blk.new Z 43 [.pointer (some ⟨tl, 0, none⟩), .slice (some ⟨X.heap.size, 0, none⟩) n n, .map (some mb)], hnt.later hall, ?_, hmb.keep hma (fun e => e), by omega⟩, by omega, ⟨by omega, by omega, fun e => hne e.symm⟩, fun k hk e => ?_, fun k hk => ?_, h0.of2 hall⟩
  · rw [rkL_nil, List.map_replicate]
    exact Own.keep (Own.keep hr h2 (fun _ _ e => e)) hma (fun _ _ e => e)
  · have := hFl k e
    omega
  · rcases hk with rfl | rfl | rfl | hk
    · omega
    · omega
    · omega
    · exact hF k hk
theorem bi_mk {w0 wx wa wb X : World} {n pl tl rd mb pr tc : Nat} {L : List Ar} {D : Nat → Int → List Int} {F FC FT : Nat → Prop} (hlv : LvM wx pl tl rd mb n L [] FT) (hrd : rd < wx.heap.size) (hne : pl ≠ rd ∧ pl ≠ mb ∧ rd ≠ mb) (hap : ∀ k, (k = pl ∨ k = rd ∨ k = mb) → ¬ FT k) (hlow : ∀ k, lvF pl rd mb FT k → w0.heap.size ≤ k) (hm0 : Mod (fun _ => False) w0 wx)
    (hnc : NT wa tc n L FC) (hFC : ∀ k, FC k → wx.heap.size ≤ k) (hma : Mod (fun _ => False) wx wa) (hro : RO wb pr tc n L D F) (hF : ∀ k, F k → wa.heap.size ≤ k) (hmb : Mod (fun _ => False) wa wb) (hmx : Mod (fun _ => False) wb X) :
    BI w0 n pl tl rd mb pr tc X.heap.size L L [] D F FC FT (X.alloc (.cells (madeCells #[Value.bool false] n) 4)) := by
  have h512 := hnc.n512
  have hr := own_zrow X 4 (.bool false) n X.heap.size rfl (by omega)
  have hxa : Mod (fun _ => False) X (X.alloc (.cells (madeCells #[Value.bool false] n) 4)) := Mod.alloc _ _ _
  have hzx : (X.alloc (.cells (madeCells #[Value.bool false] n) 4)).heap.size = X.heap.size + 1 := heap_size_alloc _ _
  have hza := hma.size
  have hzb := hmb.size
  have hzm := hmx.size
  have hz0 := hm0.size
  have hFCl := hnc.lt
  have hFl := hro.lt
  have hTl := hlv.net.lt
  have hbl := hlv.blk.lt
  have hml := hlv.map.lt
  refine ⟨hro.later (hmx.of2 hxa), hnc.later ((hmb.of2 hmx).of2 hxa), hlv.keep (((hma.of2 hmb).of2 hmx).of2 hxa) (fun _ _ e => e), by rw [dnL_nil, List.map_replicate]; exact hr, ⟨by omega, by omega⟩, fun k hk e => ?_, fun k hk e => ?_, fun k hk e => ?_, fun k hk => ?_, ⟨hne.1, by omega, hne.2.1, by omega, hne.2.2, by omega⟩, fun k hk => ?_, ((hm0.of2 hma).of2 hmb).of2 (hmx.of2 hxa)⟩
  · have := hFCl k hk; have := hF k e; omega
  · have := hTl k hk; have := hF k e; omega
  · have := hTl k hk; have := hFC k e; omega
  · rcases hk with hk | hk | hk | hk
    · exact ⟨fun e => by have := hF k e; omega, fun e => by have := hFC k e; omega, hap k (.inl hk)⟩
    · exact ⟨fun e => by have := hF k e; omega, fun e => by have := hFC k e; omega, hap k (.inr (.inl hk))⟩
    · exact ⟨fun e => by have := hFl k e; omega, fun e => by have := hFCl k e; omega, fun e => by have := hTl k e; omega⟩
    · exact ⟨fun e => by have := hF k e; omega, fun e => by have := hFC k e; omega, hap k (.inr (.inr hk))⟩
  · rcases hk with hk | hk | hk | hk | hk | hk | hk
    · have := hF k hk; omega
    · have := hFC k hk; omega
    · exact hlow k (.inr (.inr (.inr hk)))
    · exact hlow k (.inl hk)
    · exact hlow k (.inr (.inl hk))
    · omega
    · exact hlow k (.inr (.inr (.inl hk)))
def BuP (n : Nat) (P : List Ar → Nat → Int → List Int) (L : List Ar) (w : World) (e : Ending) (w' : World) : Prop :=
  ∃ p F, e = .returned (.pointer (some ⟨p, 0, none⟩)) ∧ LO w' p n (bAt n P L n).T (bAt n P L n).V F ∧ (∀ k, F k → w.heap.size ≤ k) ∧ Mod (fun _ => False) w w'
theorem scR_len {n : Nat} {L : List Ar} (hok : NetOk n L) (h512 : n ≤ 512) (D : Nat → Int → List Int) (v : Nat) : (scR D L (v : Int)).length ≤ 1000000 := by
  have h1 := scI_len D L (v : Int) (inL L (v : Int))
  have h2 := inL_len hok (v : Int)
  have h3 := outL_len hok (v : Int)
  have h4 := Nat.mul_le_mul h2 h3
  have h5 : n * n ≤ 512 * 512 := Nat.mul_le_mul h512 h512
  have h6 : (scR D L (v : Int)).length = (scI D L (v : Int) (inL L (v : Int))).length := rfl
  omega
theorem elemA_lit1 (b j : Nat) : elemA (some ⟨b, 0, none⟩) j 1 = ⟨b, j, none⟩ := by simp [elemA, Addr.add_lit]
set_option maxHeartbeats 16000000 in
theorem build_any {w : World} {tp n : Nat} {L : List Ar} {FN : Nat → Prop} (hN : NT w tp n L FN) (hmid : ∀ a ∈ L, a.m < 0) (P : List Ar → Nat → Int → List Int) (hP : ∀ L, DOk n L (P L)) :
    Calls Tryz.prog 16 #[.pointer (some ⟨tp, 0, none⟩)] w (BuP n P L w) := by
  obtain ⟨iI, hiI, hzI, hsI, hbI⟩ := info_parts Nt.infoI
  obtain ⟨iB, hiB, hzB, hsB, hbB⟩ := info_parts infoBoF
  obtain ⟨iA, hiA, hzA, hsA, hbA⟩ := info_parts Nt.infoA
  have h512 := hN.n512
  have hmkI : ∀ wx, (Instr.makeSlice 40 (.int .i64 (n : Int)) (.int .i64 (n : Int))).run Tryz.prog wx = .ok (.slice (some ⟨wx.heap.size, 0, none⟩) n n) (wx.alloc (.cells (madeCells #[Value.int .i64 0] n) 3)) := fun wx => by
    have h := run_make (P := Tryz.prog) (w := wx) 40 3 iI (.int .i64 0) Tryz.underlying40 hiI hzI .i64 .i64 (n : Int) (n : Int) (by omega) (Int.le_refl _) (by rw [hbI]; omega) (by omega)
    rw [hsI, show (Value.int .i64 0).cells = #[Value.int .i64 0] from rfl] at h
    simpa using h
  have hmkB : ∀ wx, (Instr.makeSlice 48 (.int .i64 (n : Int)) (.int .i64 (n : Int))).run Tryz.prog wx = .ok (.slice (some ⟨wx.heap.size, 0, none⟩) n n) (wx.alloc (.cells (madeCells #[Value.bool false] n) 4)) := fun wx => by
    have h := run_make (P := Tryz.prog) (w := wx) 48 4 iB (.bool false) Tryz.underlying48 hiB hzB .i64 .i64 (n : Int) (n : Int) (by omega) (Int.le_refl _) (by rw [hbB]; omega) (by omega)
    rw [hsB, show (Value.bool false).cells = #[Value.bool false] from rfl] at h
    simpa using h
  have hLl : L.length ≤ 1000000 := by
    have h1 := net_len hN.ok
    have h2 : n * n ≤ 512 * 512 := Nat.mul_le_mul h512 h512
    omega
  have HN := Lib.hid hN
  have HMI := Lib.hid hmid
  have HP := Lib.hid hP
  have HCP : Hid (∀ W, Mod (fun _ => False) w W → Calls Tryz.prog 53 #[.pointer (some ⟨tp, 0, none⟩)] W fun e w' => NewN n L W e w') := Lib.hid fun W hW => nt_copy (hN.later hW)
  have HLN : Hid (∀ W, Mod (fun _ => False) w W → Calls Tryz.prog 27 #[.pointer (some ⟨tp, 0, none⟩)] W fun e w' => e = .returned (.int .i64 (n : Int)) ∧ W = w') := Lib.hid fun W hW => nt_len (hN.later hW)
  have HAL : Hid (∀ W, Mod (fun _ => False) w W → Calls Tryz.prog 18 #[.pointer (some ⟨tp, 0, none⟩)] W fun e w' => NewR 50 4 L.length (L.flatMap c4) W e w') := Lib.hid fun W hW => nt_all (hN.later hW)
  clear hN hmid hP
  go_enter Tryz.func16, Tryz.ntmps16
  go_upto_region 3 with fail
  go_cut [3] (fun s wx => LI w n L s wx)
  case first =>
    go_region_law (first
      | (go_simp; go_at_call 53; refine (HCP.out _ (Mod.drew _ _)).mono ?_; rintro e wa ⟨tl, FT, rfl, hnt, hFT, hma⟩; have HA := Lib.hid (And.intro hnt (And.intro hFT ((Mod.drew (fun _ => False) w).of2 hma))); clear hnt hFT hma)
      | (go_simp; go_at_call 27; refine (HLN.out _ HA.out.2.2).mono ?_; rintro e wl ⟨rfl, rfl⟩)
      | (go_simp; go_at_call 18; refine (HAL.out _ (by first | exact HA.out.2.2 | exact HA.out.2.2.thenAlloc _)).mono ?_; rintro e wc ⟨aa, ca, rfl, hoa, hmc⟩; have HC := Lib.hid (And.intro hoa hmc); clear hoa hmc)
      | (go_simp; go_at_call 54; refine (withMid_any _ aa L.length ca L rfl (by first | exact Rd.ofOwn HC.out.1 | exact (Rd.ofOwn HC.out.1).keep (Mod.alloc (fun _ => False) _ _) (fun _ _ e => e)) hLl HMI.out).mono ?_; rintro e wd ⟨mb, rfl, hmbl, hmb, hmd⟩; have HW := Lib.hid (And.intro hmbl (And.intro hmb hmd)); clear hmbl hmb hmd))
    all_goals
      (try go_wp2_with fail)
      go_meet
    all_goals
      have hzc := HC.out.2.size
      have hzA : (wa.alloc (.cells (madeCells #[Value.int .i64 0] n) 3)).heap.size = wa.heap.size + 1 := heap_size_alloc _ _
      have hzC : (wc.alloc (.cells (madeCells #[Value.int .i64 0] n) 3)).heap.size = wc.heap.size + 1 := heap_size_alloc _ _
      have hwm := HW.out.1
      first
        | exact li_mk (w0 := w) (wa := wa) (X := wa) (Z := wd) HA.out.1 (fun k hk => HA.out.2.1 k hk) HA.out.2.2 (Mod.refl _ _) (HC.out.2.of2 HW.out.2.2) HW.out.2.1 (by omega)
        | exact li_mk (w0 := w) (wa := wa) (X := wc) (Z := wd) HA.out.1 (fun k hk => HA.out.2.1 k hk) HA.out.2.2 HC.out.2 HW.out.2.2 HW.out.2.1 (by omega)
        | (have h := li_mk (w0 := w) (wa := wa) (X := wd) (Z := wd.alloc (.cells (madeCells #[Value.int .i64 0] n) 3)) HA.out.1 (fun k hk => HA.out.2.1 k hk) HA.out.2.2 (HC.out.2.of2 HW.out.2.2) (Mod.refl _ _) (HW.out.2.1.keep (Mod.alloc (fun _ => False) _ _) (fun e => e)) (by omega)
           rw [heap_size_alloc] at h
           exact h)
  case rest =>
    obtain ⟨pl, tl, rd, mb, FT, rfl, hlv, hrd, hne, hap, hlow, hm0⟩ := hcut
    have HL := Lib.hid (And.intro hlv (And.intro hrd (And.intro hne (And.intro hap (And.intro hlow hm0)))))
    clear hlv hrd hne hap hlow hm0
    go_upto_region 4 with fail
    go_cut [4, 5] (fun s g wx => ∃ pr tc gd F FC FT, s = .pointer (some ⟨pr, 0, none⟩) ∧ g = .slice (some ⟨gd, 0, none⟩) n n ∧ BI w n pl tl rd mb pr tc gd L L [] (P L) F FC FT wx)
    case first =>
      go_region_law (first
        | (go_simp; go_at_call 53; refine (HCP.out _ (HL.out.2.2.2.2.2.of2 (Mod.drew _ _))).mono ?_; rintro e wa ⟨tc, FC, rfl, hnt, hFC, hma⟩; have HA := Lib.hid (And.intro hnt (And.intro hFC ((Mod.drew (fun _ => False) _).of2 hma))); clear hnt hFC hma)
        | (go_simp; go_at_call 55; refine (begin_any HA.out.1 (P L)).mono ?_; rintro e wb ⟨pr, F, rfl, hro, hF, hmb⟩; have HB := Lib.hid (And.intro hro (And.intro hF hmb)); clear hro hF hmb)
        | (go_simp; go_at_call 27; refine (HLN.out _ ((HL.out.2.2.2.2.2.of2 HA.out.2.2).of2 HB.out.2.2)).mono ?_; rintro e wl ⟨rfl, rfl⟩))
      all_goals
        (try go_wp2_with fail)
        go_meet
      all_goals
        obtain ⟨hlv, hrd, hne, hap, hlow, hm0⟩ := HL.out
        exact ⟨pr, tc, wb.heap.size, F, FC, FT, rfl, rfl, bi_mk (X := wb) hlv hrd hne hap hlow hm0 HA.out.1 (fun k hk => HA.out.2.1 k hk) HA.out.2.2 HB.out.1 HB.out.2.1 HB.out.2.2 (Mod.refl _ _)⟩
    case rest =>
      obtain ⟨pr, tc, gd, F, FC, FT2, rfl, rfl, hbi⟩ := hcut
      have HBI := Lib.hid hbi
      have HL2 := Lib.hid (HLN.out _ hbi.md)
      clear hbi HL hmkI hmkB
      go_wp2_with fail
      refine HL2.out.mono ?_
      rintro e wl ⟨rfl, rfl⟩
      clear HL2
      go_wp2_with fail
      go_loopw [30] (fun i wr => ∃ (k : Nat) (F FC FT : Nat → Prop), k ≤ n ∧ i = .int .i64 k ∧ BI w n pl tl rd mb pr tc gd (bAt n P L k).C (bAt n P L k).T (bAt n P L k).V (P (bAt n P L k).C) F FC FT wr) (fun i _ => n - (intOf i).toNat)
      case atStart => exact ⟨0, F, FC, FT2, by omega, rfl, HBI.out⟩
      case round =>
        clear HBI
        obtain ⟨k, F, FC, FT, hk, rfl, hbi⟩ := hrel
        obtain ⟨wo, hwo⟩ : ∃ x : World, x = wr := ⟨_, rfl⟩
        subst hwo
        have HOK := Lib.hid (bAt_ok P HN.out.ok k hk)
        by_cases hlt : k < n
        case neg =>
          obtain rfl : k = n := by omega
          have z0 : decide ((k : Int) < (k : Int)) = false := by simp
          have HX := Lib.hid hbi
          clear hbi
          go_wp2_with fail
          go_ret
          obtain hb := HX.out
          exact ⟨pl, lvF pl rd mb FT, rfl, ⟨tl, rd, mb, FT, hb.lv, rfl⟩, fun j hj => by
            rcases hj with h | h | h | h
            · exact hb.low j (.inr (.inr (.inr (.inl h))))
            · exact hb.low j (.inr (.inr (.inr (.inr (.inl h)))))
            · exact hb.low j (.inr (.inr (.inr (.inr (.inr (.inr h))))))
            · exact hb.low j (.inr (.inr (.inl h))), hb.md⟩
        case pos =>
          have z0 : decide ((k : Int) < (n : Int)) = true := by simp; omega
          obtain ⟨hv1, hv2, hv3⟩ := nxtV_ok (n := n) (P (bAt n P L k).C) (bAt n P L k).C (V := (bAt n P L k).V) (by have := HOK.out.len; omega)
          have hsC : (bAt n P L (k + 1)).C = takeR n (P (bAt n P L k).C) (bAt n P L k).C (nxtV n (P (bAt n P L k).C) (bAt n P L k).C (bAt n P L k).V) := rfl
          have hsT : (bAt n P L (k + 1)).T = (scR (P (bAt n P L k).C) (bAt n P L k).C ((nxtV n (P (bAt n P L k).C) (bAt n P L k).C (bAt n P L k).V : Nat) : Int)).foldl (putR n) (bAt n P L k).T := rfl
          have hsV : (bAt n P L (k + 1)).V = (bAt n P L k).V ++ [nxtV n (P (bAt n P L k).C) (bAt n P L k).C (bAt n P L k).V] := rfl
          have HST := Lib.hid (And.intro hsC (And.intro hsT hsV))
          clear hsC hsT hsV
          obtain ⟨C, hC⟩ : ∃ y, (bAt n P L k).C = y := ⟨_, rfl⟩
          obtain ⟨T, hT⟩ : ∃ y, (bAt n P L k).T = y := ⟨_, rfl⟩
          obtain ⟨V, hV⟩ : ∃ y, (bAt n P L k).V = y := ⟨_, rfl⟩
          obtain ⟨v, hvv⟩ : ∃ y, nxtV n (P C) C V = y := ⟨_, rfl⟩
          have hok := HOK.out
          have hCok := hok.cok
          have hVl := hok.len
          rw [hC, hT, hV] at hbi HST
          rw [hC, hV] at hv1 hv2 hv3
          rw [hvv] at hv1 hv2 hv3 HST
          rw [hC] at hCok
          rw [hV] at hVl
          have HV := Lib.hid (And.intro hv2 (And.intro hv3 hVl))
          have HCOK := Lib.hid hCok
          have HBO := Lib.hid hbi
          have hwC : ∀ a ∈ C, a.w ≤ 1099511627776 := fun a ha => (hCok.may a ha).2.2.2.2.2.2.1
          have HFS := Lib.hid (rest_first hbi.ro hbi.nc hbi.a1 hwC (HP.out C) (some ⟨gd, 0, none⟩) n n (dnL n V) (dnL_len n V) (Rd.ofOwn hbi.gr) (fun j hj e => by have := own_blk hbi.gr hj; exact absurd e (hbi.a4 j (.inr (.inr (.inl this)))).1) (by omega))
          clear hC hT hV hvv hok hCok hVl hv2 hv3 hbi hwC HOK
          go_wp2_with fail
          refine HFS.out.mono ?_
          rintro e w1 ⟨rfl, F1, hro1, hF1, hm1⟩
          rw [HV.out.2.1]
          have hb1 : BI w n pl tl rd mb pr tc gd C T V (P C) F1 FC FT w1 := HBO.out.turn hro1 (HBO.out.nc.keep hm1 (fun j hj e => HBO.out.a1 j hj e)) hF1 (fun j hj => .inl hj) (fun j hj e => (hF1 j e).elim (HBO.out.a1 j hj) (fun e2 => by have := HBO.out.nc.lt j hj; omega)) (hm1.mono (fun _ _ e => .inl e))
          have HB1 := Lib.hid hb1
          have hb2 := hb1.mark hv1 HV.out.1
          rw [HV.out.2.2] at hb2
          have HB2 := Lib.hid hb2
          have q1 := hb1.lv.blk.cell 1 rfl
          have hrdgd : rd ≠ gd := hb1.a5.2.2.2.1
          have hix1 := fun wx => run_indexS (P := Tryz.prog) wx 40 3 iI 1 Tryz.underlying40 hiI hsI (some ⟨rd, 0, none⟩) n n v hv1 (by simp)
          have hix2 := fun wx => run_indexS (P := Tryz.prog) wx 48 4 iB 1 Tryz.underlying48 hiB hsB (some ⟨gd, 0, none⟩) n n v hv1 (by simp)
          rw [elemA_lit1] at hix1 hix2
          have hroomR := Room.ofOwn hb1.lv.row v (by omega)
          have hroomG := Room.ofOwn hb1.gr v (by omega)
          have hmr : Mod (fun j => j = rd) w1 (w1.setCell ⟨rd, v, none⟩ (.int .i64 (k : Int))) := Mod.setCell _ _ _ rfl
          have hroomG2 := Room.ofOwn (Own.keep hb1.gr hmr (fun j hj e => by have := own_blk hb1.gr hj; have e2 : j = rd := e; omega)) v (by omega)
          obtain ⟨cr, qr⟩ := hroomR.cell
          have fr := hroomR.free
          obtain ⟨cg, qg⟩ := hroomG2.cell
          have fg := hroomG2.free
          clear hroomR hroomG hroomG2 hmr hro1 hF1 hm1 hb1 hb2 HFS
          have hTK := Lib.hid (take_any HB2.out.ro HB2.out.nc HB2.out.a1 (HP.out C) v hv1 (HP.out (takeR n (P C) C v)))
          have hsl := scR_len HCOK.out h512 (P C) v
          obtain ⟨A, hA⟩ : ∃ y, scR (P C) C (v : Int) = y := ⟨_, rfl⟩
          unfold TakP at hTK
          rw [hA] at hTK hsl HST
          obtain ⟨m, hm⟩ : ∃ y, A.length = y := ⟨_, rfl⟩
          rw [hm] at hTK hsl
          have HM := Lib.hid hm
          clear hA hm
          go_wp2_with fail
          refine hTK.out.mono ?_
          rintro e w3 ⟨a, c, rfl, ho3, F3, FC3, hro3, hnc3, hF3, hFC3, hap3, hm3⟩
          have hb3 := HB2.out.turn hro3 hnc3 hF3 hFC3 hap3 hm3
          have HR3 : Hid (Rd w3 4 (.slice a m c) m (A.flatMap c4) ∧ ∀ j, (Value.slice a m c).ownBlock = some j → ¬ FT j ∧ j < w3.heap.size) := Lib.hid ⟨Rd.ofOwn ho3, fun j hj => ⟨fun e => by have := (ho3.lt j hj).1; have := HB2.out.lv.net.lt j e; omega, (ho3.lt j hj).2⟩⟩
          have HB3 := Lib.hid hb3
          clear hTK ho3 hro3 hnc3 hF3 hFC3 hap3 hm3 hb3 HB2 HB1 HBO q1 qr qg fr fg hix1 hix2
          go_wp2_with fail
          go_loopw [50] (fun i wr => ∃ (j : Nat) (FT' : Nat → Prop), j ≤ m ∧ i = .int .i64 j ∧ BI w n pl tl rd mb pr tc gd (takeR n (P C) C v) ((A.take j).foldl (putR n) T) (V ++ [v]) (P (takeR n (P C) C v)) F3 FC3 FT' wr ∧ Rd wr 4 (.slice a m c) m (A.flatMap c4) ∧ ∀ j, (Value.slice a m c).ownBlock = some j → ¬ FT' j ∧ j < wr.heap.size) (fun i _ => m - (intOf i).toNat)
          case atStart => exact ⟨0, FT, by omega, rfl, HB3.out, HR3.out⟩
          case round =>
            clear HB3 HR3
            obtain ⟨j, FT', hj, rfl, hbj, hrj, hoj⟩ := hrel
            obtain ⟨wi, hwi⟩ : ∃ x : World, x = wr := ⟨_, rfl⟩
            subst hwi
            by_cases hlj : j < m
            case pos =>
              have z1 : decide ((j : Int) < (m : Int)) = true := by simp; omega
              have hkl : j < A.length := by rw [HM.out]; exact hlj
              obtain ⟨eb, eo, hpe, e0, e1, e2, e3⟩ := rd4 hrj j hkl
              obtain ⟨y, hy⟩ : ∃ y, A[j] = y := ⟨_, rfl⟩
              rw [hy] at e0 e1 e2 e3
              obtain ⟨yf, yt, yw, ym⟩ := y
              simp only at e0 e1 e2 e3
              have hix := fun wx => run_indexS (P := Tryz.prog) wx 34 50 iA 4 Tryz.underlying34 hiA hsA a m c j hlj (hrj.some_ (by omega))
              rw [hpe] at hix
              have q0 := hbj.lv.blk.cell 0 rfl
              have HY := Lib.hid hy
              have HBJ := Lib.hid (And.intro hbj (And.intro hrj hoj))
              clear hpe hy hrj hoj hbj
              go_upto_region 13 with fail
              obtain ⟨g, hg⟩ : ∃ y, wi.heap.size = y := ⟨_, rfl⟩
              obtain ⟨w5, hw5⟩ : ∃ y, wi.alloc (.cells #[.int .i64 yf, .int .i64 yt, .int .i64 yw, .int .i64 ym] 50) = y := ⟨_, rfl⟩
              have hg5 : Blk w5 g 50 [.int .i64 yf, .int .i64 yt, .int .i64 yw, .int .i64 ym] := by rw [← hw5, ← hg]; exact Blk.new wi 50 [.int .i64 yf, .int .i64 yt, .int .i64 yw, .int .i64 ym]
              have hm5 : Mod (fun _ => False) wi w5 := by rw [← hw5]; exact Mod.alloc _ _ _
              replace q0 := hm5.cell q0 (fun e => e)
              (try rw [hw5])
              (try rw [hg])
              have g0 := hg5.cell 0 rfl
              have g1 := hg5.cell 1 rfl
              have g2 := hg5.cell 2 rfl
              have g3 := hg5.cell 3 rfl
              have HPUT : Hid (∀ W, Mod (fun _ => False) w5 W → Calls Tryz.prog 58 #[.pointer (some ⟨tl, 0, none⟩), .agg #[.int .i64 yf, .int .i64 yt, .int .i64 yw, .int .i64 ym]] W fun e w' => (∃ r, e = .returned (.bool r)) ∧ ∃ FT'', BI w n pl tl rd mb pr tc gd (takeR n (P C) C v) ((A.take (j + 1)).foldl (putR n) T) (V ++ [v]) (P (takeR n (P C) C v)) F3 FC3 FT'' w' ∧ Rd w' 4 (.slice a m c) m (A.flatMap c4) ∧ ∀ j, (Value.slice a m c).ownBlock = some j → ¬ FT'' j ∧ j < w'.heap.size) := Lib.hid fun W hW => by
                obtain ⟨hbj, hrj, hoj⟩ := HBJ.out
                have hbW := hbj.later (hm5.of2 hW)
                have hzW := (hm5.of2 hW).size
                refine (nt_put hbW.lv.net yf yt yw ym).mono fun e w' h => ⟨⟨_, h.1⟩, ?_⟩
                obtain ⟨FT2, k1, k2, k3⟩ := h.2
                have hst : putR n ((A.take j).foldl (putR n) T) ⟨yf, yt, yw, ym⟩ = (A.take (j + 1)).foldl (putR n) T := by
                  rw [List.take_succ_eq_append_getElem hkl, List.foldl_append, HY.out]; rfl
                rw [hst] at k1
                have hz3 := k3.size
                exact ⟨FT2, hbW.put k1 k2 k3, (hrj.keep (hm5.of2 hW) (fun _ _ e => e)).keep k3 (fun i hi e => (hoj i hi).1 e), fun i hi => ⟨fun e => (k2 i e).elim (hoj i hi).1 (fun e2 => by have := (hoj i hi).2; omega), by have := (hoj i hi).2; omega⟩⟩
              clear hg5 hm5 hw5 hg e0 e1 e2 e3 hix
              go_region_law (go_simp; go_at_call 58; refine (HPUT.out _ (Mod.drew _ _)).mono ?_; rintro e w6 ⟨⟨r6, rfl⟩, h6⟩; have H6 := Lib.hid h6; clear h6)
              all_goals
                (try go_wp2_with fail)
                go_roundw
                case rel =>
                  obtain ⟨FT6, h6⟩ := H6.out
                  exact ⟨j + 1, FT6, hlj, by go_num, h6⟩
                case measure => simp [intOf]; omega
            case neg =>
              obtain rfl : j = m := by omega
              have z1 : decide ((j : Int) < (j : Int)) = false := by simp
              have HBJ := Lib.hid hbj
              clear hrj hoj hbj
              go_wp2_with fail
              go_roundw
              case rel =>
                refine ⟨k + 1, F3, FC3, FT', hlt, by go_num, ?_⟩
                have h := HBJ.out
                rw [List.take_of_length_le (Nat.le_of_eq HM.out)] at h
                rw [HST.out.1, HST.out.2.1, HST.out.2.2]
                exact h
              case measure => simp [intOf]; omega
end Go.Proofs.YtjjedebjbgpimaaGreat
