/- The reference's Levels: Build, walked. -/
import Derived.Test.YtjjedebjbgpimaaGreatLvR1
namespace Go.Proofs.YtjjedebjbgpimaaGreat
open Go.RowKit Mile
set_option maxRecDepth 100000
attribute [local go_sem] Oper.semAt_some
def RbP (n : Nat) (P : List Ar → Nat → Int → List Int) (L : List Ar) (w : World) (e : Ending) (w' : World) : Prop :=
  ∃ p tq rd, e = .returned (.pointer (some ⟨p, 0, none⟩)) ∧ RL w' p tq rd n (bAt n P L n).T (bAt n P L n).V ∧ Mod (fun _ => False) w w'
structure RI (w : World) (n p tq rd : Nat) (L : List Ar) (W : World) : Prop where
  blk : Blk W p 45 [.pointer (some ⟨tq, 0, none⟩), .slice (some ⟨rd, 0, none⟩) n n]
  nt : RNG W tq n L (fun k => w.heap.size ≤ k ∧ k < W.heap.size ∧ k ≠ rd)
  row : W.ownsRow 0 3 1 (.slice (some ⟨rd, 0, none⟩) n n) n ((rkL n []).map (Value.int .i64))
  ne : p ≠ tq ∧ p ≠ rd ∧ tq ≠ rd
  lt : tq < W.heap.size ∧ rd < W.heap.size
  low : w.heap.size ≤ p ∧ w.heap.size ≤ tq ∧ w.heap.size ≤ rd
  md : Mod (fun _ => False) w W
theorem ri_mk {w wa X : World} {n tq : Nat} {L : List Ar} (h512 : n ≤ 512) (h0 : Mod (fun _ => False) w wa) (hq : RNG X tq n L (fun k => w.heap.size ≤ k ∧ k < X.heap.size ∧ k ≠ wa.heap.size)) (hlo : w.heap.size ≤ tq) (hne : tq ≠ wa.heap.size) (h1 : Mod (fun _ => False) (wa.alloc (.cells (madeCells #[Value.int .i64 0] n) 3)) X) :
    RI w n X.heap.size tq wa.heap.size L (X.alloc (.cells #[.pointer (some ⟨tq, 0, none⟩), .slice (some ⟨wa.heap.size, 0, none⟩) n n] 45)) := by
  have hr := own_zrow wa 3 (.int .i64 0) n wa.heap.size rfl (by omega)
  have hza : (wa.alloc (.cells (madeCells #[Value.int .i64 0] n) 3)).heap.size = wa.heap.size + 1 := heap_size_alloc _ _
  have hz1 := h1.size
  have hz0 := h0.size
  have hzx : (X.alloc (.cells #[.pointer (some ⟨tq, 0, none⟩), .slice (some ⟨wa.heap.size, 0, none⟩) n n] 45)).heap.size = X.heap.size + 1 := heap_size_alloc _ _
  have hma : Mod (fun _ => False) X (X.alloc (.cells #[.pointer (some ⟨tq, 0, none⟩), .slice (some ⟨wa.heap.size, 0, none⟩) n n] 45)) := Mod.alloc _ _ _
  have hwa : Mod (fun _ => False) wa (wa.alloc (.cells (madeCells #[Value.int .i64 0] n) 3)) := Mod.alloc _ _ _
  have hlt := hq.lt
  refine ⟨Blk.new X 45 [.pointer (some ⟨tq, 0, none⟩), .slice (some ⟨wa.heap.size, 0, none⟩) n n], (hq.later hma).mono (fun k hk => by omega), ?_, by omega, by omega, by omega, ((h0.of2 hwa).of2 h1).of2 hma⟩
  rw [rkL_nil, List.map_replicate]
  exact Own.keep (Own.keep hr h1 (fun _ _ e => e)) hma (fun _ _ e => e)
theorem rb_mk {w wx wa : World} {n p tq rd tc : Nat} {L : List Ar} (h512 : n ≤ 512) (h : RI w n p tq rd L wx) (hq : RNG wa tc n L (fun k => wx.heap.size ≤ k ∧ k < wa.heap.size)) (hlo : wx.heap.size ≤ tc) (hma : Mod (fun _ => False) wx wa) :
    RB w n p tq tc rd wa.heap.size L L [] (wa.alloc (.cells (madeCells #[Value.bool false] n) 4)) := by
  have hr := own_zrow wa 4 (.bool false) n wa.heap.size rfl (by omega)
  have hza : (wa.alloc (.cells (madeCells #[Value.bool false] n) 4)).heap.size = wa.heap.size + 1 := heap_size_alloc _ _
  have hwa : Mod (fun _ => False) wa (wa.alloc (.cells (madeCells #[Value.bool false] n) 4)) := Mod.alloc _ _ _
  have hz := hma.size
  have hz0 := h.md.size
  have hlt := hq.lt
  have hne := h.ne
  have hl := h.lt
  have hlow := h.low
  have hbl := h.blk.lt
  refine ⟨h.blk.keep (hma.of2 hwa) (fun e => e), (h.nt.later (hma.of2 hwa)).mono (fun k hk => by omega), (hq.later hwa).mono (fun k hk => by omega), Own.keep h.row (hma.of2 hwa) (fun _ _ e => e), by rw [dnL_nil, List.map_replicate]; exact hr, by omega, by omega, by omega, h.md.of2 (hma.of2 hwa)⟩
theorem elemA_lit1R (b j : Nat) : elemA (some ⟨b, 0, none⟩) j 1 = ⟨b, j, none⟩ := by simp [elemA, Addr.add_lit]
theorem scR_lenR {n : Nat} {L : List Ar} (hok : NetOk n L) (h512 : n ≤ 512) (D : Nat → Int → List Int) (v : Nat) : (scR D L (v : Int)).length ≤ 1000000 := by
  have h1 := scI_len D L (v : Int) (inL L (v : Int))
  have h2 := inL_len hok (v : Int)
  have h3 := outL_len hok (v : Int)
  have h4 := Nat.mul_le_mul h2 h3
  have h5 : n * n ≤ 512 * 512 := Nat.mul_le_mul h512 h512
  have h6 : (scR D L (v : Int)).length = (scI D L (v : Int) (inL L (v : Int))).length := rfl
  omega
theorem bAt_len {n : Nat} (P : List Ar → Nat → Int → List Int) {L : List Ar} (hok : NetOk n L) (hn : n ≤ 100) (k : Nat) (hk : k ≤ n) : (bAt n P L k).C.length ≤ 10000 ∧ (bAt n P L k).T.length ≤ 10000 := by
  have h := bAt_ok P hok k hk
  have h1 := net_len h.cok
  have h2 := net_len h.tok
  have h3 : n * n ≤ 100 * 100 := Nat.mul_le_mul hn hn
  omega
set_option maxHeartbeats 16000000 in
theorem rn_build {w : World} {q n : Nat} {L : List Ar} (h : RN w q n L) (hok : NetOk n L) (hn : n ≤ 100) (P : List Ar → Nat → Int → List Int) (hP : ∀ L, DOk n L (P L)) :
    Calls Tryz.prog 49 #[.pointer (some ⟨q, 0, none⟩)] w (RbP n P L w) := by
  obtain ⟨iI, hiI, hzI, hsI, hbI⟩ := info_parts Nt.infoI
  obtain ⟨iB, hiB, hzB, hsB, hbB⟩ := info_parts infoBoF
  obtain ⟨iA, hiA, hzA, hsA, hbA⟩ := info_parts Nt.infoA
  have h512 : n ≤ 512 := by omega
  have hmkI : ∀ wx, (Instr.makeSlice 40 (.int .i64 (n : Int)) (.int .i64 (n : Int))).run Tryz.prog wx = .ok (.slice (some ⟨wx.heap.size, 0, none⟩) n n) (wx.alloc (.cells (madeCells #[Value.int .i64 0] n) 3)) := fun wx => by
    have h := run_make (P := Tryz.prog) (w := wx) 40 3 iI (.int .i64 0) Tryz.underlying40 hiI hzI .i64 .i64 (n : Int) (n : Int) (by omega) (Int.le_refl _) (by rw [hbI]; omega) (by omega)
    rw [hsI, show (Value.int .i64 0).cells = #[Value.int .i64 0] from rfl] at h
    simpa using h
  have hmkB : ∀ wx, (Instr.makeSlice 48 (.int .i64 (n : Int)) (.int .i64 (n : Int))).run Tryz.prog wx = .ok (.slice (some ⟨wx.heap.size, 0, none⟩) n n) (wx.alloc (.cells (madeCells #[Value.bool false] n) 4)) := fun wx => by
    have h := run_make (P := Tryz.prog) (w := wx) 48 4 iB (.bool false) Tryz.underlying48 hiB hzB .i64 .i64 (n : Int) (n : Int) (by omega) (Int.le_refl _) (by rw [hbB]; omega) (by omega)
    rw [hsB, show (Value.bool false).cells = #[Value.bool false] from rfl] at h
    simpa using h
  have hLl : L.length ≤ 10000 := (bAt_len P hok hn 0 (by omega)).1
  have b0 : w.cell? ⟨q, 0, none⟩ = some (.int .i64 (n : Int)) := by obtain ⟨_, _, hb, _⟩ := h; exact hb.cell 0 rfl
  have hql : q < w.heap.size := by obtain ⟨_, _, hb, _⟩ := h; exact hb.lt
  have HRN := Lib.hid h
  have HOK := Lib.hid hok
  have HP := Lib.hid hP
  have HB0 := Lib.hid b0
  clear h hok hP
  go_enter Tryz.func49, Tryz.ntmps49
  go_upto_region 1 with fail
  go_cut [3] (fun s wx => ∃ p tq rd, s = .pointer (some ⟨p, 0, none⟩) ∧ RI w n p tq rd L wx)
  case first =>
    go_region_law (go_simp; go_at_call 81; refine (rn_copy (HRN.out.later (by first | exact Mod.drew _ _ | exact (Mod.alloc (fun _ => False) _ _).of2 (Mod.drew _ _))) hLl).mono ?_; rintro e wa ⟨tq, rfl, hq, hlo, hma⟩; have hmw : Mod (fun _ => False) w wa := (by first | exact (Mod.drew (fun _ => False) _).of2 hma | exact ((Mod.alloc (fun _ => False) _ _).of2 (Mod.drew _ _)).of2 hma); have HA := Lib.hid (And.intro hq (And.intro hlo (And.intro hma hmw))); replace b0 := hmw.cell HB0.out (fun e => e); clear hq hlo hma hmw)
    all_goals
      (try go_wp2_with fail)
      go_meet
    all_goals
      have hzA : (wa.alloc (.cells (madeCells #[Value.int .i64 0] n) 3)).heap.size = wa.heap.size + 1 := heap_size_alloc _ _
      have hzW : (w.alloc (.cells (madeCells #[Value.int .i64 0] n) 3)).heap.size = w.heap.size + 1 := heap_size_alloc _ _
      have hzD : (World.drew w).heap.size = w.heap.size := rfl
      have hzE : (World.drew (w.alloc (.cells (madeCells #[Value.int .i64 0] n) 3))).heap.size = (w.alloc (.cells (madeCells #[Value.int .i64 0] n) 3)).heap.size := rfl
      have hql2 := HA.out.1.lt
      have hlo2 := HA.out.2.1
      first
        | exact ⟨_, _, _, rfl, ri_mk (w := w) (wa := w) (X := wa) h512 (Mod.refl _ _) (HA.out.1.mono (fun k hk => by omega)) (by omega) (by omega) ((Mod.drew (fun _ => False) _).of2 HA.out.2.2.1)⟩
        | (have h := ri_mk (w := w) (wa := wa) (X := wa.alloc (.cells (madeCells #[Value.int .i64 0] n) 3)) h512 HA.out.2.2.2 ((HA.out.1.later (Mod.alloc (fun _ => False) _ _)).mono (fun k hk => by omega)) (by omega) (by omega) (Mod.refl _ _)
           rw [heap_size_alloc] at h
           exact ⟨_, _, _, rfl, h⟩)
  case rest =>
    obtain ⟨p, tq, rd, rfl, hri⟩ := hcut
    have HRI := Lib.hid hri
    replace b0 := hri.md.cell HB0.out (fun e => e)
    have HCP := Lib.hid (rn_copy (HRN.out.later hri.md) hLl)
    clear hri
    go_wp2_with fail
    refine HCP.out.mono ?_
    rintro e wa ⟨tc, rfl, hq, hlo, hma⟩
    replace b0 := hma.cell b0 (fun e => e)
    have HRB := Lib.hid (rb_mk h512 HRI.out hq hlo hma)
    clear hq hlo hma HCP hmkI
    go_wp2_with fail
    obtain ⟨gd, hgd⟩ : ∃ y, wa.heap.size = y := ⟨_, rfl⟩
    rw [hgd] at HRB
    (try rw [hgd])
    clear hgd b0 hmkB
    go_loopw [6] (fun i wr => ∃ (k : Nat), k ≤ n ∧ i = .int .i64 k ∧ RB w n p tq tc rd gd (bAt n P L k).C (bAt n P L k).T (bAt n P L k).V wr) (fun i _ => n - (intOf i).toNat)
    case atStart => exact ⟨0, by omega, rfl, HRB.out⟩
    case round =>
      clear HRB
      obtain ⟨k, hk, rfl, hrb⟩ := hrel
      obtain ⟨wo, hwo⟩ : ∃ x : World, x = wr := ⟨_, rfl⟩
      subst hwo
      have b0 := hrb.md.cell HB0.out (fun e => e)
      have HKO := Lib.hid (bAt_ok P HOK.out k hk)
      by_cases hlt : k < n
      case neg =>
        obtain rfl : k = n := by omega
        have z0 : decide ((k : Int) < (k : Int)) = false := by simp
        have HX := Lib.hid hrb
        clear hrb
        go_wp2_with fail
        go_ret
        have hb := HX.out
        exact ⟨p, tq, rd, rfl, ⟨hb.blk, hb.nt.rn, Rd.ofOwn hb.row⟩, hb.md⟩
      case pos =>
        have z0 : decide ((k : Int) < (n : Int)) = true := by simp; omega
        obtain ⟨hv1, hv2, hv3⟩ := nxtV_ok (n := n) (P (bAt n P L k).C) (bAt n P L k).C (V := (bAt n P L k).V) (by have := HKO.out.len; omega)
        have hsC : (bAt n P L (k + 1)).C = takeR n (P (bAt n P L k).C) (bAt n P L k).C (nxtV n (P (bAt n P L k).C) (bAt n P L k).C (bAt n P L k).V) := rfl
        have hsT : (bAt n P L (k + 1)).T = (scR (P (bAt n P L k).C) (bAt n P L k).C ((nxtV n (P (bAt n P L k).C) (bAt n P L k).C (bAt n P L k).V : Nat) : Int)).foldl (putR n) (bAt n P L k).T := rfl
        have hsV : (bAt n P L (k + 1)).V = (bAt n P L k).V ++ [nxtV n (P (bAt n P L k).C) (bAt n P L k).C (bAt n P L k).V] := rfl
        have HST := Lib.hid (And.intro hsC (And.intro hsT hsV))
        have hlens := bAt_len P HOK.out hn k hk
        clear hsC hsT hsV
        obtain ⟨C, hC⟩ : ∃ y, (bAt n P L k).C = y := ⟨_, rfl⟩
        obtain ⟨T, hT⟩ : ∃ y, (bAt n P L k).T = y := ⟨_, rfl⟩
        obtain ⟨V, hV⟩ : ∃ y, (bAt n P L k).V = y := ⟨_, rfl⟩
        obtain ⟨v, hvv⟩ : ∃ y, nxtV n (P C) C V = y := ⟨_, rfl⟩
        have hok := HKO.out
        have hCok := hok.cok
        have hTok := hok.tok
        have hVl := hok.len
        rw [hC, hT, hV] at hrb HST
        rw [hC, hT] at hlens
        rw [hC, hV] at hv1 hv2 hv3
        rw [hvv] at hv1 hv2 hv3 HST
        rw [hC] at hCok
        rw [hT] at hTok
        rw [hV] at hVl
        have HV := Lib.hid (And.intro hv2 (And.intro hv3 hVl))
        have hwC : ∀ a ∈ C, a.w ≤ 1099511627776 := fun a ha => (hCok.may a ha).2.2.2.2.2.2.1
        have HCOK := Lib.hid (And.intro hCok (And.intro hTok (And.intro hlens hwC)))
        have HBO := Lib.hid hrb
        have HFS := Lib.hid (rn_first hrb.nc.rn hCok hwC h512 hlens.1 (HP.out C) (some ⟨gd, 0, none⟩) n n (dnL n V) (dnL_len n V) (Rd.ofOwn hrb.gr) (by omega))
        clear hC hT hV hvv hok hCok hTok hVl hv2 hv3 hrb hwC hlens HKO
        go_wp2_with fail
        refine HFS.out.mono ?_
        rintro e w1 ⟨rfl, hm1⟩
        rw [HV.out.2.1]
        have HB1 := Lib.hid (HBO.out.later hm1)
        have HSC := Lib.hid (rn_sc (HB1.out.nc.rn) HCOK.out.1 HCOK.out.2.2.2 h512 HCOK.out.2.2.1.1 (HP.out C) v)
        have hsl := scR_lenR HCOK.out.1 h512 (P C) v
        obtain ⟨A, hA⟩ : ∃ y, scR (P C) C (v : Int) = y := ⟨_, rfl⟩
        unfold ScQ NewR at HSC
        have HAE := Lib.hid hA
        rw [hA] at HSC hsl HST
        obtain ⟨m, hm⟩ : ∃ y, A.length = y := ⟨_, rfl⟩
        rw [hm] at HSC hsl
        have HM := Lib.hid hm
        clear hA hm hm1 HFS HBO b0
        go_wp2_with fail
        refine HSC.out.mono ?_
        rintro e w2 ⟨a, c, rfl, ho2, hm2⟩
        have hb2 := HB1.out.later hm2
        have HB2 := Lib.hid hb2
        have HR2 : Hid (Rd w2 4 (.slice a m c) m (A.flatMap c4) ∧ ∀ j, (Value.slice a m c).ownBlock = some j → w1.heap.size ≤ j) := Lib.hid ⟨Rd.ofOwn ho2, fun j hj => (ho2.lt j hj).1⟩
        have hlt1 := HB1.out.lt
        clear ho2 hm2 hb2 HSC HB1
        go_wp2_with fail
        go_loopw [9] (fun i wr => ∃ (j : Nat), j ≤ m ∧ i = .int .i64 j ∧ RB w n p tq tc rd gd ((A.take j).foldl (putR n) C) ((A.take j).foldl (putR n) T) V wr ∧ Rd wr 4 (.slice a m c) m (A.flatMap c4)) (fun i _ => m - (intOf i).toNat)
        case atStart => exact ⟨0, by omega, rfl, HB2.out, HR2.out.1⟩
        case round =>
          obtain ⟨j, hj, rfl, hbj, hrj⟩ := hrel
          obtain ⟨wi, hwi⟩ : ∃ x : World, x = wr := ⟨_, rfl⟩
          subst hwi
          by_cases hlj : j < m
          case pos =>
            have z1 : decide ((j : Int) < (m : Int)) = true := by simp; omega
            have hkl : j < A.length := by rw [HM.out]; exact hlj
            have hstC : putR n ((A.take j).foldl (putR n) C) A[j] = (A.take (j + 1)).foldl (putR n) C := by rw [List.take_succ_eq_append_getElem hkl, List.foldl_append]; rfl
            have hstT : putR n ((A.take j).foldl (putR n) T) A[j] = (A.take (j + 1)).foldl (putR n) T := by rw [List.take_succ_eq_append_getElem hkl, List.foldl_append]; rfl
            have hokC := putRs_ok (A.take j) C HCOK.out.1
            have hokT := putRs_ok (A.take j) T HCOK.out.2.1
            have hnn : n * n ≤ 100 * 100 := Nat.mul_le_mul hn hn
            have hlC : ((A.take j).foldl (putR n) C).length ≤ 10000 := by have := net_len hokC; omega
            have hlT : ((A.take j).foldl (putR n) T).length ≤ 10000 := by have := net_len hokT; omega
            have hblk : ∀ i, (Value.slice a m c).ownBlock = some i → i ≠ tc ∧ i ≠ tq := fun i hi => by have := HR2.out.2 i hi; omega
            obtain ⟨eb, eo, hpe, e0, e1, e2, e3⟩ := rd4 hrj j hkl
            have hix := fun wx => run_indexS (P := Tryz.prog) wx 34 50 iA 4 Tryz.underlying34 hiA hsA a m c j hlj (hrj.some_ (by omega))
            rw [hpe] at hix
            have HPE := Lib.hid hpe
            obtain ⟨y, hy⟩ : ∃ y, A[j] = y := ⟨_, rfl⟩
            rw [hy] at e0 e1 e2 e3 hstC hstT
            have HY := Lib.hid hy
            obtain ⟨yf, yt, yw, ym⟩ := y
            simp only at e0 e1 e2 e3
            have HPC := Lib.hid (rn_putG hbj.nc hokC h512 hlC yf yt yw ym)
            rw [hstC] at HPC
            have HBJ := Lib.hid (And.intro hbj (And.intro hrj hblk))
            have HKT := Lib.hid (And.intro hokT (And.intro hlT hstT))
            clear hpe hy hbj hrj hblk hokC hokT hlC hlT hstC hstT hnn
            go_wp2_with fail
            refine HPC.out.mono ?_
            rintro e w3 ⟨rfl, hq3, hm3⟩
            have hb3 := HBJ.out.1.turnC hq3 hm3
            have hr3 := HBJ.out.2.1.keep hm3 (fun i hi e => (HBJ.out.2.2 i hi).1 e)
            obtain ⟨eb', eo', hpe', e0', e1', e2', e3'⟩ := rd4 hr3 j hkl
            rw [HPE.out] at hpe'
            injection hpe' with hpe1 hpe2
            subst hpe1; subst hpe2
            rw [HY.out] at e0' e1' e2' e3'
            simp only at e0' e1' e2' e3'
            have q0 := hb3.blk.cell 0 rfl
            have HPT : Hid (∀ W, Mod (fun _ => False) w3 W → Calls Tryz.prog 84 #[.pointer (some ⟨tq, 0, none⟩), .agg #[.int .i64 yf, .int .i64 yt, .int .i64 yw, .int .i64 ym]] W fun e w' => (∃ r, e = .returned (.bool r)) ∧ RB w n p tq tc rd gd ((A.take (j + 1)).foldl (putR n) C) ((A.take (j + 1)).foldl (putR n) T) V w' ∧ Rd w' 4 (.slice a m c) m (A.flatMap c4)) := Lib.hid fun W hW => by
              have hbW := hb3.later hW
              refine (rn_putG hbW.nt HKT.out.1 h512 HKT.out.2.1 yf yt yw ym).mono fun e w' h => ⟨⟨_, h.1⟩, ?_⟩
              obtain ⟨_, k1, k2⟩ := h
              rw [HKT.out.2.2] at k1
              exact ⟨hbW.turnT k1 k2, (hr3.keep hW (fun _ _ e => e)).keep k2 (fun i hi e => (HBJ.out.2.2 i hi).2 e)⟩
            clear hq3 hm3 hb3 hr3 e0 e1 e2 e3 HPC
            go_upto_region 13 with fail
            go_region_law (go_simp; go_at_call 84; refine (HPT.out _ (Mod.drew _ _)).mono ?_; rintro e w6 ⟨⟨r6, rfl⟩, h6⟩; have H6 := Lib.hid h6; clear h6)
            all_goals
              (try go_wp2_with fail)
              go_roundw
              case rel => exact ⟨j + 1, hlj, by go_num, H6.out⟩
              case measure => simp [intOf]; omega
          case neg =>
            obtain rfl : j = m := by omega
            have z1 : decide ((j : Int) < (j : Int)) = false := by simp
            rw [List.take_of_length_le (Nat.le_of_eq HM.out)] at hbj
            have hokC := putRs_ok A C HCOK.out.1
            have hnn : n * n ≤ 100 * 100 := Nat.mul_le_mul hn hn
            have hlC : (A.foldl (putR n) C).length ≤ 10000 := by have := net_len hokC; omega
            have HCU := Lib.hid (rn_cut hbj.nc hlC (v : Int))
            have HBJ := Lib.hid hbj
            clear hbj hrj hokC hnn hlC
            go_wp2_with fail
            refine HCU.out.mono ?_
            rintro e w3 ⟨rfl, hq3, hm3⟩
            have hb3 := HBJ.out.turnC hq3 hm3
            have hb4 := hb3.mark (v := v) HV.out.1
            rw [HV.out.2.2] at hb4
            have HB4 := Lib.hid hb4
            have q1 := hb3.blk.cell 1 rfl
            have hrdgd : gd ≠ rd := by have := hb3.ne; omega
            have hpgd : p ≠ gd := by have := hb3.ne; omega
            have hix1 := fun wx => run_indexS (P := Tryz.prog) wx 40 3 iI 1 Tryz.underlying40 hiI hsI (some ⟨rd, 0, none⟩) n n v hv1 (by simp)
            have hix2 := fun wx => run_indexS (P := Tryz.prog) wx 48 4 iB 1 Tryz.underlying48 hiB hsB (some ⟨gd, 0, none⟩) n n v hv1 (by simp)
            rw [elemA_lit1R] at hix1 hix2
            have hroomG := Room.ofOwn hb3.gr v (by omega)
            have hmr : Mod (fun i => i = gd) w3 (w3.setCell ⟨gd, v, none⟩ (.bool true)) := Mod.setCell _ _ _ rfl
            have hroomR := Room.ofOwn (Own.keep hb3.row hmr (fun i hi e => by have := own_blkR hb3.row hi; have e2 : i = gd := e; omega)) v (by omega)
            have q2 := hmr.cell q1 (fun e => hpgd e)
            obtain ⟨cg, qg⟩ := hroomG.cell
            have fg := hroomG.free
            obtain ⟨cr, qr⟩ := hroomR.cell
            have fr := hroomR.free
            clear hroomR hroomG hmr hq3 hm3 hb3 hb4 HCU
            go_wp2_with fail
            go_roundw
            case rel =>
              refine ⟨k + 1, hlt, by go_num, ?_⟩
              have h := HB4.out
              rw [HST.out.1, HST.out.2.1, HST.out.2.2]
              have ht : takeR n (P C) C v = cutN (A.foldl (putR n) C) (v : Int) := by unfold takeR; rw [HAE.out]
              rw [ht]
              exact h
            case measure => simp [intOf]; omega
end Go.Proofs.YtjjedebjbgpimaaGreat
