/- Law NetCuts. -/
import Derived.Test.YtnklgeekjkchbaaCutsP
namespace Go.Proofs.Ytnklgeekjkchbaa
open Go.RowKit Mile
set_option maxRecDepth 100000
theorem Nt.infoB : (Try.prog.info? 4).map (fun i => (i.zero, i.size, i.bytes)) = some (some (.bool false), 1, 1) := by kernel_rfl
set_option maxHeartbeats 32000000 in
theorem ncuts_all (w : World) (n : Nat) (h1 : 1 ≤ n) (h40 : n ≤ 40) (a : Option Addr) (ln c : Nat) (T : List T3) (hT : T.length = ln) (hr : Rd w 3 (.slice a ln c) ln (T.flatMap c3T)) (hln : ln ≤ 100) (av : Option Addr) (lc cv : Nat) (V0 : List Int) (hV : V0.length = lc) (hrv : Rd w 1 (.slice av lc cv) lc (V0.map (Value.int .i64))) (hlc : lc ≤ 20) :
    Calls Try.prog 5 #[.int .i64 (n : Int), .slice a ln c, .slice av lc cv] w fun e w' => e = .returned (.bool true) ∧ Mod (fun _ => False) w w' := by
  obtain ⟨iB, hiB, hzB, hsB, hbB⟩ := info_parts Nt.infoB
  obtain ⟨iI, hiI, hzI, hsI, hbI⟩ := info_parts Nt.infoI
  obtain ⟨iA, hiA, hzA, hsA, hbA⟩ := info_parts Nt.infoA
  have y0 : decide ((n : Int) < 1) = false := by simp; omega
  have y1 : decide ((40 : Int) < (n : Int)) = false := by simp; omega
  have y2 : decide ((100 : Int) < (ln : Int)) = false := by simp; omega
  have y3 : decide ((20 : Int) < (lc : Int)) = false := by simp; omega
  have hmk := fun wx => run_makeSlice (P := Try.prog) (w := wx) 57 4 iB _ Try.underlying57 hiB hzB .i64 .i64 (n : Int) (n : Int) (by omega) (by omega) (by rw [hsB]; omega) (by rw [hbB]; omega) (by omega)
  simp only [Int.toNat_natCast, hsB, Nat.mul_one] at hmk
  have HMK := Lib.hid hmk
  have HMD := Lib.hid (made13_any w n (by omega) a ln c T hT hr (by omega))
  have HRV := Lib.hid hrv
  have HV := Lib.hid hV
  have hle := (putAll_ok (arcsR (n : Int) T) [] (NetOk.nil n) (arcsR_may T)).2
  have hle2 := arcsR_len (n : Int) T
  have hle3 : (putAllN (arcsR (n : Int) T)).length ≤ 100 := by unfold putAllN; simp only [List.length_nil] at hle; omega
  clear hle hle2
  obtain ⟨L0, hL0⟩ : ∃ L, putAllN (arcsR (n : Int) T) = L := ⟨_, rfl⟩
  rw [hL0] at HMD hle3
  have HLE := Lib.hid hle3
  clear hmk hT hr hV hrv hL0 hle3
  go_enter Try.func5, Try.ntmps5
  go_wp2_with fail
  refine HMD.out.mono ?_
  rintro e w1 ⟨q, F, m, rfl, hnt, _, hnw, _, hm1⟩
  have HN1 := Lib.hid hnt
  have HF1 := Lib.hid hnw
  have HM1 := Lib.hid hm1
  clear hnt hnw hm1 HMD y0 y1 y2 y3
  go_wp2_with fail
  refine (nt_all HN1.out).mono ?_
  rintro e w2 ⟨aa, ca, rfl, hoa, hm2⟩
  have HOA := Lib.hid hoa
  have HM2 := Lib.hid hm2
  clear hoa hm2
  obtain ⟨la, hla⟩ : ∃ x, L0.length = x := ⟨_, rfl⟩
  have HLA := Lib.hid hla
  rw [hla] at HOA ⊢
  clear hla
  go_wp2_with fail
  refine (nt_copy (HN1.out.later HM2.out)).mono ?_
  rintro e w3 ⟨o, Fo, rfl, hno, hfo, hm3⟩
  have HO3 := Lib.hid hno
  have HFO := Lib.hid hfo
  have HM3 := Lib.hid (HM2.out.of2 hm3)
  have HM23 := Lib.hid hm3
  have HW3 := Lib.hid (HM1.out.of2 (HM2.out.of2 hm3))
  have hmk := HMK.out
  clear hno hfo hm3
  go_upto_region 11 with fail
  obtain ⟨g, hg⟩ : ∃ y, w3.heap.size = y := ⟨_, rfl⟩
  obtain ⟨w4, hw4⟩ : ∃ y, w3.alloc (.cells (madeCells #[Value.bool false] n) 4) = y := ⟨_, rfl⟩
  have hg4 : Blk w4 g 4 ((List.range n).map fun u : Nat => .bool (decide ((u : Int) ∈ ([] : List Int)))) := by
    have h1 := Blk.new w3 4 (madeCells #[Value.bool false] n).toList
    rw [hg] at h1
    have h2 : (madeCells #[Value.bool false] n).toList = (List.range n).map fun u : Nat => Value.bool (decide ((u : Int) ∈ ([] : List Int))) := by
      rw [show (madeCells #[Value.bool false] n).toList = List.replicate n (Value.bool false) from zrow_toList _ _]
      apply List.ext_getElem <;> simp
    have h3 : (((List.range n).map fun u : Nat => Value.bool (decide ((u : Int) ∈ ([] : List Int)))).toArray) = madeCells #[Value.bool false] n := by rw [← h2]
    rw [h2, h3] at h1
    rw [← hw4]
    exact h1
  have hm4 : Mod (fun _ => False) w3 w4 := by rw [← hw4]; exact Mod.alloc _ _ _
  (try rw [hw4])
  (try rw [hg])
  -- apartness: the net's blocks F are below all's row, the copy and gone
  have hFg : ∀ k, F k → k < w1.heap.size := fun k hk => HN1.out.lt k hk
  have hs12 : w1.heap.size ≤ w2.heap.size := HM2.out.size
  have hs13 : w1.heap.size ≤ w3.heap.size := HM3.out.size
  have HN4 := Lib.hid ((HN1.out.later HM3.out).later hm4)
  have HO4 := Lib.hid (HO3.out.later hm4)
  have hoa4 := (Own.keep HOA.out ((HM23.out.of2 hm4)) (fun _ _ e => e) : w4.ownsRow w1.heap.size 32 4 (.slice aa la ca) la (L0.flatMap c4)) 
  have HOA4 := Lib.hid hoa4
  have HG4 := Lib.hid hg4
  have HM4 := Lib.hid (HW3.out.of2 hm4)
  have hsg : w1.heap.size ≤ g := by omega
  have HSG := Lib.hid hsg
  have HOG : Hid (∀ k, Fo k → k < g) := Lib.hid (fun k hk => by have := HO3.out.lt k hk; omega)
  have HAG : Hid (∀ k, (Value.slice aa la ca).ownBlock = some k → k < g) := Lib.hid (fun k hk => by have h5 := (HOA.out.lt k hk).2; have h6 := HM23.out.size; omega)
  have HFG := Lib.hid hFg
  clear hw4 hg hg4 hm4 hmk hoa4 hFg hs12 hs13 hsg
  go_wp2_with fail
  have hl4 := HG4.out.lt
  obtain ⟨V, hVd⟩ : ∃ V, V0.map (fun x => x % (n : Int)) = V := ⟨_, rfl⟩
  have hVl : V.length = lc := by rw [← hVd, List.length_map]; exact HV.out
  have HVL := Lib.hid hVl
  have HVD := Lib.hid hVd
  have HL4 := Lib.hid hl4
  clear hVl hVd hl4
  go_loopw [12] (fun jv wr => ∃ (k : Nat) (F' : Nat → Prop), jv = .int .i64 (k : Int) ∧ k ≤ lc ∧ NT wr q n (cutAll L0 (V.take k)) F' ∧ (∀ j, F' j → F j ∨ w4.heap.size ≤ j) ∧ Blk wr g 4 ((List.range n).map fun u : Nat => .bool (decide ((u : Int) ∈ V.take k))) ∧ Mod (fun j => F j ∨ j = g) w4 wr) (fun jv _ => lc - (intOf jv).toNat)
  case atStart => exact ⟨0, F, rfl, Nat.zero_le _, by rw [List.take_zero]; exact HN4.out, fun j hj => .inl hj, by rw [List.take_zero]; exact HG4.out, Mod.refl _ _⟩
  case round =>
    obtain ⟨k, F5, rfl, hk, hn5, hf5, hg5, hm5⟩ := hrel
    obtain ⟨w5, hw5⟩ : ∃ x : World, x = wr := ⟨_, rfl⟩
    subst hw5
    have hg5F : ∀ j, F5 j → j ≠ g := fun j hj e => by
      subst e
      rcases hf5 j hj with h | h
      · have := HFG.out j h; have := HSG.out; omega
      · have := HL4.out; omega
    have HN5 := Lib.hid hn5
    have HF5 := Lib.hid hf5
    have HG5 := Lib.hid hg5
    have HM5 := Lib.hid hm5
    have HGF := Lib.hid hg5F
    clear hn5 hf5 hg5 hm5 hg5F
    by_cases hkl : k < lc
    case pos =>
      have z0 : decide ((k : Int) < (lc : Int)) = true := by simp; omega
      have hkR : k < V0.length := by rw [HV.out]; exact hkl
      have hrd : Rd w5 1 (.slice av lc cv) lc (V0.map (Value.int .i64)) := (HRV.out.keep HM4.out (fun _ _ e => e)).keep HM5.out (fun j hj e => by
        have hz : w.heap.size ≤ j := e.elim (HF1.out j) (fun e => by have h1 := HSG.out; have h2 := HM1.out.size; omega)
        have h3 := congrArg List.length (HRV.out.lt hj hz)
        rw [List.length_map, HV.out] at h3
        simp at h3
        omega)
      obtain ⟨eb, eo, hpe, e0⟩ := rd1 hrd k hkR
      obtain ⟨x, hx⟩ : ∃ x, V0[k] = x := ⟨_, rfl⟩
      rw [hx] at e0
      have hiy := fun wx => run_indexS (P := Try.prog) wx 56 3 iI 1 Try.underlying56 hiI hsI av lc cv k hkl (hrd.some_ (by omega))
      rw [hpe] at hiy
      obtain ⟨vn, hvn⟩ := Int.eq_ofNat_of_zero_le (Int.emod_nonneg x (b := (n : Int)) (by omega))
      have hvl : vn < n := by have := Int.emod_lt_of_pos x (b := (n : Int)) (by omega); omega
      have hkV : k < V.length := by rw [HVL.out]; exact hkl
      have hvk : V[k] = (vn : Int) := by
        have h5 := HVD.out
        subst h5
        rw [List.getElem_map, hx, hvn]
      have hst := cutAll_step L0 V k hkV
      rw [hvk] at hst
      have htk : V.take (k + 1) = V.take k ++ [(vn : Int)] := by rw [List.take_succ_eq_append_getElem hkV, hvk]
      have hib := fun wx => run_indexS (P := Try.prog) wx 57 4 iB 1 Try.underlying57 hiB hsB (some ⟨g, 0, none⟩) n n vn hvl (by simp)
      rw [elemA_lit] at hib
      have hk1 : IntKind.i64.wrap ((k : Int) + 1) = ((k + 1 : Nat) : Int) := by rw [IntWalk.i64_in _ (by omega)]; omega
      have HST := Lib.hid hst
      have HTK := Lib.hid htk
      have HVN := Lib.hid hvn
      have HIB := Lib.hid hib
      have HK1 := Lib.hid hk1
      have hn0 : (0 : Int) < (n : Int) := by omega
      have hn1 : (n : Int) ≤ 4611686018427387904 := by omega
      clear hrd hpe hx hkV hvk hst htk hvn hib hk1 hkR
      go_wp2_with fail
      refine (round_any x (n : Int) _ hn0 hn1).mono ?_
      rintro e w' ⟨rfl, rfl⟩
      rw [HVN.out]
      clear e0 hiy
      go_wp2_with fail
      refine (nt_cut HN5.out (vn : Int)).mono ?_
      rintro e w6 ⟨rfl, F6, hn6, hf6, hm6⟩
      rw [show cutR n (cutAll L0 (V.take k)) (vn : Int) = cutAll L0 (V.take (k + 1)) from (if_pos ⟨by omega, by omega⟩ : _ = _).trans HST.out.symm] at hn6
      have hg6 := HG5.out.keep hm6 (fun e => HGF.out g e rfl)
      have ylt := hg6.lt
      have yff := hg6.free vn
      have yof := hg6.cell vn (by rw [List.getElem?_map, List.getElem?_range hvl]; rfl)
      have hib := HIB.out
      have HN6 := Lib.hid hn6
      have HF6 := Lib.hid hf6
      have HM6 := Lib.hid hm6
      have HG6 := Lib.hid hg6
      clear hn6 hf6 hm6 hg6
      go_wp2_with fail
      obtain ⟨w7, hw7⟩ : ∃ y, World.setCell w6 ⟨g, vn, none⟩ (.bool true) = y := ⟨_, rfl⟩
      have hm7 : Mod (fun j => j = g) w6 w7 := by rw [← hw7]; exact Mod.setCell _ _ _ rfl
      have hg7 := HG6.out.set vn (.bool true)
      rw [hw7, range_set] at hg7
      have hgx : upN (fun u : Nat => Value.bool (decide ((u : Int) ∈ V.take k))) vn (.bool true) = fun u : Nat => .bool (decide ((u : Int) ∈ V.take (k + 1))) := funext fun u => by
        rw [HTK.out]
        by_cases hu : u = vn
        · subst hu; rw [upN_at, decide_eq_true (by simp)]
        · rw [upN_ne _ _ hu]
          refine congrArg Value.bool (decide_eq_decide.2 ?_)
          simp; omega
      rw [hgx] at hg7
      (try rw [hw7])
      have hF6g : ∀ j, F6 j → j ≠ g := fun j hj e => by
        subst e
        rcases HF6.out j hj with h | h
        · exact HGF.out j h rfl
        · have h5 := HG5.out.lt; omega
      have HN7 := Lib.hid (HN6.out.keep hm7 (fun j hj e => hF6g j hj e))
      have HG7 := Lib.hid hg7
      have hs45 := HM5.out.size
      have HF7 : Hid (∀ j, F6 j → F j ∨ w4.heap.size ≤ j) := Lib.hid (fun j hj => (HF6.out j hj).elim (HF5.out j) (fun e => .inr (Nat.le_trans hs45 e)))
      have HM7 : Hid (Mod (fun j => F j ∨ j = g) w4 w7) := Lib.hid ((HM5.out.trans HM6.out (H := fun j => F j ∨ j = g) (fun _ _ e => e) (fun j hj e => (HF5.out j e).elim .inl (fun e => by omega))).trans hm7 (fun _ _ e => e) (fun _ _ e => .inr e))
      clear hw7 hm7 hg7 hgx hF6g hs45 ylt yff yof hib
      refine (nt_in HN7.out (vn : Int)).mono ?_
      rw [show inL (cutAll L0 (V.take (k + 1))) (vn : Int) = [] from by rw [HST.out]; exact cutN_in _ _]
      rintro e w8 ⟨a8, c8, rfl, _, hm8⟩
      have HM8 := Lib.hid hm8
      clear hm8
      simp only [List.length_nil]
      go_wp2_with fail
      refine (nt_out (HN7.out.later HM8.out) (vn : Int)).mono ?_
      rw [show outL (cutAll L0 (V.take (k + 1))) (vn : Int) = [] from by rw [HST.out]; exact cutN_out _ _]
      rintro e w9 ⟨a9, c9, rfl, _, hm9⟩
      have HM9 := Lib.hid (HM8.out.of2 hm9)
      have hk1 := HK1.out
      clear hm9
      simp only [List.length_nil]
      go_wp2_with fail
      go_roundw
      case rel => exact ⟨k + 1, F6, rfl, by omega, HN7.out.later HM9.out, HF7.out, HG7.out.keep HM9.out (fun e => e), HM7.out.trans HM9.out (fun _ _ e => e) (fun _ _ e => e.elim)⟩
      case measure => simp [intOf]; omega
    case neg =>
      obtain rfl : k = lc := by omega
      have z0 : decide ((k : Int) < (k : Int)) = false := by simp
      have htv : V.take k = V := List.take_of_length_le (Nat.le_of_eq HVL.out)
      have hn5 := HN5.out
      have hg5 := HG5.out
      rw [htv] at hn5 hg5
      rw [cutAll_eq] at hn5
      have hno5 := HO4.out.keep HM5.out (fun j hj e => by
        rcases e with e | e
        · have h5 := HFO.out j hj; have h6 := HFG.out j e; have h7 := HM2.out.size; omega
        · have h5 := HOG.out j hj; omega)
      have hoa5 := Own.keep HOA4.out HM5.out (fun j hj e => by
        rcases e with e | e
        · have h5 := (HOA4.out.lt j hj).1; have h6 := HFG.out j e; omega
        · have h5 := HAG.out j hj; omega)
      have hmw : Mod (fun _ => False) w w5 := HM4.out.trans HM5.out (fun _ _ e => e) (fun j hj e => by
        rcases e with e | e
        · have := HF1.out j e; omega
        · have h5 := HSG.out; have h6 := HM1.out.size; omega)
      have HNX := Lib.hid hn5
      have HGX := Lib.hid hg5
      have HOX := Lib.hid hno5
      have HAX := Lib.hid hoa5
      have HMX := Lib.hid hmw
      clear htv hn5 hg5 hno5 hoa5 hmw
      go_wp2_with fail
      go_loopw [14, 15] (fun gv jv wr => ∃ (j m : Nat) (ag : Option Addr) (cg : Nat), gv = .slice ag m cg ∧ jv = .int .i64 (j : Int) ∧ j ≤ la ∧ ((L0.take j).filter (keptB V)).length = m ∧ wr.ownsRow w5.heap.size 32 4 (.slice ag m cg) m (((L0.take j).filter (keptB V)).flatMap c4) ∧ Mod (fun _ => False) w5 wr) (fun _ jv _ => la - (intOf jv).toNat)
      case atStart => exact ⟨0, 0, none, 0, rfl, rfl, Nat.zero_le _, by rw [List.take_zero]; rfl, World.ownsRow_nil _ _ _ _, Mod.refl _ _⟩
      case round =>
        obtain ⟨j, mm, ag, cg, rfl, rfl, hj, hml, hown, hmo⟩ := hrel
        obtain ⟨wo, hwo⟩ : ∃ x : World, x = wr := ⟨_, rfl⟩
        subst hwo
        have HOW := Lib.hid hown
        have HMO := Lib.hid hmo
        have HML := Lib.hid hml
        have hla5 : la ≤ 100000 := by have h5 := HLE.out; rw [HLA.out] at h5; omega
        have hmm5 : mm ≤ la := by
          have h5 := List.length_filter_le (keptB V) (L0.take j)
          rw [List.length_take] at h5
          omega
        clear hown hmo hml
        by_cases hjl : j < la
        case pos =>
          have z1 : decide ((j : Int) < (la : Int)) = true := by simp; omega
          have z1n : decide (j < la) = true := by simp; omega
          have hjR : j < L0.length := by rw [HLA.out]; exact hjl
          have hrd := (Rd.ofOwn HAX.out).keep HMO.out (fun _ _ e => e)
          obtain ⟨eb, eo, hpe, e0, e1, e2, e3⟩ := rd4 hrd j hjR
          obtain ⟨b, hb⟩ : ∃ b, L0[j] = b := ⟨_, rfl⟩
          have hbm : b ∈ L0 := by rw [← hb]; exact List.getElem_mem hjR
          have hmay := HN1.out.ok.may b hbm
          unfold mayA at hmay
          have hst : (L0.take (j + 1)).filter (keptB V) = (L0.take j).filter (keptB V) ++ [b].filter (keptB V) := by rw [List.take_succ_eq_append_getElem hjR, List.filter_append, hb]
          rw [hb] at e0 e1 e2 e3
          obtain ⟨bf, bt, bw, bm⟩ := b
          simp only at e0 e1 e2 e3 hmay
          obtain ⟨fn, rfl⟩ := Int.eq_ofNat_of_zero_le hmay.1
          obtain ⟨tn, rfl⟩ := Int.eq_ofNat_of_zero_le hmay.2.2.1
          have hfn : fn < n := by omega
          have htn : tn < n := by omega
          have x0 : decide ((fn : Int) < 0) = false := by simp
          have x1 : decide ((n : Int) ≤ (fn : Int)) = false := by simp; omega
          have x2 : decide ((tn : Int) < 0) = false := by simp
          have x3 : decide ((n : Int) ≤ (tn : Int)) = false := by simp; omega
          have hiz := fun wx => run_indexS (P := Try.prog) wx 22 32 iA 4 Try.underlying22 hiA hsA aa la ca j hjl (hrd.some_ (by omega))
          rw [hpe] at hiz
          have hif := fun wx => run_indexS (P := Try.prog) wx 57 4 iB 1 Try.underlying57 hiB hsB (some ⟨g, 0, none⟩) n n fn hfn (by simp)
          rw [elemA_lit] at hif
          have hit := fun wx => run_indexS (P := Try.prog) wx 57 4 iB 1 Try.underlying57 hiB hsB (some ⟨g, 0, none⟩) n n tn htn (by simp)
          rw [elemA_lit] at hit
          have hgo := HGX.out.keep HMO.out (fun e => e)
          have u0 : wo.cell? ⟨g, fn, none⟩ = some (.bool (decide ((fn : Int) ∈ V))) := hgo.cell fn (by rw [List.getElem?_map, List.getElem?_range hfn]; rfl)
          have u1 : wo.cell? ⟨g, tn, none⟩ = some (.bool (decide ((tn : Int) ∈ V))) := hgo.cell tn (by rw [List.getElem?_map, List.getElem?_range htn]; rfl)
          have hk1 : IntKind.i64.wrap ((j : Int) + 1) = ((j + 1 : Nat) : Int) := by rw [IntWalk.i64_in _ (by omega)]; omega
          have hkb : keptB V ⟨(fn : Int), (tn : Int), bw, bm⟩ = (decide ((fn : Int) ∉ V) && decide ((tn : Int) ∉ V)) := rfl
          have HST := Lib.hid hst
          have HKB := Lib.hid hkb
          clear hrd hpe hb hbm hst hkb hgo hmay hjR
          by_cases c1 : (fn : Int) ∈ V
          · rw [decide_eq_true c1] at u0
            have hkf : [(⟨(fn : Int), (tn : Int), bw, bm⟩ : Ar)].filter (keptB V) = [] := by simp [HKB.out, c1]
            have HKF := Lib.hid hkf
            clear hkf c1 u1 hit
            go_wp2_with fail
            go_roundw
            case rel => exact ⟨j + 1, mm, ag, cg, rfl, by go_num, by omega, by rw [HST.out, HKF.out, List.append_nil]; exact HML.out, by rw [HST.out, HKF.out, List.append_nil]; exact HOW.out, HMO.out⟩
            case measure => simp [intOf]; omega
          · rw [decide_eq_false c1] at u0
            by_cases c2 : (tn : Int) ∈ V
            · rw [decide_eq_true c2] at u1
              have hkf : [(⟨(fn : Int), (tn : Int), bw, bm⟩ : Ar)].filter (keptB V) = [] := by simp [HKB.out, c2]
              have HKF := Lib.hid hkf
              clear hkf c1 c2
              go_wp2_with fail
              go_roundw
              case rel => exact ⟨j + 1, mm, ag, cg, rfl, by go_num, by omega, by rw [HST.out, HKF.out, List.append_nil]; exact HML.out, by rw [HST.out, HKF.out, List.append_nil]; exact HOW.out, HMO.out⟩
              case measure => simp [intOf]; omega
            · rw [decide_eq_false c2] at u1
              have hkf : [(⟨(fn : Int), (tn : Int), bw, bm⟩ : Ar)].filter (keptB V) = [⟨(fn : Int), (tn : Int), bw, bm⟩] := by simp [HKB.out, c1, c2]
              have HKF := Lib.hid hkf
              clear hkf c1 c2
              have hmx1 : mm + 1 ≤ maxLen := by unfold maxLen; omega
              have hob := fun o1 => Own.base (Own.keep HOW.out (Mod.alloc (fun _ => False) wo o1) (fun _ _ e => e)) (Nat.zero_le _)
              go_wp2_with (at_builtin; refine wpList_append_any rfl (.tmp 135) (.tmp 140) 22 rfl 32 iA (.agg #[.int .i64 0, .int .i64 0, .int .i64 0, .int .i64 0]) 4 32 Try.underlying22 hiA hzA hsA hbA rfl (by decide) _ mm (((L0.take j).filter (keptB V)).flatMap c4) rfl (hob _) _ 1 [.int .i64 (fn : Int), .int .i64 (tn : Int), .int .i64 bw, .int .i64 bm] rfl (by exact Rd.litN 32 4 [.int .i64 (fn : Int), .int .i64 (tn : Int), .int .i64 bw, .int .i64 bm] (0, 0) _ 1 (by first | rfl | simp) rfl (by decide)) (by intro u hu; simp at hu; rcases hu with rfl | rfl | rfl | rfl <;> rfl) hmx1 (by omega) ?_; intro v7 w7 hap; obtain ⟨a7, c7, rfl⟩ := hap.form; have HAPP := Lib.hid hap; clear hap hob)
              have hlow : ∀ q, (Value.slice ag mm cg).ownBlock = some q → w5.heap.size ≤ q := fun q hq => (HOW.out.lt q hq).1
              have hs2 : w5.heap.size ≤ wo.heap.size := HMO.out.size
              have ho7 := HAPP.out.own
              have lo7 := HAPP.out.low (B := w5.heap.size) (by simp; omega) hlow
              have hm7 := HAPP.out.modOld (W0 := w5) (HMO.out.of2 (Mod.alloc (fun _ => False) wo _)) hlow
              have hst := HST.out
              rw [HKF.out] at hst
              have hx7 : ((L0.take j).filter (keptB V)).flatMap c4 ++ [.int .i64 (fn : Int), .int .i64 (tn : Int), .int .i64 bw, .int .i64 bm] = ((L0.take (j + 1)).filter (keptB V)).flatMap c4 := by rw [hst, List.flatMap_append]; rfl
              have hl7 : ((L0.take (j + 1)).filter (keptB V)).length = mm + 1 := by rw [hst, List.length_append, HML.out]; rfl
              rw [hx7] at ho7
              have HO7 := Lib.hid (Own.rebase ho7 lo7)
              have HM7 := Lib.hid hm7
              have HL7 := Lib.hid hl7
              clear ho7 lo7 hm7 hx7 hlow hs2 hst hl7
              go_wp2_with fail
              go_roundw
              case rel => exact ⟨j + 1, mm + 1, a7, c7, rfl, by go_num, by omega, HL7.out, HO7.out, HM7.out⟩
              case measure => simp [intOf]; omega
        case neg =>
          obtain rfl : j = la := by omega
          have z1 : decide ((j : Int) < (j : Int)) = false := by simp
          have z1n : decide (j < j) = false := by simp
          have ht : L0.take j = L0 := List.take_of_length_le (Nat.le_of_eq HLA.out)
          have h8 := HML.out
          have h9 := HOW.out
          rw [ht] at h8 h9
          have HM8 := Lib.hid h8
          have HO8 := Lib.hid h9
          clear ht h8 h9
          go_wp2_with fail
          refine (nt_all (HNX.out.later HMO.out)).mono ?_
          rintro e wa ⟨ab, cb, rfl, hob, hma⟩
          rw [HM8.out] at hob ⊢
          have HOB := Lib.hid hob
          have HMA := Lib.hid hma
          clear hob hma
          go_wp2_with fail
          refine (same13_any wa (L0.filter (keptB V)) ab mm cb ag cg HM8.out (by omega) (Rd.ofOwn HOB.out) ((Rd.ofOwn HO8.out).keep HMA.out (fun _ _ e => e))).mono ?_
          rintro e wb ⟨rfl, hmb⟩
          have HMB := Lib.hid ((HMO.out.of2 HMA.out).of2 hmb)
          clear hmb
          go_wp2_with fail
          refine (nt_all (HOX.out.later HMB.out)).mono ?_
          rintro e wc ⟨ad, cd, rfl, hod, hmc⟩
          rw [HLA.out] at hod ⊢
          have HOD := Lib.hid hod
          have HMC := Lib.hid (HMB.out.of2 hmc)
          clear hod hmc
          go_wp2_with fail
          refine (same13_any wc L0 ad j cd aa ca HLA.out (by omega) (Rd.ofOwn HOD.out) ((Rd.ofOwn HAX.out).keep HMC.out (fun _ _ e => e))).mono ?_
          rintro e wd ⟨rfl, hmd⟩
          have HMDD := Lib.hid (HMC.out.of2 hmd)
          clear hmd
          go_wp2_with fail
          refine (nt_len (HNX.out.later HMDD.out)).mono ?_
          rintro e we ⟨rfl, rfl⟩
          go_wp2_with fail
          refine (awake13_any _).mono ?_
          rintro e wf ⟨rfl, hmf⟩
          have HMF := Lib.hid (HMDD.out.of2 hmf)
          clear hmf
          go_wp2_with fail
          go_ret
          exact ⟨rfl, HMX.out.of2 HMF.out⟩
end Go.Proofs.Ytnklgeekjkchbaa
