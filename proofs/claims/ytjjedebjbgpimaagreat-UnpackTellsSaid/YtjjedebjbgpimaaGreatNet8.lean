/- Nets: Cut, by contract. -/
import Derived.Test.YtjjedebjbgpimaaGreatNet7
namespace Mile
open Go Go.RowKit
def dI (L : List Ar) (v : Int) (S : List Int) : Nat → List Int := fun u => if (u : Int) ∈ S then delI (inF L (u : Int)) v else inF L (u : Int)
def dR (L : List Ar) (v : Int) (S : List Int) : Nat → List Ar := fun u => if (u : Int) ∈ S then delR (outL L (u : Int)) v else outL L (u : Int)
theorem dI_step (L : List Ar) (v : Int) (S : List Int) (t : Nat) : upN (dI L v S) t (delI (inF L (t : Int)) v) = dI L v (S ++ [(t : Int)]) := funext fun u => by
  by_cases h : u = t
  · subst h; rw [upN_at]; unfold dI; rw [if_pos (by simp)]
  · rw [upN_ne _ _ h]; unfold dI
    have : ((u : Int) ∈ S ++ [(t : Int)]) ↔ (u : Int) ∈ S := by simp; omega
    simp only [this]
theorem dR_step (L : List Ar) (v : Int) (S : List Int) (t : Nat) : upN (dR L v S) t (delR (outL L (t : Int)) v) = dR L v (S ++ [(t : Int)]) := funext fun u => by
  by_cases h : u = t
  · subst h; rw [upN_at]; unfold dR; rw [if_pos (by simp)]
  · rw [upN_ne _ _ h]; unfold dR
    have : ((u : Int) ∈ S ++ [(t : Int)]) ↔ (u : Int) ∈ S := by simp; omega
    simp only [this]
theorem dI_nil (L : List Ar) (v : Int) : dI L v [] = fun z : Nat => inF L (z : Int) := funext fun u => by unfold dI; rw [if_neg (by simp)]
theorem dR_nil (L : List Ar) (v : Int) : dR L v [] = fun z : Nat => outL L (z : Int) := funext fun u => by unfold dR; rw [if_neg (by simp)]
theorem dI_not (L : List Ar) (v : Int) {S : List Int} {u : Nat} (h : (u : Int) ∉ S) : dI L v S u = inF L (u : Int) := if_neg h
theorem dR_not (L : List Ar) (v : Int) {S : List Int} {u : Nat} (h : (u : Int) ∉ S) : dR L v S u = outL L (u : Int) := if_neg h
theorem dI_all (L : List Ar) (v : Int) : dI L v ((outL L v).map (·.t)) = fun z : Nat => delI (inF L (z : Int)) v := funext fun u => by
  unfold dI
  by_cases h : (u : Int) ∈ (outL L v).map (·.t)
  · rw [if_pos h]
  · rw [if_neg h, delI_none]
    intro hv
    obtain ⟨b, hb, h1, h2⟩ := mem_inF.1 hv
    exact h (List.mem_map.2 ⟨b, mem_outL.2 ⟨hb, h1⟩, h2⟩)
theorem dR_all (L : List Ar) (v : Int) : dR L v (inF L v) = fun z : Nat => delR (outL L (z : Int)) v := funext fun u => by
  unfold dR
  by_cases h : (u : Int) ∈ inF L v
  · rw [if_pos h]
  · rw [if_neg h, delR_none]
    cases hi : isR (outL L (u : Int)) v with
    | false => rfl
    | true =>
      obtain ⟨b, hb, h1, h2⟩ := isR_mem.1 hi
      exact absurd (mem_inF.2 ⟨b, hb, h1, h2⟩) h
theorem take_at {α : Type} {R : List α} {k : Nat} (h : k < R.length) : R.take (k + 1) = R.take k ++ [R[k]] := List.take_succ_eq_append_getElem h
theorem rise_not {R : List Ar} (hr : RiseR R) {k : Nat} (hk : k < R.length) : R[k].t ∉ (R.take k).map (·.t) := fun h => by
  obtain ⟨b, hb, he⟩ := List.mem_map.1 h
  obtain ⟨i, hi, hbi⟩ := List.getElem_of_mem hb
  rw [List.getElem_take] at hbi
  rw [List.length_take] at hi
  have := List.pairwise_iff_getElem.1 hr i k (by omega) hk (by omega)
  rw [hbi, he] at this
  omega
theorem riseI_not {R : List Int} (hr : RiseI R) {k : Nat} (hk : k < R.length) : R[k] ∉ R.take k := fun h => by
  obtain ⟨i, hi, hbi⟩ := List.getElem_of_mem h
  rw [List.getElem_take] at hbi
  rw [List.length_take] at hi
  have := List.pairwise_iff_getElem.1 hr i k (by omega) hk (by omega)
  rw [hbi] at this
  omega
def cutR (n : Nat) (L : List Ar) (v : Int) : List Ar := if 0 ≤ v ∧ v < (n : Int) then cutN L v else L
end Mile
namespace Go.Proofs.YtjjedebjbgpimaaGreat
open Go.RowKit Mile
set_option maxRecDepth 100000
section
variable {w wr w5 W : World} {p n ob ib : Nat} {oa ia : Nat → Option Addr} {oc ic : Nat → Nat} {ro : Nat → List Ar} {ri : Nat → List Int} {F : Nat → Prop}
theorem NM.turnI {t lm c' : Nat} {a' : Option Addr} {R' : List Int} (h : NM wr p n ob ib oa ia oc ic ro ri) (hnw : ∀ j, nmF p ob ib n oa ia j → F j ∨ w.heap.size ≤ j) (hmd : Mod F w wr) (m5 : Mod (fun _ => False) wr w5) (ht : t < n) (q : RowQ w5 (.slice (ia t) lm (ic t)) 3 1 R'.length (R'.map (Value.int .i64)) (.slice a' R'.length c') W) :
    NM (W.setCell ⟨ib, t, none⟩ (.slice a' R'.length c')) p n ob ib oa (upN ia t a') oc (upN ic t c') ro (upN ri t R') ∧ (∀ j, nmF p ob ib n oa (upN ia t a') j → F j ∨ w.heap.size ≤ j) ∧ Mod F w (W.setCell ⟨ib, t, none⟩ (.slice a' R'.length c')) := by
  obtain ⟨_, ho, hm, hq⟩ := q
  have hst := (h.later m5).setI (v := t) (a' := a') (c' := c') (R' := R') ht ho hm (fun k hk => by rw [← hk]; exact own_slice _ _ _ _ _) (fun k hk => (hq k (by rw [← hk]; exact own_slice _ _ _ _ _)).imp (fun e => by rw [← e]; exact own_slice _ _ _ _ _) id)
  have hz : w.heap.size ≤ w5.heap.size := Nat.le_trans hmd.size m5.size
  refine ⟨hst.1, fun j hj => ?_, (hmd.trans m5 (H := F) (fun _ _ e => e) (fun _ _ e => e.elim)).trans hst.2 (fun _ _ e => e) (fun k hk e => ?_)⟩
  · rcases hj with e | e | e | e | ⟨u, hu, e⟩
    · exact hnw j (.inl e)
    · exact hnw j (.inr (.inl e))
    · exact hnw j (.inr (.inr (.inl e)))
    · exact hnw j (.inr (.inr (.inr (.inl e))))
    · by_cases huf : u = t
      · subst huf
        rw [upN_at] at e
        rcases hq j (by rw [← e]; exact own_slice _ _ _ _ _) with g | g
        · exact hnw j (.inr (.inr (.inr (.inr ⟨u, hu, by rw [← g]; exact own_slice _ _ _ _ _⟩))))
        · exact .inr (Nat.le_trans hz g)
      · rw [upN_ne _ _ huf] at e
        exact hnw j (.inr (.inr (.inr (.inr ⟨u, hu, e⟩))))
  · have hf : nmF p ob ib n oa ia k := e.elim (fun e => .inr (.inr (.inl e))) (fun e => .inr (.inr (.inr (.inr ⟨t, ht, e⟩))))
    rcases hnw k hf with g | g
    · exact g
    · omega
theorem NM.turnO {t lm c' : Nat} {a' : Option Addr} {R' : List Ar} (h : NM wr p n ob ib oa ia oc ic ro ri) (hnw : ∀ j, nmF p ob ib n oa ia j → F j ∨ w.heap.size ≤ j) (hmd : Mod F w wr) (m5 : Mod (fun _ => False) wr w5) (ht : t < n) (q : RowQ w5 (.slice (oa t) lm (oc t)) 50 4 R'.length (R'.flatMap c4) (.slice a' R'.length c') W) :
    NM (W.setCell ⟨ob, t, none⟩ (.slice a' R'.length c')) p n ob ib (upN oa t a') ia (upN oc t c') ic (upN ro t R') ri ∧ (∀ j, nmF p ob ib n (upN oa t a') ia j → F j ∨ w.heap.size ≤ j) ∧ Mod F w (W.setCell ⟨ob, t, none⟩ (.slice a' R'.length c')) := by
  obtain ⟨_, ho, hm, hq⟩ := q
  have hst := (h.later m5).setO (v := t) (a' := a') (c' := c') (R' := R') ht ho hm (fun k hk => by rw [← hk]; exact own_slice _ _ _ _ _) (fun k hk => (hq k (by rw [← hk]; exact own_slice _ _ _ _ _)).imp (fun e => by rw [← e]; exact own_slice _ _ _ _ _) id)
  have hz : w.heap.size ≤ w5.heap.size := Nat.le_trans hmd.size m5.size
  refine ⟨hst.1, fun j hj => ?_, (hmd.trans m5 (H := F) (fun _ _ e => e) (fun _ _ e => e.elim)).trans hst.2 (fun _ _ e => e) (fun k hk e => ?_)⟩
  · rcases hj with e | e | e | ⟨u, hu, e⟩ | e
    · exact hnw j (.inl e)
    · exact hnw j (.inr (.inl e))
    · exact hnw j (.inr (.inr (.inl e)))
    · by_cases huf : u = t
      · subst huf
        rw [upN_at] at e
        rcases hq j (by rw [← e]; exact own_slice _ _ _ _ _) with g | g
        · exact hnw j (.inr (.inr (.inr (.inl ⟨u, hu, by rw [← g]; exact own_slice _ _ _ _ _⟩))))
        · exact .inr (Nat.le_trans hz g)
      · rw [upN_ne _ _ huf] at e
        exact hnw j (.inr (.inr (.inr (.inl ⟨u, hu, e⟩))))
    · exact hnw j (.inr (.inr (.inr (.inr e))))
  · have hf : nmF p ob ib n oa ia k := e.elim (fun e => .inr (.inl e)) (fun e => .inr (.inr (.inr (.inl ⟨t, ht, e⟩))))
    rcases hnw k hf with g | g
    · exact g
    · omega
end
def cut4_F (w5 : World) (p g ib n tn v lm : Nat) (ia1 : Nat → Option Addr) (ic1 : Nat → Nat) (L : List Ar) : List (Bool × (Value → World → Prop)) :=
  [(true, IsV (.pointer (some ⟨p, 0, none⟩))),
   (true, IsV (.pointer (some ⟨p, 0, none⟩))),
   (true, IsV (.pointer (some ⟨p, 1, none⟩))),
   (true, IsV (.slice (some ⟨ib, 0, none⟩) n n)),
   (true, IsV (.pointer (some ⟨g, 1, none⟩))),
   (true, IsV (.int .i64 (tn : Int))),
   (true, IsV (.pointer (some ⟨p, 0, none⟩))),
   (true, IsV (.pointer (some ⟨p, 0, none⟩))),
   (true, IsV (.pointer (some ⟨p, 1, none⟩))),
   (true, IsV (.slice (some ⟨ib, 0, none⟩) n n)),
   (true, IsV (.pointer (some ⟨g, 1, none⟩))),
   (true, IsV (.int .i64 (tn : Int))),
   (true, IsV (.pointer (some ⟨ib, tn, none⟩))),
   (true, IsV (.slice (ia1 tn) lm (ic1 tn))),
   (true, IsV (.int .i64 (v : Int))),
   (false, RowQ w5 (.slice (ia1 tn) lm (ic1 tn)) 3 1 (delI (inF L (tn : Int)) (v : Int)).length ((delI (inF L (tn : Int)) (v : Int)).map (Value.int .i64))),
   (true, IsV (.pointer (some ⟨ib, tn, none⟩)))]
def cut4_D : List (List Nat) := [[], [0], [1], [2], [], [4], [], [6], [7], [8], [], [10], [9, 11], [12], [], [13, 14], [3, 5]]
def cut4_C : List Nat := [1000, 1000, 1000, 1000, 1000, 1000, 1000, 1000, 1000, 1000, 1000, 1000, 1000, 1000, 1000, 1000, 1000]
def cut10_F (w5 : World) (p ob n fn v lo ps : Nat) (oa2 : Nat → Option Addr) (oc2 : Nat → Nat) (L : List Ar) : List (Bool × (Value → World → Prop)) :=
  [(true, IsV (.pointer (some ⟨p, 0, none⟩))),
   (true, IsV (.pointer (some ⟨p, 0, none⟩))),
   (true, IsV (.pointer (some ⟨p, 0, none⟩))),
   (true, IsV (.slice (some ⟨ob, 0, none⟩) n n)),
   (true, IsV (.int .i64 (fn : Int))),
   (true, IsV (.pointer (some ⟨p, 0, none⟩))),
   (true, IsV (.pointer (some ⟨p, 0, none⟩))),
   (true, IsV (.pointer (some ⟨p, 0, none⟩))),
   (true, IsV (.slice (some ⟨ob, 0, none⟩) n n)),
   (true, IsV (.int .i64 (fn : Int))),
   (true, IsV (.pointer (some ⟨ob, fn, none⟩))),
   (true, IsV (.slice (oa2 fn) lo (oc2 fn))),
   (true, IsV (.int .i64 (ps : Int))),
   (true, IsV (.int .i64 (ps : Int))),
   (true, IsV (.int .i64 ((ps : Int) + 1))),
   (false, RowQ w5 (.slice (oa2 fn) lo (oc2 fn)) 50 4 (delR (outL L (fn : Int)) (v : Int)).length ((delR (outL L (fn : Int)) (v : Int)).flatMap c4)),
   (true, IsV (.pointer (some ⟨ob, fn, none⟩)))]
def cut10_D : List (List Nat) := [[], [0], [1], [2], [], [], [5], [6], [7], [], [8, 9], [10], [], [], [13], [11, 12, 14], [3, 4]]
def cut10_C : List Nat := [1000, 1000, 1000, 1000, 1000, 1000, 1000, 1000, 1000, 1000, 1000, 1000, 1000, 1000, 1000, 1000, 1000]
section
variable {w w' : World} {p n : Nat} {L : List Ar} {F : Nat → Prop}
set_option maxHeartbeats 16000000 in
theorem nt_cut (h : NT w p n L F) (v : Int) : Calls Tryz.prog 92 #[.pointer (some ⟨p, 0, none⟩), .int .i64 v] w fun e w' => e = .returned (.tuple #[]) ∧ NQ p n (cutR n L v) F w w' := by
  by_cases hf : 0 ≤ v ∧ v < (n : Int)
  case neg =>
    have HH := Lib.hid (nt_has h v false (decide_eq_false hf))
    have hres : cutR n L v = L := if_neg hf
    rw [hres]
    have HN := Lib.hid h
    clear h hf hres
    go_enter Tryz.func92, Tryz.ntmps92
    go_wp2_with fail
    refine HH.out.mono ?_
    rintro e w' ⟨rfl, rfl⟩
    go_wp2_with fail
    refine bodyPost_ret (results_none rfl _ _ _) rfl ?_
    exact ⟨rfl, NQ.same HN.out (Mod.refl _ _)⟩
  case pos =>
    have HH := Lib.hid (nt_has h v true (decide_eq_true hf))
    have hres : cutR n L v = cutN L v := if_pos hf
    rw [hres]
    obtain ⟨v, rfl⟩ := Int.eq_ofNat_of_zero_le hf.1
    have hv : v < n := by omega
    have hok := h.ok
    have h512 := h.n512
    have hrise := outL_rise hok.sort (v : Int)
    have hriseI := inF_rise hok.sort (v : Int)
    have hlen := outL_len hok (v : Int)
    have hlenI := inF_len hok (v : Int)
    obtain ⟨_, _, ob, ib, oa, ia, oc, ic, hn, rfl⟩ := h
    obtain ⟨F, hF⟩ : ∃ F, nmF p ob ib n oa ia = F := ⟨_, rfl⟩
    have hnw : ∀ j, nmF p ob ib n oa ia j → F j ∨ w.heap.size ≤ j := fun j hj => .inl (hF ▸ hj)
    rw [hF]
    clear hF
    obtain ⟨iA, hiA, hzA, hsA, hbA⟩ := info_parts Nt.infoA
    obtain ⟨iI, hiI, hzI, hsI, hbI⟩ := info_parts Nt.infoI
    obtain ⟨iS, hiS, hzS, hsS, hbS⟩ := info_parts Nt.infoSA
    obtain ⟨iT, hiT, hzT, hsT, hbT⟩ := info_parts Nt.infoSI
    have HIX := Lib.hid (fun (k : Nat) (hk : k < n) wx => by have hh := run_indexS (P := Tryz.prog) wx 88 34 iS 1 Tryz.underlying88 hiS hsS (some ⟨ob, 0, none⟩) n n k hk (by simp); rw [elemA_lit] at hh; exact hh)
    have HIY := Lib.hid (fun (k : Nat) (hk : k < n) wx => by have hh := run_indexS (P := Tryz.prog) wx 89 40 iT 1 Tryz.underlying89 hiT hsT (some ⟨ib, 0, none⟩) n n k hk (by simp); rw [elemA_lit] at hh; exact hh)
    obtain ⟨ln, hln⟩ : ∃ x, (outL L (v : Int)).length = x := ⟨_, rfl⟩
    obtain ⟨lv, hlv⟩ : ∃ x, (inF L (v : Int)).length = x := ⟨_, rfl⟩
    rw [hln] at hlen
    rw [hlv] at hlenI
    have yp0 := hn.blk.cell 0 rfl
    have yov := hn.ocell hv
    simp only [hln] at yov
    have hix := HIX.out v hv
    have HOK := Lib.hid hok
    have HRISE := Lib.hid hrise
    have HRISEI := Lib.hid hriseI
    have HLN := Lib.hid hln
    have HLV := Lib.hid hlv
    have HV := Lib.hid hv
    have HNW := Lib.hid hnw
    have HN := Lib.hid hn
    clear hok hrise hriseI hln hlv hnw hn hres hf
    go_enter Tryz.func92, Tryz.ntmps92
    go_wp2_with fail
    refine HH.out.mono ?_
    rintro e w' ⟨rfl, rfl⟩
    clear HH
    go_wp2_with fail
    go_loopw [22] (fun jv wr => ∃ (k : Nat) (ia' : Nat → Option Addr) (ic' : Nat → Nat), jv = .int .i64 (k : Int) ∧ k ≤ ln ∧ NM wr p n ob ib oa ia' oc ic' (fun z : Nat => outL L (z : Int)) (dI L (v : Int) (((outL L (v : Int)).take k).map (·.t))) ∧ (∀ j, nmF p ob ib n oa ia' j → F j ∨ w.heap.size ≤ j) ∧ Mod F w wr) (fun jv _ => ln - (intOf jv).toNat)
    case atStart => exact ⟨0, ia, ic, rfl, Nat.zero_le _, by rw [List.take_zero, List.map_nil, dI_nil]; exact HN.out, HNW.out, Mod.refl _ _⟩
    case round =>
      obtain ⟨k, ia1, ic1, rfl, hk, hn1, hnw1, hmd1⟩ := hrel
      obtain ⟨w1, hw1⟩ : ∃ x : World, x = wr := ⟨_, rfl⟩
      subst hw1
      clear yp0 yov hix
      by_cases hkl : k < ln
      case pos =>
        have z0 : decide ((k : Int) < (ln : Int)) = true := by simp; omega
        have hkR : k < (outL L (v : Int)).length := by rw [HLN.out]; exact hkl
        have how := hn1.ow v hv
        simp only [HLN.out] at how
        obtain ⟨eb, eo, hpe, e0, e1, e2, e3⟩ := rd4 (Rd.ofOwn how) k hkR
        obtain ⟨b, hb⟩ : ∃ b, (outL L (v : Int))[k] = b := ⟨_, rfl⟩
        have hbm : b ∈ outL L (v : Int) := by rw [← hb]; exact List.getElem_mem hkR
        rw [hb] at e0 e1 e2 e3
        obtain ⟨hbL, hbf⟩ := mem_outL.1 hbm
        have hmay := HOK.out.may b hbL
        unfold mayA at hmay
        obtain ⟨tn, htb⟩ := Int.eq_ofNat_of_zero_le hmay.2.2.1
        have htn : tn < n := by omega
        have hnot : (tn : Int) ∉ ((outL L (v : Int)).take k).map (·.t) := by rw [← htb, ← hb]; exact rise_not HRISE.out hkR
        have hvi : (v : Int) ∈ inF L (tn : Int) := mem_inF.2 ⟨b, hbL, hbf, htb⟩
        have htk : ((outL L (v : Int)).take k).map (·.t) ++ [(tn : Int)] = ((outL L (v : Int)).take (k + 1)).map (·.t) := by rw [take_at hkR, List.map_append, hb, List.map_cons, List.map_nil, htb]
        obtain ⟨bw, hbw⟩ : ∃ x, b.w = x := ⟨_, rfl⟩
        obtain ⟨bm, hbm2⟩ : ∃ x, b.m = x := ⟨_, rfl⟩
        rw [hbf] at e0
        rw [htb] at e1
        rw [hbw] at e2
        rw [hbm2] at e3
        have hiz := fun wx => run_indexS (P := Tryz.prog) wx 34 50 iA 4 Tryz.underlying34 hiA hsA (oa v) ln (oc v) k hkl ((Rd.ofOwn how).some_ (by omega))
        rw [hpe] at hiz
        have hk1 : IntKind.i64.wrap ((k : Int) + 1) = ((k + 1 : Nat) : Int) := by rw [IntWalk.i64_in _ (by omega)]; omega
        have HK1 := Lib.hid hk1
        have HN1 := Lib.hid hn1
        have HNW1 := Lib.hid hnw1
        have HMD1 := Lib.hid hmd1
        have HNOT := Lib.hid hnot
        have HVI := Lib.hid hvi
        have HTK := Lib.hid htk
        have HTN := Lib.hid htn
        clear hk1 hn1 hnw1 hmd1 hnot hvi htk hb hbm hbL hbf hmay htb hbw hbm2 how hkR hpe
        go_upto_region 4 with fail
        obtain ⟨g, hg⟩ : ∃ y, w1.heap.size = y := ⟨_, rfl⟩
        obtain ⟨w5, hw5⟩ : ∃ y, w1.alloc (.cells #[.int .i64 (v : Int), .int .i64 (tn : Int), .int .i64 bw, .int .i64 bm] 50) = y := ⟨_, rfl⟩
        have hg5 : Blk w5 g 50 [.int .i64 (v : Int), .int .i64 (tn : Int), .int .i64 bw, .int .i64 bm] := by rw [← hw5, ← hg]; exact Blk.new w1 50 [.int .i64 (v : Int), .int .i64 (tn : Int), .int .i64 bw, .int .i64 bm]
        have hm5 : Mod (fun _ => False) w1 w5 := by rw [← hw5]; exact Mod.alloc _ _ _
        (try rw [hw5])
        (try rw [hg])
        have hgi : ∀ k, nmF p ob ib n oa ia1 k → k ≠ g := fun k hk e => by have := HN1.out.lt hk; omega
        have HGI := Lib.hid hgi
        have hn5 := HN1.out.later hm5
        have HN5 := Lib.hid hn5
        have HG5 := Lib.hid hg5
        have HM5 := Lib.hid hm5
        clear hg hw5 hg5 hm5 hgi hn5 e0 e1 e2 e3 hiz
        obtain ⟨lm, hlm⟩ : ∃ x, (inF L (tn : Int)).length = x := ⟨_, rfl⟩
        have hlm5 : lm ≤ n := by rw [← hlm]; exact inF_len HOK.out (tn : Int)
        have HLM := Lib.hid hlm
        clear hlm
        have HDI := Lib.hid (dI_not L (v : Int) HNOT.out)
        have HRD : Hid (∀ W, Mod (fun k => (Value.slice (ia1 tn) lm (ic1 tn)).ownBlock = some k) (World.drew w5) W → Blk W p 91 [.slice (some ⟨ob, 0, none⟩) n n, .slice (some ⟨ib, 0, none⟩) n n] ∧ Blk W g 50 [.int .i64 (v : Int), .int .i64 (tn : Int), .int .i64 bw, .int .i64 bm] ∧ Blk W ib 40 ((List.range n).map fun z => .slice (ia1 z) (dI L (v : Int) (((outL L (v : Int)).take k).map (·.t)) z).length (ic1 z))) := Lib.hid (fun W mm => by
          have hk : ∀ k, (Value.slice (ia1 tn) lm (ic1 tn)).ownBlock = some k → BlT w5 k 3 := fun k hk => HN5.out.tyi HTN.out (by rw [← hk]; exact own_slice _ _ _ _ _)
          have mz : Mod (fun k => (Value.slice (ia1 tn) lm (ic1 tn)).ownBlock = some k) w5 W := (Mod.drew _ w5).trans mm (fun _ _ e => e) (fun _ _ e => e)
          exact ⟨HN5.out.blk.keep mz (fun e => (BlT.blk HN5.out.blk).ne (hk _ e) (by decide) rfl), HG5.out.keep mz (fun e => HGI.out g (.inr (.inr (.inr (.inr ⟨tn, HTN.out, by rw [← e]; exact own_slice _ _ _ _ _⟩)))) rfl), HN5.out.ib.keep mz (fun e => (BlT.blk HN5.out.ib).ne (hk _ e) (by decide) rfl)⟩)
        have hwo : ∀ (W : World), Mod (fun _ => False) w5 W → Calls Tryz.prog 118 #[.slice (ia1 tn) lm (ic1 tn), .int .i64 (v : Int)] W fun e w' => RowIP (ia1 tn) lm (ic1 tn) (delI (inF L (tn : Int)) (v : Int)) W e w' := fun W mm => by
          have h1 := (HN5.out.later mm).iw tn HTN.out
          rw [HDI.out, HLM.out] at h1
          exact nt_without W (ia1 tn) lm (ic1 tn) _ HLM.out h1 (inF_rise HOK.out.sort _) (by omega) _ HVI.out
        have HWO := Lib.hid hwo
        clear hwo
        have HST : ∀ (ix : Nat) (vx : Value) (wx wy : World), factOf (cut4_F w5 p g ib n tn v lm ia1 ic1 L) ix vx wx → Mod (fun _ => False) wx wy → factOf (cut4_F w5 p g ib n tn v lm ia1 ic1 L) ix vx wy := by
          refine fact_stays ?_
          intro f hf
          simp only [cut4_F, List.mem_cons, List.not_mem_nil, or_false] at hf
          rcases hf with rfl | rfl | rfl | rfl | rfl | rfl | rfl | rfl | rfl | rfl | rfl | rfl | rfl | rfl | rfl | rfl | rfl <;> first | exact stable_val _ | exact stable_new | exact RowQ.st
        have HSO : ∀ px ∈ (cut4_F w5 p g ib n tn v lm ia1 ic1 L), px.1 = true → ∀ (vx : Value) (wx wy : World), px.2 vx wx → px.2 vx wy := by
          intro f hf
          simp only [cut4_F, List.mem_cons, List.not_mem_nil, or_false] at hf
          rcases hf with rfl | rfl | rfl | rfl | rfl | rfl | rfl | rfl | rfl | rfl | rfl | rfl | rfl | rfl | rfl | rfl | rfl <;> first | exact fun _ _ _ _ h => h | (intro h; cases h)
        refine wp_region_mut (Mod (fun k => (Value.slice (ia1 tn) lm (ic1 tn)).ownBlock = some k)) (factOf (cut4_F w5 p g ib n tn v lm ia1 ic1 L)) (fun i => cut4_C.getD i 1000) (Mod (fun _ => False) (World.drew w5)) 15 (fun i => cut4_D.getD i []) 17 _ rfl rfl (by kernel_rfl) (by kernel_rfl) (by kernel_rfl) (by kernel_rfl) (by kernel_rfl) (fun _ => Mod.refl _ _)
          (fun _ _ _ h k => h.trans k (fun _ _ e => e) (fun _ _ e => e)) (Mod.refl _ _) ?_ ?_
        · refine opsOkM_cons ?_ ?_
          · intro K vs W hR hD hI hL hK
            clear hD
            clear hL
            clear hI
            simp only [putAll, Nat.zero_add, Nat.reduceAdd, Act.put, List.setIfInBounds_toArray, List.set_cons_succ, List.set_cons_zero] at hK ⊢
            go_wp2
            exact hK _ _ rfl (fun _ _ _ h => h) (fun _ _ h => h) (Mod.refl _ _)
          refine opsOkM_cons ?_ ?_
          · intro K vs W hR hD hI hL hK
            have dq0 : vs 0 = .pointer (some ⟨p, 0, none⟩) := hD 0 (by decide)
            clear hD
            clear hL
            clear hI
            simp only [putAll, Nat.zero_add, Nat.reduceAdd, Act.put, List.setIfInBounds_toArray, List.set_cons_succ, List.set_cons_zero] at hK ⊢
            generalize vs 0 = vq0 at hK dq0 ⊢
            subst vq0
            go_wp2
            exact hK _ _ rfl (fun _ _ _ h => h) (fun _ _ h => h) (Mod.refl _ _)
          refine opsOkM_cons ?_ ?_
          · intro K vs W hR hD hI hL hK
            have dq1 : vs 1 = .pointer (some ⟨p, 0, none⟩) := hD 1 (by decide)
            clear hD
            clear hL
            clear hI
            simp only [putAll, Nat.zero_add, Nat.reduceAdd, Act.put, List.setIfInBounds_toArray, List.set_cons_succ, List.set_cons_zero] at hK ⊢
            generalize vs 1 = vq1 at hK dq1 ⊢
            subst vq1
            go_wp2
            exact hK _ _ rfl (fun _ _ _ h => h) (fun _ _ h => h) (Mod.refl _ _)
          refine opsOkM_cons ?_ ?_
          · intro K vs W hR hD hI hL hK
            have dq2 : vs 2 = .pointer (some ⟨p, 1, none⟩) := hD 2 (by decide)
            clear hD
            clear hL
            clear hI
            simp only [putAll, Nat.zero_add, Nat.reduceAdd, Act.put, List.setIfInBounds_toArray, List.set_cons_succ, List.set_cons_zero] at hK ⊢
            generalize vs 2 = vq2 at hK dq2 ⊢
            subst vq2
            have q0 := (HRD.out _ hR).1.cell 1 rfl
            go_wp2
            exact hK _ _ rfl (fun _ _ _ h => h) (fun _ _ h => h) (Mod.refl _ _)
          refine opsOkM_cons ?_ ?_
          · intro K vs W hR hD hI hL hK
            clear hD
            clear hL
            clear hI
            simp only [putAll, Nat.zero_add, Nat.reduceAdd, Act.put, List.setIfInBounds_toArray, List.set_cons_succ, List.set_cons_zero] at hK ⊢
            go_wp2
            exact hK _ _ rfl (fun _ _ _ h => h) (fun _ _ h => h) (Mod.refl _ _)
          refine opsOkM_cons ?_ ?_
          · intro K vs W hR hD hI hL hK
            have dq4 : vs 4 = .pointer (some ⟨g, 1, none⟩) := hD 4 (by decide)
            clear hD
            clear hL
            clear hI
            simp only [putAll, Nat.zero_add, Nat.reduceAdd, Act.put, List.setIfInBounds_toArray, List.set_cons_succ, List.set_cons_zero] at hK ⊢
            generalize vs 4 = vq4 at hK dq4 ⊢
            subst vq4
            have q0 := (HRD.out _ hR).2.1.cell 1 rfl
            go_wp2
            exact hK _ _ rfl (fun _ _ _ h => h) (fun _ _ h => h) (Mod.refl _ _)
          refine opsOkM_cons ?_ ?_
          · intro K vs W hR hD hI hL hK
            clear hD
            clear hL
            clear hI
            simp only [putAll, Nat.zero_add, Nat.reduceAdd, Act.put, List.setIfInBounds_toArray, List.set_cons_succ, List.set_cons_zero] at hK ⊢
            go_wp2
            exact hK _ _ rfl (fun _ _ _ h => h) (fun _ _ h => h) (Mod.refl _ _)
          refine opsOkM_cons ?_ ?_
          · intro K vs W hR hD hI hL hK
            have dq6 : vs 6 = .pointer (some ⟨p, 0, none⟩) := hD 6 (by decide)
            clear hD
            clear hL
            clear hI
            simp only [putAll, Nat.zero_add, Nat.reduceAdd, Act.put, List.setIfInBounds_toArray, List.set_cons_succ, List.set_cons_zero] at hK ⊢
            generalize vs 6 = vq6 at hK dq6 ⊢
            subst vq6
            go_wp2
            exact hK _ _ rfl (fun _ _ _ h => h) (fun _ _ h => h) (Mod.refl _ _)
          refine opsOkM_cons ?_ ?_
          · intro K vs W hR hD hI hL hK
            have dq7 : vs 7 = .pointer (some ⟨p, 0, none⟩) := hD 7 (by decide)
            clear hD
            clear hL
            clear hI
            simp only [putAll, Nat.zero_add, Nat.reduceAdd, Act.put, List.setIfInBounds_toArray, List.set_cons_succ, List.set_cons_zero] at hK ⊢
            generalize vs 7 = vq7 at hK dq7 ⊢
            subst vq7
            go_wp2
            exact hK _ _ rfl (fun _ _ _ h => h) (fun _ _ h => h) (Mod.refl _ _)
          refine opsOkM_cons ?_ ?_
          · intro K vs W hR hD hI hL hK
            have dq8 : vs 8 = .pointer (some ⟨p, 1, none⟩) := hD 8 (by decide)
            clear hD
            clear hL
            clear hI
            simp only [putAll, Nat.zero_add, Nat.reduceAdd, Act.put, List.setIfInBounds_toArray, List.set_cons_succ, List.set_cons_zero] at hK ⊢
            generalize vs 8 = vq8 at hK dq8 ⊢
            subst vq8
            have q0 := (HRD.out _ hR).1.cell 1 rfl
            go_wp2
            exact hK _ _ rfl (fun _ _ _ h => h) (fun _ _ h => h) (Mod.refl _ _)
          refine opsOkM_cons ?_ ?_
          · intro K vs W hR hD hI hL hK
            clear hD
            clear hL
            clear hI
            simp only [putAll, Nat.zero_add, Nat.reduceAdd, Act.put, List.setIfInBounds_toArray, List.set_cons_succ, List.set_cons_zero] at hK ⊢
            go_wp2
            exact hK _ _ rfl (fun _ _ _ h => h) (fun _ _ h => h) (Mod.refl _ _)
          refine opsOkM_cons ?_ ?_
          · intro K vs W hR hD hI hL hK
            have dq10 : vs 10 = .pointer (some ⟨g, 1, none⟩) := hD 10 (by decide)
            clear hD
            clear hL
            clear hI
            simp only [putAll, Nat.zero_add, Nat.reduceAdd, Act.put, List.setIfInBounds_toArray, List.set_cons_succ, List.set_cons_zero] at hK ⊢
            generalize vs 10 = vq10 at hK dq10 ⊢
            subst vq10
            have q0 := (HRD.out _ hR).2.1.cell 1 rfl
            go_wp2
            exact hK _ _ rfl (fun _ _ _ h => h) (fun _ _ h => h) (Mod.refl _ _)
          refine opsOkM_cons ?_ ?_
          · intro K vs W hR hD hI hL hK
            have dq9 : vs 9 = .slice (some ⟨ib, 0, none⟩) n n := hD 9 (by decide)
            have dq11 : vs 11 = .int .i64 (tn : Int) := hD 11 (by decide)
            clear hD
            clear hL
            clear hI
            simp only [putAll, Nat.zero_add, Nat.reduceAdd, Act.put, List.setIfInBounds_toArray, List.set_cons_succ, List.set_cons_zero] at hK ⊢
            generalize vs 9 = vq9 at hK dq9 ⊢
            subst vq9
            generalize vs 11 = vq11 at hK dq11 ⊢
            subst vq11
            have hiy := HIY.out tn HTN.out
            go_wp2_with fail
            exact hK _ _ rfl (fun _ _ _ h => h) (fun _ _ h => h) (Mod.refl _ _)
          refine opsOkM_cons ?_ ?_
          · intro K vs W hR hD hI hL hK
            have dq12 : vs 12 = .pointer (some ⟨ib, tn, none⟩) := hD 12 (by decide)
            clear hD
            clear hL
            clear hI
            simp only [putAll, Nat.zero_add, Nat.reduceAdd, Act.put, List.setIfInBounds_toArray, List.set_cons_succ, List.set_cons_zero] at hK ⊢
            generalize vs 12 = vq12 at hK dq12 ⊢
            subst vq12
            have q0 := (HRD.out _ hR).2.2.cell tn (by rw [List.getElem?_map, List.getElem?_range HTN.out]; rfl)
            simp only [HDI.out, HLM.out] at q0
            go_wp2
            exact hK _ _ rfl (fun _ _ _ h => h) (fun _ _ h => h) (Mod.refl _ _)
          refine opsOkM_cons ?_ ?_
          · intro K vs W hR hD hI hL hK
            clear hD
            clear hL
            clear hI
            simp only [putAll, Nat.zero_add, Nat.reduceAdd, Act.put, List.setIfInBounds_toArray, List.set_cons_succ, List.set_cons_zero] at hK ⊢
            go_wp2
            exact hK _ _ rfl (fun _ _ _ h => h) (fun _ _ h => h) (Mod.refl _ _)
          refine opsOkM_cons ?_ ?_
          · intro K vs W hR hD hI hL hK
            have dq13 : vs 13 = .slice (ia1 tn) lm (ic1 tn) := hD 13 (by decide)
            have dq14 : vs 14 = .int .i64 (v : Int) := hD 14 (by decide)
            clear hD
            clear hL
            replace hI := hI (.inl rfl)
            simp only [putAll, Nat.zero_add, Nat.reduceAdd, Act.put, List.setIfInBounds_toArray, List.set_cons_succ, List.set_cons_zero] at hK ⊢
            generalize vs 13 = vq13 at hK dq13 ⊢
            subst vq13
            generalize vs 14 = vq14 at hK dq14 ⊢
            subst vq14
            go_wp2_with (go_at_call 118; refine (HWO.out _ ((Mod.drew _ _).of2 hI)).mono ?_; rintro e' w' ⟨a6, c6, rfl, ho6, hm6, hnw6⟩)
            have hmI := (Mod.drew (fun _ => False) w5).of2 hI
            exact hK _ _ ⟨⟨a6, c6, rfl⟩, ho6, hmI.trans hm6 (fun _ _ e => e.elim) (fun _ _ e => e), fun k hk => (hnw6 k hk).imp id (fun e => Nat.le_trans hmI.size e)⟩ (fact_solid HSO 15 (by kernel_rfl)) (fun h _ => absurd rfl h) hm6
          refine opsOkM_cons ?_ ?_
          · intro K vs W hR hD hI hL hK
            have dq3 : vs 3 = .slice (some ⟨ib, 0, none⟩) n n := hD 3 (by decide)
            have dq5 : vs 5 = .int .i64 (tn : Int) := hD 5 (by decide)
            clear hD
            clear hL
            clear hI
            simp only [putAll, Nat.zero_add, Nat.reduceAdd, Act.put, List.setIfInBounds_toArray, List.set_cons_succ, List.set_cons_zero] at hK ⊢
            generalize vs 3 = vq3 at hK dq3 ⊢
            subst vq3
            generalize vs 5 = vq5 at hK dq5 ⊢
            subst vq5
            have hiy := HIY.out tn HTN.out
            go_wp2_with fail
            exact hK _ _ rfl (fun _ _ _ h => h) (fun _ _ h => h) (Mod.refl _ _)
          exact opsOkM_nil
        · intro vs W hR hF
          have dq15 : (RowQ w5 (.slice (ia1 tn) lm (ic1 tn)) 3 1 (delI (inF L (tn : Int)) (v : Int)).length ((delI (inF L (tn : Int)) (v : Int)).map (Value.int .i64))) (vs 15) W := hF 15 (by decide) (by decide)
          have dq16 : vs 16 = .pointer (some ⟨ib, tn, none⟩) := hF 16 (by decide) (by decide)
          clear hF
          simp only [putAll, Nat.zero_add, Nat.reduceAdd, Act.put, List.setIfInBounds_toArray, List.set_cons_succ, List.set_cons_zero]
          generalize vs 15 = vq15 at dq15 ⊢
          generalize vs 16 = vq16 at dq16 ⊢
          subst vq16
          obtain ⟨⟨a6, c6, hv15⟩, hq15⟩ := dq15
          have hq15 := (⟨⟨a6, c6, hv15⟩, hq15⟩ : RowQ w5 (.slice (ia1 tn) lm (ic1 tn)) 3 1 (delI (inF L (tn : Int)) (v : Int)).length ((delI (inF L (tn : Int)) (v : Int)).map (Value.int .i64)) vq15 W)
          subst hv15
          have yib := (HRD.out _ hR).2.2
          have ylt := yib.lt
          have yff := yib.free tn
          have yof := yib.cell tn (by rw [List.getElem?_map, List.getElem?_range HTN.out]; rfl)
          have hst := HN1.out.turnI HNW1.out HMD1.out HM5.out HTN.out hq15
          rw [dI_step, HTK.out] at hst
          have HST6 := Lib.hid hst
          have hk1 := HK1.out
          clear hst hq15 yib hR
          go_wp2_with fail
          go_roundw
          case rel => exact ⟨k + 1, _, _, rfl, by omega, HST6.out.1, HST6.out.2.1, HST6.out.2.2⟩
          case measure => simp [intOf]; omega
      case neg =>
        obtain rfl : k = ln := by omega
        have z0 : decide ((k : Int) < (k : Int)) = false := by simp
        rw [List.take_of_length_le (Nat.le_of_eq HLN.out), dI_all] at hn1
        have hRv : delI (inF L (v : Int)) (v : Int) = inF L (v : Int) := delI_none (fun hm => by
          obtain ⟨b, hb, h1, h2⟩ := mem_inF.1 hm
          have := HOK.out.may b hb; unfold mayA at this; omega)
        have yp1 := hn1.blk.cell 1 rfl
        have yiv := hn1.icell hv
        simp only [hRv, HLV.out] at yiv
        have hiy := HIY.out v hv
        have HRV := Lib.hid hRv
        have HN1 := Lib.hid hn1
        have HNW1 := Lib.hid hnw1
        have HMD1 := Lib.hid hmd1
        clear hRv hn1 hnw1 hmd1
        go_wp2_with fail
        go_loopw [52] (fun jv wr => ∃ (j : Nat) (oa' : Nat → Option Addr) (oc' : Nat → Nat), jv = .int .i64 (j : Int) ∧ j ≤ lv ∧ NM wr p n ob ib oa' ia1 oc' ic1 (dR L (v : Int) ((inF L (v : Int)).take j)) (fun z : Nat => delI (inF L (z : Int)) (v : Int)) ∧ (∀ j, nmF p ob ib n oa' ia1 j → F j ∨ w.heap.size ≤ j) ∧ Mod F w wr) (fun jv _ => lv - (intOf jv).toNat)
        case atStart => exact ⟨0, oa, oc, rfl, Nat.zero_le _, by rw [List.take_zero, dR_nil]; exact HN1.out, HNW1.out, HMD1.out⟩
        case round =>
          obtain ⟨j, oa2, oc2, rfl, hj, hn2, hnw2, hmd2⟩ := hrel
          obtain ⟨w2, hw2⟩ : ∃ x : World, x = wr := ⟨_, rfl⟩
          subst hw2
          clear yp1 yiv hiy
          by_cases hjl : j < lv
          case pos =>
            have z1 : decide ((j : Int) < (lv : Int)) = true := by simp; omega
            have hjR : j < (inF L (v : Int)).length := by rw [HLV.out]; exact hjl
            have hiw := hn2.iw v hv
            simp only [HRV.out, HLV.out] at hiw
            obtain ⟨eb, eo, hpe, e0⟩ := rd1 (Rd.ofOwn hiw) j hjR
            obtain ⟨x, hx⟩ : ∃ x, (inF L (v : Int))[j] = x := ⟨_, rfl⟩
            have hxm : x ∈ inF L (v : Int) := by rw [← hx]; exact List.getElem_mem hjR
            rw [hx] at e0
            obtain ⟨b, hbL, hbf, hbt⟩ := mem_inF.1 hxm
            have hmay := HOK.out.may b hbL
            unfold mayA at hmay
            obtain ⟨fn, hfb⟩ := Int.eq_ofNat_of_zero_le hmay.1
            have hfn : fn < n := by omega
            have hxf : x = (fn : Int) := by omega
            subst hxf
            have hnot : (fn : Int) ∉ (inF L (v : Int)).take j := by rw [← hx]; exact riseI_not HRISEI.out hjR
            have his : isR (outL L (fn : Int)) (v : Int) = true := isR_mem.2 ⟨b, hbL, hbf, hbt⟩
            have htk : (inF L (v : Int)).take j ++ [(fn : Int)] = (inF L (v : Int)).take (j + 1) := by rw [take_at hjR, hx]
            have hiz := fun wx => run_indexS (P := Tryz.prog) wx 40 3 iI 1 Tryz.underlying40 hiI hsI (ia1 v) lv (ic1 v) j hjl ((Rd.ofOwn hiw).some_ (by omega))
            rw [hpe] at hiz
            have hix := HIX.out fn hfn
            have hk1 : IntKind.i64.wrap ((j : Int) + 1) = ((j + 1 : Nat) : Int) := by rw [IntWalk.i64_in _ (by omega)]; omega
            have hrise2 := outL_rise HOK.out.sort (fn : Int)
            have hdr := dR_not L (v : Int) hnot
            obtain ⟨lo, hlo⟩ : ∃ x, (outL L (fn : Int)).length = x := ⟨_, rfl⟩
            have hlo5 : lo ≤ n := by rw [← hlo]; exact outL_len HOK.out (fn : Int)
            obtain ⟨hp1, _⟩ := posR_lt hrise2 his
            have hdc := delR_cut hrise2 his
            obtain ⟨ps, hps⟩ : ∃ x, posR (outL L (fn : Int)) (v : Int) = x := ⟨_, rfl⟩
            rw [hps, hlo] at hp1
            rw [hps] at hdc
            have hpl := nt_place w2 (oa2 fn) lo (oc2 fn) (outL L (fn : Int)) hlo (Rd.ofOwn (by have h1 := hn2.ow fn hfn; rw [hdr, hlo] at h1; exact h1)) hrise2 (by omega) (v : Int)
            rw [his, hps] at hpl
            have yp0 := hn2.blk.cell 0 rfl
            have yof := hn2.ocell hfn
            simp only [hdr, hlo] at yof
            have HPL := Lib.hid hpl
            have HK1 := Lib.hid hk1
            have HN2 := Lib.hid hn2
            have HNW2 := Lib.hid hnw2
            have HMD2 := Lib.hid hmd2
            have HTK := Lib.hid htk
            have HFN := Lib.hid hfn
            have HDR := Lib.hid hdr
            have HLO := Lib.hid hlo
            have HDC := Lib.hid hdc
            have HP1 := Lib.hid hp1
            clear hpl hk1 hn2 hnw2 hmd2 htk hdr hlo hdc hnot his hx hxm hbL hbf hbt hmay hfb hiw hjR hpe hps hrise2
            go_wp2_with fail
            refine HPL.out.mono ?_
            rintro e w5 ⟨rfl, hm5⟩
            have HM5 := Lib.hid hm5
            have hn5 := HN2.out.later hm5
            have HN5 := Lib.hid hn5
            clear hm5 hn5 HPL yp0 yof e0 hiz hix hp1
            go_upto_region 10 with fail
            obtain ⟨m, hm⟩ : ∃ m, lo - 1 = m := ⟨_, rfl⟩
            have hlom : m + 1 ≤ lo ∧ lo ≤ m + 1 := by have := HP1.out; omega
            have HLOM := Lib.hid hlom
            clear hm hlom
            have hw1 : IntKind.i64.wrap ((ps : Int) + 1) = (ps : Int) + 1 := IntWalk.i64_in _ (by have := HP1.out; omega)
            have hdm : (delR (outL L (fn : Int)) (v : Int)).length = m := by
              rw [← HDC.out, List.length_append, List.length_take, List.length_drop, HLO.out]
              have h1 := HP1.out; have h2 := HLOM.out; omega
            have HDM := Lib.hid hdm
            clear hdm
            have HRD : Hid (∀ W, Mod (fun k => (Value.slice (oa2 fn) lo (oc2 fn)).ownBlock = some k) (World.drew w5) W → Blk W p 91 [.slice (some ⟨ob, 0, none⟩) n n, .slice (some ⟨ib, 0, none⟩) n n] ∧ Blk W ob 34 ((List.range n).map fun z => .slice (oa2 z) (dR L (v : Int) ((inF L (v : Int)).take j) z).length (oc2 z))) := Lib.hid (fun W mm => by
              have hk : ∀ k, (Value.slice (oa2 fn) lo (oc2 fn)).ownBlock = some k → BlT w5 k 50 := fun k hk => HN5.out.tyo HFN.out (by rw [← hk]; exact own_slice _ _ _ _ _)
              have mz : Mod (fun k => (Value.slice (oa2 fn) lo (oc2 fn)).ownBlock = some k) w5 W := (Mod.drew _ w5).trans mm (fun _ _ e => e) (fun _ _ e => e)
              exact ⟨HN5.out.blk.keep mz (fun e => (BlT.blk HN5.out.blk).ne (hk _ e) (by decide) rfl), HN5.out.ob.keep mz (fun e => (BlT.blk HN5.out.ob).ne (hk _ e) (by decide) rfl)⟩)
            have hde : ∀ (W : World), Mod (fun _ => False) w5 W → Calls Tryz.prog 119 #[.slice (oa2 fn) lo (oc2 fn), .int .i64 (ps : Int), .int .i64 ((ps : Int) + 1)] W fun e w' => e = .returned (.slice (oa2 fn) (delR (outL L (fn : Int)) (v : Int)).length (oc2 fn)) ∧ w'.ownsRow 0 50 4 (.slice (oa2 fn) (delR (outL L (fn : Int)) (v : Int)).length (oc2 fn)) (delR (outL L (fn : Int)) (v : Int)).length ((delR (outL L (fn : Int)) (v : Int)).flatMap c4) ∧ Mod (fun k => (Value.slice (oa2 fn) lo (oc2 fn)).ownBlock = some k) W w' := fun W mm => by
              have h1 := (HN5.out.later mm).ow fn HFN.out
              rw [HDR.out, HLO.out] at h1
              refine (delA_any W (oa2 fn) lo (oc2 fn) ps _ (c4_one _) h1 HP1.out (by omega) m (by have := HLOM.out; omega)).mono ?_
              rintro e' w' ⟨h2, h3, h4⟩
              rw [c4_take, c4_drop, ← List.flatMap_append, HDC.out] at h3
              rw [HDM.out]
              exact ⟨h2, h3, h4⟩
            have HDE := Lib.hid hde
            clear hde
            have HST : ∀ (ix : Nat) (vx : Value) (wx wy : World), factOf (cut10_F w5 p ob n fn v lo ps oa2 oc2 L) ix vx wx → Mod (fun _ => False) wx wy → factOf (cut10_F w5 p ob n fn v lo ps oa2 oc2 L) ix vx wy := by
              refine fact_stays ?_
              intro f hf
              simp only [cut10_F, List.mem_cons, List.not_mem_nil, or_false] at hf
              rcases hf with rfl | rfl | rfl | rfl | rfl | rfl | rfl | rfl | rfl | rfl | rfl | rfl | rfl | rfl | rfl | rfl | rfl <;> first | exact stable_val _ | exact stable_new | exact RowQ.st
            have HSO : ∀ px ∈ (cut10_F w5 p ob n fn v lo ps oa2 oc2 L), px.1 = true → ∀ (vx : Value) (wx wy : World), px.2 vx wx → px.2 vx wy := by
              intro f hf
              simp only [cut10_F, List.mem_cons, List.not_mem_nil, or_false] at hf
              rcases hf with rfl | rfl | rfl | rfl | rfl | rfl | rfl | rfl | rfl | rfl | rfl | rfl | rfl | rfl | rfl | rfl | rfl <;> first | exact fun _ _ _ _ h => h | (intro h; cases h)
            refine wp_region_mut (Mod (fun k => (Value.slice (oa2 fn) lo (oc2 fn)).ownBlock = some k)) (factOf (cut10_F w5 p ob n fn v lo ps oa2 oc2 L)) (fun i => cut10_C.getD i 1000) (Mod (fun _ => False) (World.drew w5)) 15 (fun i => cut10_D.getD i []) 17 _ rfl rfl (by kernel_rfl) (by kernel_rfl) (by kernel_rfl) (by kernel_rfl) (by kernel_rfl) (fun _ => Mod.refl _ _)
              (fun _ _ _ h k => h.trans k (fun _ _ e => e) (fun _ _ e => e)) (Mod.refl _ _) ?_ ?_
            · refine opsOkM_cons ?_ ?_
              · intro K vs W hR hD hI hL hK
                clear hD
                clear hL
                clear hI
                simp only [putAll, Nat.zero_add, Nat.reduceAdd, Act.put, List.setIfInBounds_toArray, List.set_cons_succ, List.set_cons_zero] at hK ⊢
                go_wp2
                exact hK _ _ rfl (fun _ _ _ h => h) (fun _ _ h => h) (Mod.refl _ _)
              refine opsOkM_cons ?_ ?_
              · intro K vs W hR hD hI hL hK
                have dq0 : vs 0 = .pointer (some ⟨p, 0, none⟩) := hD 0 (by decide)
                clear hD
                clear hL
                clear hI
                simp only [putAll, Nat.zero_add, Nat.reduceAdd, Act.put, List.setIfInBounds_toArray, List.set_cons_succ, List.set_cons_zero] at hK ⊢
                generalize vs 0 = vq0 at hK dq0 ⊢
                subst vq0
                go_wp2
                exact hK _ _ rfl (fun _ _ _ h => h) (fun _ _ h => h) (Mod.refl _ _)
              refine opsOkM_cons ?_ ?_
              · intro K vs W hR hD hI hL hK
                have dq1 : vs 1 = .pointer (some ⟨p, 0, none⟩) := hD 1 (by decide)
                clear hD
                clear hL
                clear hI
                simp only [putAll, Nat.zero_add, Nat.reduceAdd, Act.put, List.setIfInBounds_toArray, List.set_cons_succ, List.set_cons_zero] at hK ⊢
                generalize vs 1 = vq1 at hK dq1 ⊢
                subst vq1
                go_wp2
                exact hK _ _ rfl (fun _ _ _ h => h) (fun _ _ h => h) (Mod.refl _ _)
              refine opsOkM_cons ?_ ?_
              · intro K vs W hR hD hI hL hK
                have dq2 : vs 2 = .pointer (some ⟨p, 0, none⟩) := hD 2 (by decide)
                clear hD
                clear hL
                clear hI
                simp only [putAll, Nat.zero_add, Nat.reduceAdd, Act.put, List.setIfInBounds_toArray, List.set_cons_succ, List.set_cons_zero] at hK ⊢
                generalize vs 2 = vq2 at hK dq2 ⊢
                subst vq2
                have q0 := (HRD.out _ hR).1.cell 0 rfl
                go_wp2
                exact hK _ _ rfl (fun _ _ _ h => h) (fun _ _ h => h) (Mod.refl _ _)
              refine opsOkM_cons ?_ ?_
              · intro K vs W hR hD hI hL hK
                clear hD
                clear hL
                clear hI
                simp only [putAll, Nat.zero_add, Nat.reduceAdd, Act.put, List.setIfInBounds_toArray, List.set_cons_succ, List.set_cons_zero] at hK ⊢
                go_wp2
                exact hK _ _ rfl (fun _ _ _ h => h) (fun _ _ h => h) (Mod.refl _ _)
              refine opsOkM_cons ?_ ?_
              · intro K vs W hR hD hI hL hK
                clear hD
                clear hL
                clear hI
                simp only [putAll, Nat.zero_add, Nat.reduceAdd, Act.put, List.setIfInBounds_toArray, List.set_cons_succ, List.set_cons_zero] at hK ⊢
                go_wp2
                exact hK _ _ rfl (fun _ _ _ h => h) (fun _ _ h => h) (Mod.refl _ _)
              refine opsOkM_cons ?_ ?_
              · intro K vs W hR hD hI hL hK
                have dq5 : vs 5 = .pointer (some ⟨p, 0, none⟩) := hD 5 (by decide)
                clear hD
                clear hL
                clear hI
                simp only [putAll, Nat.zero_add, Nat.reduceAdd, Act.put, List.setIfInBounds_toArray, List.set_cons_succ, List.set_cons_zero] at hK ⊢
                generalize vs 5 = vq5 at hK dq5 ⊢
                subst vq5
                go_wp2
                exact hK _ _ rfl (fun _ _ _ h => h) (fun _ _ h => h) (Mod.refl _ _)
              refine opsOkM_cons ?_ ?_
              · intro K vs W hR hD hI hL hK
                have dq6 : vs 6 = .pointer (some ⟨p, 0, none⟩) := hD 6 (by decide)
                clear hD
                clear hL
                clear hI
                simp only [putAll, Nat.zero_add, Nat.reduceAdd, Act.put, List.setIfInBounds_toArray, List.set_cons_succ, List.set_cons_zero] at hK ⊢
                generalize vs 6 = vq6 at hK dq6 ⊢
                subst vq6
                go_wp2
                exact hK _ _ rfl (fun _ _ _ h => h) (fun _ _ h => h) (Mod.refl _ _)
              refine opsOkM_cons ?_ ?_
              · intro K vs W hR hD hI hL hK
                have dq7 : vs 7 = .pointer (some ⟨p, 0, none⟩) := hD 7 (by decide)
                clear hD
                clear hL
                clear hI
                simp only [putAll, Nat.zero_add, Nat.reduceAdd, Act.put, List.setIfInBounds_toArray, List.set_cons_succ, List.set_cons_zero] at hK ⊢
                generalize vs 7 = vq7 at hK dq7 ⊢
                subst vq7
                have q0 := (HRD.out _ hR).1.cell 0 rfl
                go_wp2
                exact hK _ _ rfl (fun _ _ _ h => h) (fun _ _ h => h) (Mod.refl _ _)
              refine opsOkM_cons ?_ ?_
              · intro K vs W hR hD hI hL hK
                clear hD
                clear hL
                clear hI
                simp only [putAll, Nat.zero_add, Nat.reduceAdd, Act.put, List.setIfInBounds_toArray, List.set_cons_succ, List.set_cons_zero] at hK ⊢
                go_wp2
                exact hK _ _ rfl (fun _ _ _ h => h) (fun _ _ h => h) (Mod.refl _ _)
              refine opsOkM_cons ?_ ?_
              · intro K vs W hR hD hI hL hK
                have dq8 : vs 8 = .slice (some ⟨ob, 0, none⟩) n n := hD 8 (by decide)
                have dq9 : vs 9 = .int .i64 (fn : Int) := hD 9 (by decide)
                clear hD
                clear hL
                clear hI
                simp only [putAll, Nat.zero_add, Nat.reduceAdd, Act.put, List.setIfInBounds_toArray, List.set_cons_succ, List.set_cons_zero] at hK ⊢
                generalize vs 8 = vq8 at hK dq8 ⊢
                subst vq8
                generalize vs 9 = vq9 at hK dq9 ⊢
                subst vq9
                have hix := HIX.out fn HFN.out
                go_wp2_with fail
                exact hK _ _ rfl (fun _ _ _ h => h) (fun _ _ h => h) (Mod.refl _ _)
              refine opsOkM_cons ?_ ?_
              · intro K vs W hR hD hI hL hK
                have dq10 : vs 10 = .pointer (some ⟨ob, fn, none⟩) := hD 10 (by decide)
                clear hD
                clear hL
                clear hI
                simp only [putAll, Nat.zero_add, Nat.reduceAdd, Act.put, List.setIfInBounds_toArray, List.set_cons_succ, List.set_cons_zero] at hK ⊢
                generalize vs 10 = vq10 at hK dq10 ⊢
                subst vq10
                have q0 := (HRD.out _ hR).2.cell fn (by rw [List.getElem?_map, List.getElem?_range HFN.out]; rfl)
                simp only [HDR.out, HLO.out] at q0
                go_wp2
                exact hK _ _ rfl (fun _ _ _ h => h) (fun _ _ h => h) (Mod.refl _ _)
              refine opsOkM_cons ?_ ?_
              · intro K vs W hR hD hI hL hK
                clear hD
                clear hL
                clear hI
                simp only [putAll, Nat.zero_add, Nat.reduceAdd, Act.put, List.setIfInBounds_toArray, List.set_cons_succ, List.set_cons_zero] at hK ⊢
                go_wp2
                exact hK _ _ rfl (fun _ _ _ h => h) (fun _ _ h => h) (Mod.refl _ _)
              refine opsOkM_cons ?_ ?_
              · intro K vs W hR hD hI hL hK
                clear hD
                clear hL
                clear hI
                simp only [putAll, Nat.zero_add, Nat.reduceAdd, Act.put, List.setIfInBounds_toArray, List.set_cons_succ, List.set_cons_zero] at hK ⊢
                go_wp2
                exact hK _ _ rfl (fun _ _ _ h => h) (fun _ _ h => h) (Mod.refl _ _)
              refine opsOkM_cons ?_ ?_
              · intro K vs W hR hD hI hL hK
                have dq13 : vs 13 = .int .i64 (ps : Int) := hD 13 (by decide)
                clear hD
                clear hL
                clear hI
                simp only [putAll, Nat.zero_add, Nat.reduceAdd, Act.put, List.setIfInBounds_toArray, List.set_cons_succ, List.set_cons_zero] at hK ⊢
                generalize vs 13 = vq13 at hK dq13 ⊢
                subst vq13
                go_wp2
                exact hK _ _ rfl (fun _ _ _ h => h) (fun _ _ h => h) (Mod.refl _ _)
              refine opsOkM_cons ?_ ?_
              · intro K vs W hR hD hI hL hK
                have dq11 : vs 11 = .slice (oa2 fn) lo (oc2 fn) := hD 11 (by decide)
                have dq12 : vs 12 = .int .i64 (ps : Int) := hD 12 (by decide)
                have dq14 : vs 14 = .int .i64 ((ps : Int) + 1) := hD 14 (by decide)
                clear hD
                clear hL
                replace hI := hI (.inl rfl)
                simp only [putAll, Nat.zero_add, Nat.reduceAdd, Act.put, List.setIfInBounds_toArray, List.set_cons_succ, List.set_cons_zero] at hK ⊢
                generalize vs 11 = vq11 at hK dq11 ⊢
                subst vq11
                generalize vs 12 = vq12 at hK dq12 ⊢
                subst vq12
                generalize vs 14 = vq14 at hK dq14 ⊢
                subst vq14
                go_wp2_with (go_at_call 119; refine (HDE.out _ ((Mod.drew _ _).of2 hI)).mono ?_; rintro e' w' ⟨rfl, ho6, hm6⟩)
                have hmI := (Mod.drew (fun _ => False) w5).of2 hI
                exact hK _ _ ⟨⟨_, _, rfl⟩, ho6, hmI.trans hm6 (fun _ _ e => e.elim) (fun _ _ e => e), fun k hk => .inl (by rw [← hk]; exact own_slice _ _ _ _ _)⟩ (fact_solid HSO 15 (by kernel_rfl)) (fun h _ => absurd rfl h) hm6
              refine opsOkM_cons ?_ ?_
              · intro K vs W hR hD hI hL hK
                have dq3 : vs 3 = .slice (some ⟨ob, 0, none⟩) n n := hD 3 (by decide)
                have dq4 : vs 4 = .int .i64 (fn : Int) := hD 4 (by decide)
                clear hD
                clear hL
                clear hI
                simp only [putAll, Nat.zero_add, Nat.reduceAdd, Act.put, List.setIfInBounds_toArray, List.set_cons_succ, List.set_cons_zero] at hK ⊢
                generalize vs 3 = vq3 at hK dq3 ⊢
                subst vq3
                generalize vs 4 = vq4 at hK dq4 ⊢
                subst vq4
                have hix := HIX.out fn HFN.out
                go_wp2_with fail
                exact hK _ _ rfl (fun _ _ _ h => h) (fun _ _ h => h) (Mod.refl _ _)
              exact opsOkM_nil
            · intro vs W hR hF
              have dq15 : (RowQ w5 (.slice (oa2 fn) lo (oc2 fn)) 50 4 (delR (outL L (fn : Int)) (v : Int)).length ((delR (outL L (fn : Int)) (v : Int)).flatMap c4)) (vs 15) W := hF 15 (by decide) (by decide)
              have dq16 : vs 16 = .pointer (some ⟨ob, fn, none⟩) := hF 16 (by decide) (by decide)
              clear hF
              simp only [putAll, Nat.zero_add, Nat.reduceAdd, Act.put, List.setIfInBounds_toArray, List.set_cons_succ, List.set_cons_zero]
              generalize vs 15 = vq15 at dq15 ⊢
              generalize vs 16 = vq16 at dq16 ⊢
              subst vq16
              obtain ⟨⟨a6, c6, hv15⟩, hq15⟩ := dq15
              have hq15 := (⟨⟨a6, c6, hv15⟩, hq15⟩ : RowQ w5 (.slice (oa2 fn) lo (oc2 fn)) 50 4 (delR (outL L (fn : Int)) (v : Int)).length ((delR (outL L (fn : Int)) (v : Int)).flatMap c4) vq15 W)
              subst hv15
              have yob := (HRD.out _ hR).2
              have ylt := yob.lt
              have yff := yob.free fn
              have yof := yob.cell fn (by rw [List.getElem?_map, List.getElem?_range HFN.out]; rfl)
              have hst := HN2.out.turnO HNW2.out HMD2.out HM5.out HFN.out hq15
              rw [dR_step, HTK.out] at hst
              have HST6 := Lib.hid hst
              have hk1 := HK1.out
              clear hst hq15 yob hR
              go_wp2_with fail
              go_roundw
              case rel => exact ⟨j + 1, _, _, rfl, by omega, HST6.out.1, HST6.out.2.1, HST6.out.2.2⟩
              case measure => simp [intOf]; omega
          case neg =>
            obtain rfl : j = lv := by omega
            have z1 : decide ((j : Int) < (j : Int)) = false := by simp
            rw [List.take_of_length_le (Nat.le_of_eq HLV.out), dR_all] at hn2
            have yp0 := hn2.blk.cell 0 rfl
            have yp1 := hn2.blk.cell 1 rfl
            have yob := hn2.ob.cell v (by rw [List.getElem?_map, List.getElem?_range hv]; rfl)
            have yib := hn2.ib.cell v (by rw [List.getElem?_map, List.getElem?_range hv]; rfl)
            have fob := hn2.ob.free v
            have fib := hn2.ib.free v
            have lob := hn2.ob.lt
            have lib := hn2.ib.lt
            have hix := HIX.out v hv
            have hiy := HIY.out v hv
            have hpo : p ≠ ob ∧ p ≠ ib ∧ ob ≠ ib := ⟨(BlT.blk hn2.blk).ne (BlT.blk hn2.ob) (by decide), (BlT.blk hn2.blk).ne (BlT.blk hn2.ib) (by decide), (BlT.blk hn2.ob).ne (BlT.blk hn2.ib) (by decide)⟩
            obtain ⟨n1, n2, n3⟩ := hpo
            have n4 := fun e => n1 (Eq.symm e)
            have n5 := fun e => n2 (Eq.symm e)
            have n6 := fun e => n3 (Eq.symm e)
            have HN2 := Lib.hid hn2
            have HNW2 := Lib.hid hnw2
            have HMD2 := Lib.hid hmd2
            clear hn2 hnw2 hmd2
            go_upto_region 12 with fail
            go_region_law (fail)
            all_goals
              (try go_wp2_with fail)
              go_end0
            all_goals
              have e1 : upN (fun z : Nat => delR (outL L (z : Int)) (v : Int)) v [] = fun z : Nat => outL (cutN L (v : Int)) (z : Int) := funext fun u => by
                rw [outL_cut]
                by_cases hu : u = v
                · subst hu; rw [upN_at, if_pos rfl]
                · rw [upN_ne _ _ hu, if_neg (by omega)]
              have e2 : upN (fun z : Nat => delI (inF L (z : Int)) (v : Int)) v [] = fun z : Nat => inF (cutN L (v : Int)) (z : Int) := funext fun u => by
                rw [inF_cut]
                by_cases hu : u = v
                · subst hu; rw [upN_at, if_pos rfl]
                · rw [upN_ne _ _ hu, if_neg (by omega)]
            all_goals first
              | (have s1 := HN2.out.turnO HNW2.out HMD2.out (Mod.refl _ _) hv (⟨⟨none, 0, rfl⟩, World.ownsRow_nil _ _ _ _, (Mod.refl _ _), fun k hk => by cases hk⟩ : RowQ w2 (.slice (oa2 v) 0 (oc2 v)) 50 4 ([] : List Ar).length (([] : List Ar).flatMap c4) (.slice none ([] : List Ar).length 0) w2); have s2 := s1.1.turnI s1.2.1 s1.2.2 (Mod.refl _ _) hv (⟨⟨none, 0, rfl⟩, World.ownsRow_nil _ _ _ _, (Mod.refl _ _), fun k hk => by cases hk⟩ : RowQ _ (.slice (ia1 v) 0 (ic1 v)) 3 1 ([] : List Int).length (([] : List Int).map (Value.int .i64)) (.slice none ([] : List Int).length 0) _); rw [e1, e2] at s2; exact ⟨rfl, _, ⟨HOK.out.cut _, h512, ob, ib, _, _, _, _, s2.1.later (Mod.drew _ _), rfl⟩, s2.2.1, s2.2.2.thenDrew⟩)
              | (have s1 := HN2.out.turnI HNW2.out HMD2.out (Mod.refl _ _) hv (⟨⟨none, 0, rfl⟩, World.ownsRow_nil _ _ _ _, (Mod.refl _ _), fun k hk => by cases hk⟩ : RowQ w2 (.slice (ia1 v) 0 (ic1 v)) 3 1 ([] : List Int).length (([] : List Int).map (Value.int .i64)) (.slice none ([] : List Int).length 0) w2); have s2 := s1.1.turnO s1.2.1 s1.2.2 (Mod.refl _ _) hv (⟨⟨none, 0, rfl⟩, World.ownsRow_nil _ _ _ _, (Mod.refl _ _), fun k hk => by cases hk⟩ : RowQ _ (.slice (oa2 v) 0 (oc2 v)) 50 4 ([] : List Ar).length (([] : List Ar).flatMap c4) (.slice none ([] : List Ar).length 0) _); rw [e1, e2] at s2; exact ⟨rfl, _, ⟨HOK.out.cut _, h512, ob, ib, _, _, _, _, s2.1.later (Mod.drew _ _), rfl⟩, s2.2.1, s2.2.2.thenDrew⟩)
end
end Go.Proofs.YtjjedebjbgpimaaGreat
