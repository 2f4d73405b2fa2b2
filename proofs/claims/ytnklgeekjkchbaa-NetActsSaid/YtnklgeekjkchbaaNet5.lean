/- Nets: In, All, by contract. -/
import Derived.Test.YtnklgeekjkchbaaNet4
import Derived.Lib.AppendZerosOnto
namespace Go.Proofs.Ytnklgeekjkchbaa
open Go.RowKit Mile
set_option maxRecDepth 100000
section
variable {w w' : World} {p n : Nat} {L : List Ar} {F : Nat → Prop}
set_option maxHeartbeats 8000000 in
theorem nt_in (h : NT w p n L F) (v : Int) : Calls Try.prog 23 #[.pointer (some ⟨p, 0, none⟩), .int .i64 v] w fun e w' => NewR 32 4 (inL L v).length ((inL L v).flatMap c4) w e w' := by
  by_cases hf : 0 ≤ v ∧ v < (n : Int)
  · obtain ⟨v, rfl⟩ := Int.eq_ofNat_of_zero_le hf.1
    have hv : v < n := by omega
    have HH := Lib.hid (nt_has h (v : Int) true (decide_eq_true hf))
    obtain ⟨ob, ib, a, c, q0, q1, q2, ho⟩ := h.irow v hv
    have hlen := inF_len h.ok (v : Int)
    have h512 := h.n512
    obtain ⟨iS, hiS, hzS, hsS, hbS⟩ := info_parts Nt.infoSI
    obtain ⟨iI, hiI, hzI, hsI, hbI⟩ := info_parts Nt.infoI
    obtain ⟨iA, hiA, hzA, hsA, hbA⟩ := info_parts Nt.infoA
    have hix := fun wx => run_indexS (P := Try.prog) wx 70 56 iS 1 Try.underlying70 hiS hsS (some ⟨ib, 0, none⟩) n n v hv (by simp)
    rw [elemA_lit] at hix
    have hle : (inF L (v : Int)).length = (inL L (v : Int)).length := by unfold inF; rw [List.length_map]
    obtain ⟨R, hR⟩ : ∃ R, inL L (v : Int) = R := ⟨_, rfl⟩
    have hsub : ∀ b ∈ R, findN L b.f (v : Int) = some b := fun b hb => by
      rw [← hR] at hb
      obtain ⟨e1, e2⟩ := mem_inL.1 hb
      rw [← e2]; exact findN_some h.ok.sort e1
    have hfr : inF L (v : Int) = R.map (·.f) := by rw [← hR]; rfl
    rw [hR] at hle ⊢
    rw [hle, hfr] at ho
    rw [hle] at q2 hlen
    obtain ⟨ln, hln⟩ : ∃ x, R.length = x := ⟨_, rfl⟩
    rw [hln] at q2 ho hlen ⊢
    have hmk := fun wx => run_makeSlice (P := Try.prog) (w := wx) 22 32 iA _ Try.underlying22 hiA hzA .i64 .i64 0 (ln : Int) (by omega) (by omega) (by rw [hsA]; omega) (by rw [hbA]; omega) (by omega)
    have hrd := Rd.ofOwn ho
    have HRD := Lib.hid hrd
    have HSUB := Lib.hid hsub
    have HLN := Lib.hid hln
    have HNT := Lib.hid h
    have hown : ∀ wx : World, (wx.alloc (.cells (madeCells #[Value.int .i64 0, .int .i64 0, .int .i64 0, .int .i64 0] (ln * 4)) 32)).ownsRow wx.heap.size 32 4 (.slice (some ⟨wx.heap.size, 0, none⟩) 0 ln) 0 [] := fun wx => by
      refine ⟨rfl, .inr ⟨wx.heap.size, ln, _, rfl, Nat.le_refl _, heap_alloc_new _ _, Nat.zero_le _, by unfold maxLen; omega, size_madeCells _ _, by simp⟩⟩
    have HOWN := Lib.hid hown
    simp only [Int.toNat_natCast, Int.toNat_zero, hsA] at hmk
    have lp := block_lt_of_cell q1
    have li := block_lt_of_cell q2
    simp only at lp li
    clear h ho hf q0 hR hsub hfr hle hrd hln hown
    go_enter Try.func23, Try.ntmps23
    go_wp2_with fail
    refine HH.out.mono ?_
    rintro e w' ⟨rfl, rfl⟩
    go_upto_region 4 with fail
    obtain ⟨w1, hw1⟩ : ∃ x, w.alloc (.cells (madeCells #[Value.int .i64 0, .int .i64 0, .int .i64 0, .int .i64 0] (ln * 4)) 32) = x := ⟨_, rfl⟩
    have hm1 : Mod (fun _ => False) w w1 := by rw [← hw1]; exact Mod.alloc _ _ _
    have ho1 := HOWN.out w
    rw [hw1] at ho1
    replace q1 := hm1.cell q1 (fun e => e)
    replace q2 := hm1.cell q2 (fun e => e)
    (try rw [hw1])
    have HO1 := Lib.hid ho1
    have HM1 := Lib.hid hm1
    clear hw1 ho1 hm1 HOWN HH hmk lp li
    go_wp2_with fail
    go_loopw [5, 31] (fun gv jv wr => ∃ (j : Nat) (ag : Option Addr) (cg : Nat), gv = .slice ag j cg ∧ jv = .int .i64 (j : Int) ∧ j ≤ ln ∧ wr.ownsRow w.heap.size 32 4 (.slice ag j cg) j ((R.take j).flatMap c4) ∧ Mod (fun _ => False) w wr) (fun _ jv _ => ln - (intOf jv).toNat)
    case atStart => exact ⟨0, _, _, rfl, rfl, Nat.zero_le _, by simpa using HO1.out, HM1.out⟩
    case round =>
      obtain ⟨j, ag, cg, rfl, rfl, hj, hown, hmo⟩ := hrel
      obtain ⟨wo, hwo⟩ : ∃ x : World, x = wr := ⟨_, rfl⟩
      subst hwo
      have HOW := Lib.hid hown
      have HMO := Lib.hid hmo
      clear hown hmo q1 q2
      by_cases hjl : j < ln
      case neg =>
        obtain rfl : j = ln := by omega
        have z0 : decide ((j : Int) < (j : Int)) = false := by simp
        go_wp2_with fail
        go_ret
        exact ⟨ag, cg, rfl, by have h9 := HOW.out; rwa [List.take_of_length_le (Nat.le_of_eq HLN.out)] at h9, HMO.out⟩
      case pos =>
        have z0 : decide ((j : Int) < (ln : Int)) = true := by simp; omega
        have hjR : j < R.length := by rw [HLN.out]; exact hjl
        have hrd := HRD.out.keep HMO.out (fun _ _ e => e)
        obtain ⟨eb, eo, hpe, e0⟩ := rd1 hrd j (by rw [List.length_map]; exact hjR)
        rw [List.getElem_map] at e0
        obtain ⟨b, hb⟩ : ∃ b, R[j] = b := ⟨_, rfl⟩
        rw [hb] at e0
        have hiy := fun wx => run_indexS (P := Try.prog) wx 56 3 iI 1 Try.underlying56 hiI hsI a ln c j hjl (hrd.some_ (by omega))
        rw [hpe] at hiy
        have hfn := HSUB.out b (by rw [← hb]; exact List.getElem_mem hjR)
        have harc := nt_arc (HNT.out.later HMO.out) b.f (v : Int)
        rw [hfn] at harc
        unfold arcV arV at harc
        have HARC := Lib.hid harc
        have HB := Lib.hid hb
        have hj1 : IntKind.i64.wrap ((j : Int) + 1) = ((j + 1 : Nat) : Int) := by rw [IntWalk.i64_in _ (by omega)]; omega
        clear hb hfn harc hpe hrd
        go_wp2_with fail
        refine HARC.out.mono ?_
        rintro e w2 ⟨rfl, hm2⟩
        have HM2 := Lib.hid hm2
        have hob := fun o1 o2 => Own.keep (Own.keep (Own.keep HOW.out hm2 (fun _ _ e => e)) (Mod.alloc (fun _ => False) w2 o1) (fun _ _ e => e)) (Mod.alloc (fun _ => False) (w2.alloc o1) o2) (fun _ _ e => e)
        have hobz := fun o1 o2 => Own.base (hob o1 o2) (Nat.zero_le _)
        have hmx1 : j + 1 ≤ maxLen := by unfold maxLen; omega
        clear hm2 HARC e0 hiy
        go_wp2_with (at_builtin; refine wpList_append_any rfl (.tmp 42) (.tmp 44) 22 rfl 32 iA (.agg #[.int .i64 0, .int .i64 0, .int .i64 0, .int .i64 0]) 4 32 Try.underlying22 hiA hzA hsA hbA rfl (by decide) _ j ((R.take j).flatMap c4) rfl (hobz _ _) _ 1 [.int .i64 b.f, .int .i64 b.t, .int .i64 b.w, .int .i64 b.m] rfl (by exact Rd.litN 32 4 [.int .i64 b.f, .int .i64 b.t, .int .i64 b.w, .int .i64 b.m] (0, 0) _ 1 (by first | rfl | simp) rfl (by decide)) (by intro u hu; simp at hu; rcases hu with rfl | rfl | rfl | rfl <;> rfl) hmx1 (by omega) ?_; intro v7 w7 hap; obtain ⟨a7, c7, rfl⟩ := hap.form; have HAP := Lib.hid hap; clear hap hob hobz)
        have hlow : ∀ k, (Value.slice ag j cg).ownBlock = some k → w.heap.size ≤ k := fun k hk => (HOW.out.lt k hk).1
        have hs2 : w.heap.size ≤ w2.heap.size := Nat.le_trans HMO.out.size HM2.out.size
        have ho7 := HAP.out.own
        have lo7 := HAP.out.low (B := w.heap.size) (by simp; omega) hlow
        have hm7 := HAP.out.modOld (W0 := w) ((HMO.out.of2 HM2.out).of2 ((Mod.alloc (fun _ => False) w2 _).of2 (Mod.alloc (fun _ => False) _ _))) hlow
        have hx : (R.take j).flatMap c4 ++ [.int .i64 b.f, .int .i64 b.t, .int .i64 b.w, .int .i64 b.m] = (R.take (j + 1)).flatMap c4 := by
          rw [List.take_succ_eq_append_getElem hjR, List.flatMap_append, HB.out]; simp [c4]
        rw [hx] at ho7
        have HO7 := Lib.hid (Own.rebase ho7 lo7)
        have HM7 := Lib.hid hm7
        clear ho7 lo7 hm7 hx hlow hs2
        go_wp2_with fail
        go_roundw
        case rel => exact ⟨j + 1, a7, c7, rfl, by go_num, by omega, HO7.out, HM7.out⟩
        case measure => simp [intOf]; omega
  · have HH := Lib.hid (nt_has h v false (decide_eq_false hf))
    have hres : inL L v = [] := List.filter_eq_nil_iff.2 fun b hb => by
      have := h.ok.may b hb; unfold mayA at this; simp; omega
    rw [hres]
    clear h hres hf
    go_enter Try.func23, Try.ntmps23
    go_wp2_with fail
    refine HH.out.mono ?_
    rintro e w' ⟨rfl, rfl⟩
    go_wp2_with fail
    go_ret
    exact ⟨none, 0, rfl, World.ownsRow_nil _ _ _ _, Mod.refl _ _⟩
end
end Go.Proofs.Ytnklgeekjkchbaa
