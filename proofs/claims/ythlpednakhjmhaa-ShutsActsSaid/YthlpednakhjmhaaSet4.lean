/- shuts.Set's Mask, All by contract. -/
import Derived.Test.YthlpednakhjmhaaSet2
import Derived.Test.YthlpednakhjmhaaShp
import Derived.Deep.DeepCutAuto
import Derived.Deep.CutBlock
namespace Go.Proofs.Ythlpednakhjmhaa
open Go.RowKit Mile
set_option maxRecDepth 100000
theorem infoBl : (Try.prog.info? 4).map (fun i => (i.zero, i.size, i.bytes)) = some (some (.bool false), 1, 1) := by kernel_rfl
theorem infoSh : (Try.prog.info? 53).map (fun i => (i.zero, i.size, i.bytes)) = some (some (.agg #[.int .i64 0, .int .i64 0]), 2, 16) := by kernel_rfl
theorem mask_nil (w : World) : Calls Try.prog 17 #[.pointer none] w fun e w' => e = .returned (.slice none 0 0) ∧ w = w' := by
  go_enter Try.func17, Try.ntmps17
  go_wp2_with fail
  go_ret
  exact ⟨rfl, rfl⟩
set_option maxHeartbeats 8000000 in
theorem mask_any (p n : Nat) (us : List Int) (w : World) (h : SO w p n us) :
    Calls Try.prog 17 #[.pointer (some ⟨p, 0, none⟩)] w fun e w' => ∃ g, e = .returned (.slice (some ⟨g, 0, none⟩) n n) ∧ w.heap.size ≤ g ∧ w'.ownsRow w.heap.size 4 1 (.slice (some ⟨g, 0, none⟩) n n) n ((maskL us n).map Value.bool) ∧ Mod (fun _ => False) w w' := by
  obtain ⟨iB, hiB, hzB, hsB, hbB⟩ := info_parts infoBl
  have hn := h.le
  have lp : p < w.heap.size := h.blk.lt
  have hul := h.len
  have HUL := Lib.hid hul
  clear hul
  have q0 := h.edges
  have hmk := run_makeS (P := Try.prog) 40 4 iB (.bool false) Try.underlying40 hiB hzB rfl hsB n (by rw [hbB]; omega) (by omega)
  have HS0 := Lib.hid h
  clear h
  go_enter Try.func17, Try.ntmps17
  go_upto_region 4 with fail
  obtain ⟨g, hg⟩ : ∃ g, w.heap.size = g := ⟨_, rfl⟩
  have ho := Own.rebase (own_zrow w 4 (.bool false) n w.heap.size rfl (by omega)) (low_lit (B := w.heap.size) (Nat.le_refl _))
  obtain ⟨wA, hwA⟩ : ∃ W, World.alloc w (.cells (zrow (.bool false) n) 4) = W := ⟨_, rfl⟩
  have hmA : Mod (fun _ => False) w wA := by rw [← hwA]; exact Mod.alloc _ _ _
  have hsA : wA.heap.size = w.heap.size + 1 := by rw [← hwA]; exact heap_size_alloc _ _
  rw [hwA] at ho ⊢
  rw [hg] at ho hsA lp ⊢
  have HG := Lib.hid hg
  have HOA := Lib.hid ho
  have HMA := Lib.hid hmA
  have HSA := Lib.hid hsA
  clear hg ho hmA hsA hwA hmk q0
  have cz : List.replicate n (Value.bool false) = (maskK us n 0).map Value.bool := by rw [maskK_zero]; simp
  rw [cz] at HOA
  clear cz
  go_wp2_with fail
  go_loopw [14] (fun i wr => ∃ k : Nat, k ≤ n ∧ i = .int .i64 k ∧ Mod (fun q => q = g) wA wr ∧ World.ownsRow wr g 4 1 (.slice (some ⟨g, 0, none⟩) n n) n ((maskK us n k).map Value.bool)) (fun i _ => n - (intOf i).toNat)
  case atStart => exact ⟨0, by omega, rfl, Mod.refl _ _, HOA.out⟩
  case round =>
    obtain ⟨k, hk, rfl, hmr, hown⟩ := hrel
    obtain ⟨wo, hwo⟩ : ∃ x : World, x = wr := ⟨_, rfl⟩
    subst hwo
    have hmo : Mod (fun _ => False) w wo := HMA.out.old hmr (fun i hi => by rw [hi, HG.out]; exact Nat.le_refl _)
    have hso := HS0.out.keep hmo (fun e => e)
    have HM := Lib.hid hmr
    have HMO := Lib.hid hmo
    have HO := Lib.hid hown
    clear hmr hmo hown
    by_cases hlt : k < n
    case pos =>
      have hkl : k < us.length := by rw [HUL.out]; omega
      have z0 : decide ((k : Int) < (n : Int)) = true := by simp; omega
      have cA := hso.at_ k hkl
      obtain ⟨cu, hcu⟩ : ∃ x, us[k] = x := ⟨_, rfl⟩
      rw [hcu] at cA
      have HCU := Lib.hid hcu
      clear hcu hso
      have hro := Room.ofOwn HO.out k (by omega)
      obtain ⟨v0, r0⟩ := hro.cell
      have f0 := hro.free
      have hk5 : (k : Int) < 512 := by omega
      clear hro
      go_wp2_with fail
      go_roundw
      case rel =>
        refine ⟨k + 1, hlt, by go_num, HM.out.trans (Mod.setCell (F := fun q => q = g) wo ⟨g, k, none⟩ _ rfl) (fun _ _ e => e) (fun _ _ e => e), ?_⟩
        rw [← maskK_set us n k hkl, HCU.out, List.map_set]
        exact (HO.out.stored k (.bool (cu != 0))).1
      case measure => simp [intOf]; omega
    case neg =>
      obtain rfl : k = n := by omega
      have z0 : decide ((k : Int) < (k : Int)) = false := by simp
      clear hso
      go_wp2_with fail
      go_ret
      exact ⟨g, rfl, by rw [HG.out]; exact Nat.le_refl _, by rw [HG.out, ← maskK_all]; exact HO.out, HMO.out⟩
theorem all_nil (w : World) : Calls Try.prog 20 #[.pointer none] w fun e w' => e = .returned (.slice none 0 0) ∧ w = w' := by
  go_enter Try.func20, Try.ntmps20
  go_wp2_with fail
  refine (mask_nil w).mono ?_
  rintro e w' ⟨rfl, rfl⟩
  go_wp2_with fail
  go_loop [3, 9] (fun v i => v = .slice none 0 0 ∧ i = .int .i64 0) (fun _ _ => 0)
  case atStart => exact ⟨rfl, rfl⟩
  case round =>
    obtain ⟨rfl, rfl⟩ := hrel
    go_wp2_with fail
    go_ret
    exact ⟨rfl, rfl⟩
set_option maxHeartbeats 8000000 in
theorem all_any (p n : Nat) (us : List Int) (w : World) (h : SO w p n us) :
    Calls Try.prog 20 #[.pointer (some ⟨p, 0, none⟩)] w fun e w' => ∃ v, e = .returned v ∧ w'.ownsRow w.heap.size 53 2 v (allK us n).length ((allK us n).flatMap c2s) ∧ Mod (fun _ => False) w w' := by
  obtain ⟨iB, hiB, hzB, hsB, hbB⟩ := info_parts infoBl
  obtain ⟨iS, hiS, hzS, hsS, hbS⟩ := info_parts infoSh
  have hn := h.le
  have HUL := Lib.hid h.len
  have HS0 := Lib.hid h
  clear h
  obtain ⟨B0, hB0⟩ : ∃ b, w.heap.size = b := ⟨_, rfl⟩
  have HB0 := Lib.hid hB0
  clear hB0
  go_enter Try.func20, Try.ntmps20
  go_wp2_with fail
  refine (mask_any p n us w HS0.out).mono ?_
  rintro e wA ⟨g, rfl, _, hom, hmA⟩
  rw [HB0.out] at hom
  have HOM := Lib.hid hom
  have HMA := Lib.hid hmA
  have HSZ : Hid (B0 ≤ wA.heap.size) := Lib.hid (by rw [← HB0.out]; exact hmA.size)
  clear hom hmA
  go_wp2_with fail
  go_loopw [3, 9] (fun v i wr => ∃ k : Nat, k ≤ n ∧ i = .int .i64 k ∧ Mod (fun _ => False) wA wr ∧ World.ownsRow wr wA.heap.size 53 2 v (allK us k).length ((allK us k).flatMap c2s)) (fun _ i _ => n - (intOf i).toNat)
  case atStart => exact ⟨0, by omega, rfl, Mod.refl _ _, World.ownsRow_nil _ _ _ _⟩
  case round =>
    obtain ⟨k, hk, rfl, hmr, hown⟩ := hrel
    obtain ⟨wo, hwo⟩ : ∃ x : World, x = wr := ⟨_, rfl⟩
    subst hwo
    obtain ⟨av, cv, rfl⟩ := own_form hown
    have hmo : Mod (fun _ => False) w wo := HMA.out.of2 hmr
    have hso := HS0.out.keep hmo (fun e => e)
    have hrm := (Rd.ofOwn HOM.out).keep hmr (fun _ _ e => e)
    have HM := Lib.hid hmr
    have HMO := Lib.hid hmo
    have HO := Lib.hid hown
    clear hmr hmo hown
    by_cases hlt : k < n
    case pos =>
      have hkl : k < us.length := by rw [HUL.out]; omega
      have z0 : decide ((k : Int) < (n : Int)) = true := by simp; omega
      have cA := hso.at_ k hkl
      have hkm : k < (maskL us n).length := by rw [maskL_len]; exact hlt
      obtain ⟨eb, eo, hpl, _⟩ := hrm.place (j := k) hlt
      have e0 := hrm.elem (j := k) (u := .bool (us[k] != 0)) (by simp [hkm, maskL_at us n k hkl hkm])
      have hix := fun wx => run_indexS (P := Try.prog) wx 40 4 iB 1 Try.underlying40 hiB hsB (some ⟨g, 0, none⟩) n n k hlt (hrm.some_ (by omega))
      rw [hpl] at hix e0
      have has := allK_succ us k hkl
      obtain ⟨cu, hcu⟩ : ∃ x, us[k] = x := ⟨_, rfl⟩
      rw [hcu] at cA e0 has
      have HAS := Lib.hid has
      clear hcu hso hrm hpl has
      have hk5 : (k : Int) < 512 := by omega
      obtain ⟨ln, hln⟩ : ∃ q, (allK us k).length = q := ⟨_, rfl⟩
      rw [hln] at HO ⊢
      have hlb : ln ≤ 512 := by rw [← hln]; have := allK_len us k; omega
      have HLN := Lib.hid hln
      clear hln
      have HSW : Hid (wA.heap.size ≤ wo.heap.size) := Lib.hid HM.out.size
      by_cases hc : cu = 0
      case pos =>
        have zc : (cu != 0) = false := by simp [hc]
        rw [zc] at e0
        have HAK : Hid (allK us (k + 1) = allK us k) := Lib.hid (by rw [HAS.out, zc]; simp)
        clear zc
        have HC := Lib.hid hc
        clear hc
        go_wp2_with fail
        go_roundw
        case rel => exact ⟨k + 1, hlt, by go_num, HM.out, by rw [HAK.out, HLN.out]; exact HO.out⟩
        case measure => simp [intOf]; omega
      case neg =>
        have zc : (cu != 0) = true := by simp [hc]
        rw [zc] at e0
        have HAK : Hid (allK us (k + 1) = allK us k ++ [((k : Int), cu)]) := Lib.hid (by rw [HAS.out, zc]; simp)
        clear zc
        have HC := Lib.hid hc
        clear hc
        go_wp2_with (at_builtin; refine wpList_append_any rfl (.tmp 15) (.tmp 24) 43 rfl 53 iS (.agg #[.int .i64 0, .int .i64 0]) 2 16 Try.underlying43 hiS hzS hsS hbS rfl (by decide) _ ln _ rfl (World.ownsRow.alloc (Own.base HO.out (Nat.zero_le _)) _) _ 1 (c2s ((k : Int), cu)) rfl (Rd.litN _ 2 _ _ _ 1 rfl rfl (by decide)) (by intro u hu; simp [c2s] at hu; rcases hu with rfl | rfl <;> rfl) (by unfold maxLen; omega) (by omega) ?_; intro v4 w4 hap; obtain ⟨a4, c4, rfl⟩ := hap.form; have ho4 := hap.own; have lo4 := hap.low (B := wA.heap.size) (by have := HSW.out; simp; omega) (fun q hq => (HO.out.lt q hq).1); have hm4 := hap.modOld (HM.out.thenAlloc _) (fun q hq => (HO.out.lt q hq).1); have HO4 := Lib.hid (Own.rebase ho4 lo4); have HM4 := Lib.hid hm4; clear hap ho4 lo4 hm4)
        go_roundw
        case rel => exact ⟨k + 1, hlt, by go_num, HM4.out, by rw [HAK.out, List.length_append, HLN.out, c2s_snoc]; exact HO4.out⟩
        case measure => simp [intOf]; omega
    case neg =>
      obtain rfl : k = n := by omega
      have z0 : decide ((k : Int) < (k : Int)) = false := by simp
      clear hso hrm
      go_wp2_with fail
      go_ret
      exact ⟨_, rfl, Own.rebase HO.out (fun q hq => by rw [HB0.out]; exact Nat.le_trans HSZ.out (HO.out.lt q hq).1), HMO.out⟩
end Go.Proofs.Ythlpednakhjmhaa
