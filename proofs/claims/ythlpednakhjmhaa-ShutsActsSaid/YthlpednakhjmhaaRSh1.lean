/- The reference's Shuts: what stands for it; NewShuts, Mask, All, listed by contract. -/
import Derived.Test.YthlpednakhjmhaaSet7
import Derived.Test.YthlpednakhjmhaaShp
import Derived.Deep.DeepCutAuto
import Derived.Deep.CutBlock
namespace Mile
open Go Go.RowKit
/-- The places of true among the first k. -/
def listK (bs : List Bool) (k : Nat) : List Int := ((List.range k).filter fun i : Nat => bs.getD i false).map fun i : Nat => (i : Int)
theorem listK_succ (bs : List Bool) (k : Nat) (hk : k < bs.length) : listK bs (k + 1) = listK bs k ++ (if bs[k] = true then [(k : Int)] else []) := by
  unfold listK
  rw [List.range_succ, List.filter_append, List.map_append]
  congr 1
  cases h : bs[k] <;> simp [List.getD, hk, h]
theorem listK_len (bs : List Bool) (k : Nat) : (listK bs k).length ≤ k := by
  unfold listK; rw [List.length_map]; exact Nat.le_trans (List.length_filter_le _ _) (by simp)
end Mile
namespace Go.Proofs.Ythlpednakhjmhaa
open Go.RowKit Mile
set_option maxRecDepth 100000
/-- The reference's Shuts at block q, its row at g. -/
structure UO (w : World) (q g n : Nat) (us : List Int) : Prop where
  blk : Blk w q 61 [.slice (some ⟨g, 0, none⟩) n n]
  row : w.ownsRow 0 3 1 (.slice (some ⟨g, 0, none⟩) n n) n (us.map (Value.int .i64))
  ne : g ≠ q
  gl : g < w.heap.size
  len : us.length = n
  le : n ≤ 512
theorem UO.keep {F : Nat → Prop} {w w' : World} {q g n : Nat} {us : List Int} (h : UO w q g n us) (hm : Mod F w w') (hq : ¬ F q) (hg : ¬ F g) : UO w' q g n us :=
  ⟨h.blk.keep hm hq, Own.keep h.row hm (fun k hk e => by have : g = k := Option.some.inj hk; subst this; exact hg e), h.ne, Nat.lt_of_lt_of_le h.gl hm.size, h.len, h.le⟩
theorem UO.cell {w : World} {q g n : Nat} {us : List Int} (h : UO w q g n us) (k : Nat) (hk : k < us.length) : w.cell? ⟨g, k, none⟩ = some (.int .i64 us[k]) := by
  have hr := Rd.ofOwn h.row
  have := hr.elem (j := k) (u := .int .i64 us[k]) (by simp [hk])
  rwa [show elemA (some ⟨g, 0, none⟩) k 1 = ⟨g, k, none⟩ by unfold elemA; rw [Option.getD_some, Addr.add_lit]; simp] at this
theorem UO.set {w : World} {q g n : Nat} {us : List Int} (h : UO w q g n us) (k : Nat) (u : Int) : UO (w.setCell ⟨g, k, none⟩ (.int .i64 u)) q g n (us.set k u) := by
  have hm : Mod (fun j => j = g) w (w.setCell ⟨g, k, none⟩ (.int .i64 u)) := Mod.setCell (F := fun j => j = g) w ⟨g, k, none⟩ _ rfl
  refine ⟨h.blk.keep hm (fun e => h.ne e.symm), ?_, h.ne, Nat.lt_of_lt_of_le h.gl hm.size, by rw [List.length_set]; exact h.len, h.le⟩
  rw [List.map_set]
  exact (h.row.stored k (.int .i64 u)).1
theorem UO.room {w : World} {q g n : Nat} {us : List Int} (h : UO w q g n us) (k : Nat) (hk : k < n) : Room w g 3 k := Room.ofOwn h.row k (by omega)
theorem r4w_any (n a b : Int) (w : World) : Calls Try.prog 24 #[.int .i64 n, .int .i64 a, .int .i64 b] w fun e w' => e = .returned (.bool (decide (a ≤ n ∧ n ≤ b))) ∧ w = w' := by
  by_cases h1 : a ≤ n <;> by_cases h2 : n ≤ b <;>
  · go_enter Try.func24, Try.ntmps24
    go_wp2
    go_ret
    exact ⟨by simp [h1, h2], rfl⟩
theorem r4w_q {n a b : Int} {r : Bool} (h : decide (a ≤ n ∧ n ≤ b) = r) (w : World) : Calls Try.prog 24 #[.int .i64 n, .int .i64 a, .int .i64 b] w fun e w' => e = .returned (.bool r) ∧ w = w' :=
  (r4w_any n a b w).mono fun _ _ ⟨h1, h2⟩ => ⟨by rw [h1, h], h2⟩
set_option maxHeartbeats 1000000 in
theorem unew_any (n : Nat) (hn : n ≤ 512) (w : World) : Calls Try.prog 9 #[.int .i64 n] w fun e w' => ∃ q g, e = .returned (.pointer (some ⟨q, 0, none⟩)) ∧ w.heap.size ≤ q ∧ w.heap.size ≤ g ∧ UO w' q g n (List.replicate n 0) ∧ Mod (fun _ => False) w w' := by
  obtain ⟨iI, hiI, hzI, hsI, hbI⟩ := info_parts infoI
  have hmk := run_makeS (P := Try.prog) 28 3 iI (.int .i64 0) Try.underlying28 hiI hzI rfl hsI n (by rw [hbI]; omega) (by omega)
  have h1 : decide ((0 : Int) ≤ (n : Int) ∧ (n : Int) ≤ 512) = true := decide_eq_true ⟨by omega, by omega⟩
  go_enter Try.func9, Try.ntmps9
  go_wp2_with fail
  refine (r4w_q h1 _).mono ?_
  rintro e w' ⟨rfl, rfl⟩
  go_wp2_with fail
  go_ret
  have ho := own_zrow w 3 (.int .i64 0) n w.heap.size rfl (by omega)
  have hA : Mod (fun _ => False) w (World.alloc w (.cells (zrow (.int .i64 0) n) 3)) := Mod.alloc _ _ _
  have hs : (World.alloc w (.cells (zrow (.int .i64 0) n) 3)).heap.size = w.heap.size + 1 := heap_size_alloc _ _
  refine ⟨w.heap.size + 1, w.heap.size, ?_, by omega, Nat.le_refl _, ⟨?_, ?_, by omega, by rw [heap_size_alloc, hs]; omega, by simp, hn⟩, hA.thenAlloc _⟩
  · rw [← hs]; rfl
  · have := Blk.new (World.alloc w (.cells (zrow (.int .i64 0) n) 3)) 61 [.slice (some ⟨w.heap.size, 0, none⟩) n n]
    rwa [hs] at this
  · rw [List.map_replicate]
    exact World.ownsRow.alloc ho _
theorem unew_no (v : Int) (hv : v < 0 ∨ 512 < v) (w : World) : Calls Try.prog 9 #[.int .i64 v] w fun e w' => e = .returned (.pointer none) ∧ w = w' := by
  have h1 : decide ((0 : Int) ≤ v ∧ v ≤ 512) = false := decide_eq_false (by omega)
  go_enter Try.func9, Try.ntmps9
  go_wp2_with fail
  refine (r4w_q h1 _).mono ?_
  rintro e w' ⟨rfl, rfl⟩
  go_wp2_with fail
  go_ret
  exact ⟨rfl, rfl⟩
set_option maxHeartbeats 2000000 in
theorem umask_any (q g n : Nat) (us : List Int) (w : World) (h : UO w q g n us) :
    Calls Try.prog 18 #[.pointer (some ⟨q, 0, none⟩)] w fun e w' => ∃ m, e = .returned (.slice (some ⟨m, 0, none⟩) n n) ∧ w.heap.size ≤ m ∧ w'.ownsRow w.heap.size 4 1 (.slice (some ⟨m, 0, none⟩) n n) n ((maskL us n).map Value.bool) ∧ Mod (fun _ => False) w w' := by
  obtain ⟨iB, hiB, hzB, hsB, hbB⟩ := info_parts infoBl
  have hn := h.le
  have lq : q < w.heap.size := h.blk.lt
  have HUL := Lib.hid h.len
  have qq := h.blk.cell 0 rfl
  have hmk := run_makeS (P := Try.prog) 40 4 iB (.bool false) Try.underlying40 hiB hzB rfl hsB n (by rw [hbB]; omega) (by omega)
  have HS0 := Lib.hid h
  clear h
  go_enter Try.func18, Try.ntmps18
  go_upto_region 2 with fail
  obtain ⟨m, hg⟩ : ∃ g, w.heap.size = g := ⟨_, rfl⟩
  have ho := Own.rebase (own_zrow w 4 (.bool false) n w.heap.size rfl (by omega)) (low_lit (B := w.heap.size) (Nat.le_refl _))
  obtain ⟨wA, hwA⟩ : ∃ W, World.alloc w (.cells (zrow (.bool false) n) 4) = W := ⟨_, rfl⟩
  have hmA : Mod (fun _ => False) w wA := by rw [← hwA]; exact Mod.alloc _ _ _
  have hsA : wA.heap.size = w.heap.size + 1 := by rw [← hwA]; exact heap_size_alloc _ _
  rw [hwA] at ho ⊢
  rw [hg] at ho hsA lq ⊢
  have HG := Lib.hid hg
  have HOA := Lib.hid ho
  have HMA := Lib.hid hmA
  have HSA := Lib.hid hsA
  clear hg ho hmA hsA hwA hmk qq
  have cz : List.replicate n (Value.bool false) = (maskK us n 0).map Value.bool := by rw [maskK_zero]; simp
  rw [cz] at HOA
  clear cz
  go_wp2_with fail
  go_loopw [4] (fun i wr => ∃ k : Nat, k ≤ n ∧ i = .int .i64 k ∧ Mod (fun j => j = m) wA wr ∧ World.ownsRow wr m 4 1 (.slice (some ⟨m, 0, none⟩) n n) n ((maskK us n k).map Value.bool)) (fun i _ => n - (intOf i).toNat)
  case atStart => exact ⟨0, by omega, rfl, Mod.refl _ _, HOA.out⟩
  case round =>
    obtain ⟨k, hk, rfl, hmr, hown⟩ := hrel
    obtain ⟨wo, hwo⟩ : ∃ x : World, x = wr := ⟨_, rfl⟩
    subst hwo
    have hmo : Mod (fun _ => False) w wo := HMA.out.old hmr (fun i hi => by rw [hi, HG.out]; exact Nat.le_refl _)
    have hso := HS0.out.keep hmo (fun e => e) (fun e => e)
    have qq := hso.blk.cell 0 rfl
    have lqo := hso.blk.lt
    have lgo := hso.gl
    have HM := Lib.hid hmr
    have HMO := Lib.hid hmo
    have HO := Lib.hid hown
    clear hmr hmo hown
    by_cases hlt : k < n
    case pos =>
      have hkl : k < us.length := by rw [HUL.out]; omega
      have z0 : decide ((k : Int) < (n : Int)) = true := by simp; omega
      have cA := hso.cell k hkl
      obtain ⟨cu, hcu⟩ : ∃ x, us[k] = x := ⟨_, rfl⟩
      rw [hcu] at cA
      have HCU := Lib.hid hcu
      clear hcu hso
      have hro := Room.ofOwn HO.out k (by omega)
      obtain ⟨v0, r0⟩ := hro.cell
      have f0 := hro.free
      have hk5 : (k : Int) < 512 := by omega
      clear hro
      go_wp2_with fail
      go_roundw
      case rel =>
        refine ⟨k + 1, hlt, by go_num, HM.out.trans (Mod.setCell (F := fun j => j = m) wo ⟨m, k, none⟩ _ rfl) (fun _ _ e => e) (fun _ _ e => e), ?_⟩
        rw [← maskK_set us n k hkl, HCU.out, List.map_set]
        exact (HO.out.stored k (.bool (cu != 0))).1
      case measure => simp [intOf]; omega
    case neg =>
      obtain rfl : k = n := by omega
      have z0 : decide ((k : Int) < (k : Int)) = false := by simp
      clear hso
      go_wp2_with fail
      go_ret
      exact ⟨m, rfl, by rw [HG.out]; exact Nat.le_refl _, by rw [HG.out, ← maskK_all]; exact HO.out, HMO.out⟩
set_option maxHeartbeats 2000000 in
theorem uall_any (q g n : Nat) (us : List Int) (w : World) (h : UO w q g n us) :
    Calls Try.prog 21 #[.pointer (some ⟨q, 0, none⟩)] w fun e w' => ∃ v, e = .returned v ∧ w'.ownsRow w.heap.size 53 2 v (allK us n).length ((allK us n).flatMap c2s) ∧ Mod (fun _ => False) w w' := by
  obtain ⟨iS, hiS, hzS, hsS, hbS⟩ := info_parts infoSh
  have hn := h.le
  have HUL := Lib.hid h.len
  have HS0 := Lib.hid h
  clear h
  go_enter Try.func21, Try.ntmps21
  go_wp2_with fail
  go_loopw [3, 4] (fun v i wr => ∃ k : Nat, k ≤ n ∧ i = .int .i64 k ∧ Mod (fun _ => False) w wr ∧ World.ownsRow wr w.heap.size 53 2 v (allK us k).length ((allK us k).flatMap c2s)) (fun _ i _ => n - (intOf i).toNat)
  case atStart => exact ⟨0, by omega, rfl, Mod.refl _ _, World.ownsRow_nil _ _ _ _⟩
  case round =>
    obtain ⟨k, hk, rfl, hmr, hown⟩ := hrel
    obtain ⟨wo, hwo⟩ : ∃ x : World, x = wr := ⟨_, rfl⟩
    subst hwo
    obtain ⟨av, cv, rfl⟩ := own_form hown
    have hso := HS0.out.keep hmr (fun e => e) (fun e => e)
    have qq := hso.blk.cell 0 rfl
    have lqo := hso.blk.lt
    have lgo := hso.gl
    have HM := Lib.hid hmr
    have HO := Lib.hid hown
    clear hmr hown
    by_cases hlt : k < n
    case pos =>
      have hkl : k < us.length := by rw [HUL.out]; omega
      have z0 : decide ((k : Int) < (n : Int)) = true := by simp; omega
      have cA := hso.cell k hkl
      have has := allK_succ us k hkl
      obtain ⟨cu, hcu⟩ : ∃ x, us[k] = x := ⟨_, rfl⟩
      rw [hcu] at cA has
      have HAS := Lib.hid has
      clear hcu hso has
      obtain ⟨ln, hln⟩ : ∃ q, (allK us k).length = q := ⟨_, rfl⟩
      rw [hln] at HO ⊢
      have hlb : ln ≤ 512 := by rw [← hln]; have := allK_len us k; omega
      have HLN := Lib.hid hln
      clear hln
      have HSW : Hid (w.heap.size ≤ wo.heap.size) := Lib.hid HM.out.size
      by_cases hc : cu = 0
      case pos =>
        have zc : (cu != 0) = false := by simp [hc]
        have HAK : Hid (allK us (k + 1) = allK us k) := Lib.hid (by rw [HAS.out, zc]; simp)
        have HC := Lib.hid hc
        clear hc
        go_wp2_with fail
        go_roundw
        case rel => exact ⟨k + 1, hlt, by go_num, HM.out, by rw [HAK.out, HLN.out]; exact HO.out⟩
        case measure => simp [intOf]; omega
      case neg =>
        have zc : (cu != 0) = true := by simp [hc]
        have HAK : Hid (allK us (k + 1) = allK us k ++ [((k : Int), cu)]) := Lib.hid (by rw [HAS.out, zc]; simp)
        have HC := Lib.hid hc
        clear hc
        go_wp2_with (at_builtin; refine wpList_append_any rfl (.tmp 22) (.tmp 32) 43 rfl 53 iS (.agg #[.int .i64 0, .int .i64 0]) 2 16 Try.underlying43 hiS hzS hsS hbS rfl (by decide) _ ln _ rfl (World.ownsRow.alloc (Own.base HO.out (Nat.zero_le _)) _) _ 1 (c2s ((k : Int), cu)) rfl (Rd.litN _ 2 _ _ _ 1 rfl rfl (by decide)) (by intro u hu; simp [c2s] at hu; rcases hu with rfl | rfl <;> rfl) (by unfold maxLen; omega) (by omega) ?_; intro v4 w4 hap; obtain ⟨a4, c4, rfl⟩ := hap.form; have ho4 := hap.own; have lo4 := hap.low (B := w.heap.size) (by have := HSW.out; simp; omega) (fun q hq => (HO.out.lt q hq).1); have hm4 := hap.modOld (HM.out.thenAlloc _) (fun q hq => (HO.out.lt q hq).1); have HO4 := Lib.hid (Own.rebase ho4 lo4); have HM4 := Lib.hid hm4; clear hap ho4 lo4 hm4)
        go_roundw
        case rel => exact ⟨k + 1, hlt, by go_num, HM4.out, by rw [HAK.out, List.length_append, HLN.out, c2s_snoc]; exact HO4.out⟩
        case measure => simp [intOf]; omega
    case neg =>
      obtain rfl : k = n := by omega
      have z0 : decide ((k : Int) < (k : Int)) = false := by simp
      clear hso
      go_wp2_with fail
      go_ret
      exact ⟨_, rfl, HO.out, HM.out⟩
set_option maxHeartbeats 2000000 in
theorem listed_any (w : World) (a : Option Addr) (n c : Nat) (bs : List Bool) (hl : bs.length = n) (hr : Rd w 1 (.slice a n c) n (bs.map Value.bool)) (hb : n ≤ 512) :
    Calls Try.prog 27 #[.slice a n c] w fun e w' => ∃ v, e = .returned v ∧ w'.ownsRow w.heap.size 3 1 v (listK bs n).length ((listK bs n).map (Value.int .i64)) ∧ Mod (fun _ => False) w w' := by
  obtain ⟨iB, hiB, hzB, hsB, hbB⟩ := info_parts infoBl
  obtain ⟨iI, hiI, hzI, hsI, hbI⟩ := info_parts infoI
  have HUL := Lib.hid hl
  have HR := Lib.hid hr
  clear hl hr
  go_enter Try.func27, Try.ntmps27
  go_wp2_with fail
  go_loopw [3, 4] (fun v i wr => ∃ k : Nat, k ≤ n ∧ i = .int .i64 k ∧ Mod (fun _ => False) w wr ∧ World.ownsRow wr w.heap.size 3 1 v (listK bs k).length ((listK bs k).map (Value.int .i64))) (fun _ i _ => n - (intOf i).toNat)
  case atStart => exact ⟨0, by omega, rfl, Mod.refl _ _, World.ownsRow_nil _ _ _ _⟩
  case round =>
    obtain ⟨k, hk, rfl, hmr, hown⟩ := hrel
    obtain ⟨wo, hwo⟩ : ∃ x : World, x = wr := ⟨_, rfl⟩
    subst hwo
    obtain ⟨av, cv, rfl⟩ := own_form hown
    have hrm := HR.out.keep hmr (fun _ _ e => e)
    have HM := Lib.hid hmr
    have HO := Lib.hid hown
    clear hmr hown
    by_cases hlt : k < n
    case pos =>
      have hkl : k < bs.length := by rw [HUL.out]; omega
      have z0 : decide ((k : Int) < (n : Int)) = true := by simp; omega
      obtain ⟨eb, eo, hpl, _⟩ := hrm.place (j := k) hlt
      have e0 := hrm.elem (j := k) (u := .bool bs[k]) (by simp [hkl])
      have hix := fun wx => run_indexS (P := Try.prog) wx 40 4 iB 1 Try.underlying40 hiB hsB a n c k hlt (hrm.some_ (by omega))
      rw [hpl] at hix e0
      have has := listK_succ bs k hkl
      obtain ⟨cu, hcu⟩ : ∃ x, bs[k] = x := ⟨_, rfl⟩
      rw [hcu] at e0 has
      have HAS := Lib.hid has
      clear hcu hrm hpl has
      obtain ⟨ln, hln⟩ : ∃ q, (listK bs k).length = q := ⟨_, rfl⟩
      rw [hln] at HO ⊢
      have hlb : ln ≤ 512 := by rw [← hln]; have := listK_len bs k; omega
      have HLN := Lib.hid hln
      clear hln
      have HSW : Hid (w.heap.size ≤ wo.heap.size) := Lib.hid HM.out.size
      cases cu with
      | false =>
        have HAK : Hid (listK bs (k + 1) = listK bs k) := Lib.hid (by rw [HAS.out]; simp)
        go_wp2_with fail
        go_roundw
        case rel => exact ⟨k + 1, hlt, by go_num, HM.out, by rw [HAK.out, HLN.out]; exact HO.out⟩
        case measure => simp [intOf]; omega
      | true =>
        have HAK : Hid (listK bs (k + 1) = listK bs k ++ [(k : Int)]) := Lib.hid (by rw [HAS.out]; simp)
        go_wp2_with (at_builtin; refine wpList_append_any rfl (.tmp 15) (.tmp 17) 28 rfl 3 iI (.int .i64 0) 1 8 Try.underlying28 hiI hzI hsI hbI rfl (by decide) _ ln _ rfl (World.ownsRow.alloc (Own.base HO.out (Nat.zero_le _)) _) _ 1 [.int .i64 (k : Int)] rfl (Rd.one _ _ _) (by simp [Value.oneCell']) (by unfold maxLen; omega) (by omega) ?_; intro v4 w4 hap; obtain ⟨a4, c4, rfl⟩ := hap.form; have ho4 := hap.own; have lo4 := hap.low (B := w.heap.size) (by have := HSW.out; simp; omega) (fun q hq => (HO.out.lt q hq).1); have hm4 := hap.modOld (HM.out.thenAlloc _) (fun q hq => (HO.out.lt q hq).1); have HO4 := Lib.hid (Own.rebase ho4 lo4); have HM4 := Lib.hid hm4; clear hap ho4 lo4 hm4)
        go_roundw
        case rel => exact ⟨k + 1, hlt, by go_num, HM4.out, by rw [HAK.out, List.length_append, HLN.out, List.map_append]; exact HO4.out⟩
        case measure => simp [intOf]; omega
    case neg =>
      obtain rfl : k = n := by omega
      have z0 : decide ((k : Int) < (k : Int)) = false := by simp
      clear hrm
      go_wp2_with fail
      go_ret
      exact ⟨_, rfl, HO.out, HM.out⟩
end Go.Proofs.Ythlpednakhjmhaa
