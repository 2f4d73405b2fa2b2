/- taker's Held by contract. -/
import Derived.Test.YtffcoajodpfngaaTk1
import Derived.Test.YtffcoajodpfngaaIRowP
import Derived.Deep.DeepCutAuto
import Derived.Deep.CutBlock
namespace Go.Proofs.Ytffcoajodpfngaa
open Go.RowKit Mile
set_option maxRecDepth 100000
theorem Tk.info3 : (Try.prog.info? 3).map (fun i => (i.zero, i.size, i.bytes)) = some (some (.int .i64 0), 1, 8) := by kernel_rfl
/-- Those that are held, rising: the first j places. -/
def heldT (f : Hld) (N j : Nat) : List Int := ((List.range j).filter (fun i : Nat => (f (N + i)).isSome)).map (fun i : Nat => ((N + i : Nat) : Int))
theorem heldT_succ (f : Hld) (N j : Nat) : heldT f N (j + 1) = heldT f N j ++ (if (f (N + j)).isSome then [((N + j : Nat) : Int)] else []) := by
  unfold heldT
  rw [List.range_succ, List.filter_append, List.map_append]
  congr 1
  cases h : (f (N + j)).isSome <;> simp [h]
theorem heldT_len (f : Hld) (N j : Nat) : (heldT f N j).length ≤ j := by
  unfold heldT
  rw [List.length_map]
  exact Nat.le_trans (List.length_filter_le _ _) (by simp)
theorem heldT_none (N j : Nat) : heldT (fun _ => none) N j = [] := by unfold heldT; simp

set_option maxHeartbeats 16000000 in
theorem tkheld_any (w : World) (p r M N : Nat) (f : Hld) (h : TK w p r M N f) (hNb : N ≤ 1000000000000) :
    Calls Try.prog 14 #[.pointer (some ⟨p, 0, none⟩)] w fun e w' => ∃ a c, e = .returned (.slice a (heldT f N M).length c) ∧ World.ownsRow w' w.heap.size 3 1 (.slice a (heldT f N M).length c) (heldT f N M).length ((heldT f N M).map (Value.int .i64)) ∧ Mod (fun _ => False) w w' := by
  have HS : Hid (Ev (Mod (fun _ => False) w) w) := Lib.hid (Ev.mod w)
  replace HS := Lib.hid ((Ev.blk h.blk).and HS.out)
  obtain ⟨iI, hiI, hzI, hsI, hbI⟩ := info_parts Tk.info3
  have hW := h.W0
  have hW6 := h.W16
  obtain ⟨cs, hcs, hok⟩ := h.row
  replace HS := Lib.hid ((Ev.blk hcs).and HS.out)
  have HOK := Lib.hid hok
  have HSUP := Lib.hid h.sup
  clear hcs hok h
  have hbp := (HS.out.now).2.1
  have qp_0 := hbp.cell 0 rfl
  have qp_1 := hbp.cell 1 rfl
  have lp := hbp.lt
  clear hbp
  go_enter Try.func14, Try.ntmps14
  go_wp2_with fail
  clear qp_0 qp_1 lp
  have HMB := Lib.hid ((HS.out.now).2.2)
  replace HS := Lib.hid ((Ev.mod w).and HS.out)
  go_loopw [3, 13] (fun hv iv wr => ∃ (j : Nat) (ah : Option Addr) (nh ch : Nat), iv = .int .i64 j ∧ hv = .slice ah nh ch ∧ j ≤ M ∧ (heldT f N j).length = nh ∧ World.ownsRow wr w.heap.size 3 1 (.slice ah nh ch) nh ((heldT f N j).map (Value.int .i64)) ∧ Mod (fun _ => False) w wr) (fun hv iv _ => M - (intOf iv).toNat)
  case atStart => exact ⟨0, none, 0, 0, rfl, rfl, by omega, rfl, World.ownsRow_nil _ _ _ _, Mod.refl _ _⟩
  case round =>
    obtain ⟨j, ah, nh, ch, rfl, rfl, hjM, hhl, ho, hmr⟩ := hrel
    obtain ⟨wi, hwo⟩ : ∃ x : World, x = wr := ⟨_, rfl⟩
    subst hwo
    replace HS := Lib.hid (HS.out.step hmr)
    clear hmr
    have hbp := (HS.out.now).2.2.1
    have qp_0 := hbp.cell 0 rfl
    have qp_1 := hbp.cell 1 rfl
    have lp := hbp.lt
    clear hbp
    have HHL := Lib.hid hhl
    have HO := Lib.hid ho
    have hnh : nh ≤ 16 := by have := heldT_len f N j; omega
    clear hhl ho
    by_cases hlt : j < M
    case neg =>
      obtain rfl : M = j := by omega
      have z0 : decide ((M : Int) < (M : Int)) = false := by simp
      have z1 : decide (M < M) = false := by simp
      go_wp2_with fail
      go_ret
      exact ⟨ah, ch, by rw [HHL.out]; rfl, by rw [HHL.out]; exact Own.base HO.out HMB.out.size, (HS.out.now).2.2.2⟩
    case pos =>
      have z0 : decide ((j : Int) < (M : Int)) = true := by simp; omega
      have z1 : decide (j < M) = true := by simp; omega
      have hat := (HOK.out.2 (N + j) (by omega) (by omega)).1
      have hsc := heldT_succ f N j
      obtain ⟨q, hq⟩ : ∃ q, (N + j) % M = q := ⟨_, rfl⟩
      obtain ⟨bh, hbh⟩ : ∃ b, (f (N + j)).isSome = b := ⟨_, rfl⟩
      rw [hq, hbh] at hat
      rw [hbh] at hsc
      have HAT := Lib.hid hat
      have HQ := Lib.hid hq
      have HSC := Lib.hid hsc
      clear hat hq hbh hsc
      have hca : ((N + j : Nat) : Int) = (N : Int) + (j : Int) := by omega
      have hcall := fun w => tkat_any w p r M N hW
      have HCA := Lib.hid hca
      clear hca hcall
      clear qp_0 qp_1 lp
      have hbp := (HS.out.now).2.2.1
      have qp_0 := hbp.cell 0 rfl
      have qp_1 := hbp.cell 1 rfl
      have lp := hbp.lt
      clear hbp
      have hkat : Calls Try.prog 18 #[.pointer (some ⟨p, 0, none⟩), .int .i64 ((N : Int) + (j : Int))] wi fun e w' => e = .returned (.pointer (some ⟨r, q * 2, none⟩)) ∧ Mod (fun _ => False) wi w' := by have h := tkat_any wi p r M N hW ((HS.out.now).2.2.1) (N + j); rw [HCA.out, HQ.out] at h; exact h
      have HK := Lib.hid hkat
      clear hkat
      go_wp2_with fail
      refine (HK.out).mono ?_
      rintro e wq1 ⟨rfl, hmm⟩
      have HMK := Lib.hid hmm
      replace HS := Lib.hid (HS.out.step hmm)
      clear hmm
      clear qp_0 qp_1 lp
      have hbp := (HS.out.now).2.2.1
      have qp_0 := hbp.cell 0 rfl
      have qp_1 := hbp.cell 1 rfl
      have lp := hbp.lt
      clear hbp
      have c0 := ((HS.out.now).2.1).cell _ HAT.out
      have hmq := (HS.out.now).1
      cases bh with
      | false =>
        have hsc := HSC.out
        rw [if_neg (by simp), List.append_nil] at hsc
        have HS2 := Lib.hid hsc
        clear hsc
        go_wp2_with fail
        go_roundw
        case rel => exact ⟨j + 1, ah, nh, ch, by go_num, rfl, hlt, by rw [HS2.out]; exact HHL.out, by rw [HS2.out]; exact Own.keep HO.out HMK.out (fun _ _ e => e), (HS.out.now).1⟩
        case measure => simp [intOf]; omega
      | true =>
        have hsc := HSC.out
        rw [if_pos rfl] at hsc
        have HS2 := Lib.hid hsc
        clear hsc
        have hoa := fun o => Own.base (Own.keep HO.out (HMK.out.thenAlloc o) (fun _ _ e => e)) (Nat.zero_le _)
        have hb1 : nh + 1 ≤ maxLen := by unfold maxLen; omega
        clear qp_0 qp_1 lp
        go_wp2_with (at_builtin; refine wpList_append_any rfl (.tmp 28) (.tmp 30) 22 rfl 3 iI (.int .i64 0) 1 8 Try.underlying22 hiI hzI hsI hbI rfl (by decide) _ nh ((heldT f N j).map (Value.int .i64)) rfl (hoa _) _ 1 [.int .i64 ((N : Int) + (j : Int))] rfl (Rd.lit _ _ _ _ 1 rfl rfl (by decide)) (by intro u hu; simp at hu; subst hu; rfl) hb1 (by omega) ?_; intro v4 w4 hap)
        obtain ⟨a4, c4, rfl⟩ := hap.form
        have ho4 := hap.own
        have lo4 := hap.low (B := w.heap.size) (by have h1 := hmq.size; simp; omega) (fun k hk => (HO.out.lt k hk).1)
        have hm4 := (hmq.thenAlloc _).old hap.mod (fun i hi => (HO.out.lt i hi).1)
        have ho5 := Own.rebase ho4 lo4
        have HO5 := Lib.hid ho5
        have HM4 := Lib.hid hm4
        clear hap ho4 lo4 hm4 ho5 hmq hoa c0
        go_wp2_with fail
        go_roundw
        case rel => exact ⟨j + 1, a4, nh + 1, c4, by go_num, rfl, hlt, by rw [HS2.out, List.length_append, HHL.out]; rfl, by rw [HS2.out, List.map_append, HCA.out]; exact HO5.out, HM4.out⟩
        case measure => simp [intOf]; omega
end Go.Proofs.Ytffcoajodpfngaa
