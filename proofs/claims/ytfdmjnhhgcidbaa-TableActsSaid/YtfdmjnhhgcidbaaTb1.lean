/- table's New, isPeer, of, All, Len, by contract. -/
import Derived.Test.YtfdmjnhhgcidbaaTbP
import Derived.Deep.DeepCutAuto
import Derived.Deep.CutBlock
import Derived.Deep.QuietTactic
import Derived.BigQuiet
import Derived.Lib.Hide
namespace Go.Proofs.Ytfdmjnhhgcidbaa
open Go.RowKit Mile
set_option maxRecDepth 100000
theorem Tb.infoE : (Try.prog.info? 90).map (fun i => (i.zero, i.size, i.bytes)) = some (some (.pointer none), 1, 8) := by kernel_rfl
theorem Tb.infoI : (Try.prog.info? 3).map (fun i => (i.zero, i.size, i.bytes)) = some (some (.int .i64 0), 1, 8) := by kernel_rfl
/-- An element of an array of sixteen, by its address. -/
theorem run_indexA16 {P : Program} (wx : World) (t e : TypeId) (i : TypeInfo) (ht : P.underlying t = some (.array 16 e)) (hi : P.info? e = some i) (hs : i.size = 1) (nb o j : Nat) (hj : j < 16) :
    (Instr.indexAt t (.pointer (some ⟨nb, o, none⟩)) (.int .i64 (j : Int))).run P wx = .ok (.pointer (some ⟨nb, o + j, none⟩)) wx := by
  have h1 : ¬ ((j : Int) < 0 ∨ 16 ≤ (j : Int)) := by omega
  rcases below16 hj with rfl | rfl | rfl | rfl | rfl | rfl | rfl | rfl | rfl | rfl | rfl | rfl | rfl | rfl | rfl | rfl <;> simp [Instr.indexAt, run_underlying ht, asIntOf, Go.sizeOf, typeInfo, hi, hs, Instr.sureAddr, Addr.add]
/-- .. of one that is a value. -/
theorem run_indexV16 {P : Program} (wx : World) (t e : TypeId) (i : TypeInfo) (ht : P.underlying t = some (.array 16 e)) (hag : ∀ wy, (isAgg e).run P wy = .ok false wy) (hi : P.info? e = some i) (hs : i.size = 1) (f : Nat → Value) (j : Nat) (hj : j < 16) :
    (Instr.index t (.agg #[f 0, f 1, f 2, f 3, f 4, f 5, f 6, f 7, f 8, f 9, f 10, f 11, f 12, f 13, f 14, f 15]) (.int .i64 (j : Int))).run P wx = .ok (f j) wx := by
  rcases below16 hj with rfl | rfl | rfl | rfl | rfl | rfl | rfl | rfl | rfl | rfl | rfl | rfl | rfl | rfl | rfl | rfl <;> simp [Instr.index, run_underlying ht, asIntOf, part, hag, Go.sizeOf, typeInfo, hi, hs]
theorem tbnew_no (w : World) (v : Int) (h : ¬ (1 ≤ v ∧ v ≤ 16)) : Calls Try.prog 30 #[.int .i64 v] w fun e w' => e = .returned (.tuple #[.pointer none, .int .i64 1]) ∧ w = w' := by
  by_cases h1 : v < 1
  · have z0 : decide (v < 1) = true := by simpa using h1
    clear h h1
    go_enter Try.func30, Try.ntmps30
    go_wp2_with fail
    go_ret2
    exact ⟨rfl, rfl⟩
  · have z0 : decide (v < 1) = false := by simpa using h1
    have z1 : decide (16 < v) = true := by simp; omega
    clear h h1
    go_enter Try.func30, Try.ntmps30
    go_wp2_with fail
    go_ret2
    exact ⟨rfl, rfl⟩
theorem tbnew_any (w : World) (M : Nat) (h1 : 1 ≤ M) (h2 : M ≤ 16) : Calls Try.prog 30 #[.int .i64 (M : Int)] w fun e w' => ∃ p, e = .returned (.tuple #[.pointer (some ⟨p, 0, none⟩), .int .i64 0]) ∧ TB w' p M (fun _ => none) (fun _ => 0) ∧ w.heap.size ≤ p ∧ Mod (fun _ => False) w w' := by
  have z0 : decide ((M : Int) < 1) = false := by simp; omega
  have z1 : decide (16 < (M : Int)) = false := by simp; omega
  go_enter Try.func30, Try.ntmps30
  go_wp2_with fail
  go_ret2
  exact ⟨w.heap.size, rfl, ⟨h1, h2, Blk.new w 151 (tbC M (fun _ => none) (fun _ => 0)), fun _ _ _ _ e => (by cases e), fun _ _ => ⟨by omega, by omega⟩⟩, Nat.le_refl _, Mod.alloc _ _ _⟩
theorem ispeer_is (w : World) (v : Int) (r : Bool) (h : decide (0 ≤ v ∧ v < 16) = r) : Calls Try.prog 73 #[.int .i64 v] w fun e w' => e = .returned (.bool r) ∧ w = w' := by
  by_cases h1 : 0 ≤ v
  · have z0 : decide (0 ≤ v) = true := by simpa using h1
    have h2 : decide (v < 16) = r := by rw [← h]; simp [h1]
    clear h h1
    go_enter Try.func73, Try.ntmps73
    go_wp2_with fail
    go_ret
    exact ⟨rfl, rfl⟩
  · have z0 : decide (0 ≤ v) = false := by simpa using h1
    have h2 : r = false := by rw [← h]; simp; omega
    subst h2
    clear h h1
    go_enter Try.func73, Try.ntmps73
    go_wp2_with fail
    go_ret
    exact ⟨rfl, rfl⟩
theorem tbof_nil (w : World) (v : Int) : Calls Try.prog 75 #[.pointer none, .int .i64 v] w fun e w' => e = .returned (.pointer none) ∧ w = w' := by
  go_enter Try.func75, Try.ntmps75
  go_wp2_with fail
  go_ret
  exact ⟨rfl, rfl⟩
theorem tball_nil (w : World) : Calls Try.prog 45 #[.pointer none] w fun e w' => e = .returned (.slice none 0 0) ∧ w = w' := by
  go_enter Try.func45, Try.ntmps45
  go_wp2_with fail
  go_ret
  exact ⟨rfl, rfl⟩
section
variable {w : World} {p M : Nat} {es : Nat → TbE} {gr : Nat → Int}
theorem tbof_no (v : Int) (h : ¬ (0 ≤ v ∧ v < 16)) : Calls Try.prog 75 #[.pointer (some ⟨p, 0, none⟩), .int .i64 v] w fun e w' => e = .returned (.pointer none) ∧ w = w' := by
  have HP := Lib.hid (ispeer_is w v false (decide_eq_false h))
  clear h
  go_enter Try.func75, Try.ntmps75
  go_wp2_with fail
  refine HP.out.mono ?_
  rintro e w' ⟨rfl, rfl⟩
  go_wp2_with fail
  go_ret
  exact ⟨rfl, rfl⟩
theorem tbof_any (h : TB w p M es gr) (i : Nat) (hi : i < 16) : Calls Try.prog 75 #[.pointer (some ⟨p, 0, none⟩), .int .i64 (i : Int)] w fun e w' => e = .returned (tbV (es i)) ∧ w = w' := by
  obtain ⟨iE, hiE, hzE, hsE, hbE⟩ := info_parts Tb.infoE
  have HP := Lib.hid (ispeer_is w (i : Int) true (decide_eq_true (by omega)))
  have ci := h.cellE hi
  have hix := fun wx => run_indexA16 (P := Try.prog) wx 149 90 iE Try.underlying149 hiE hsE p 1 i hi
  clear h
  obtain ⟨v, hv⟩ : ∃ v, tbV (es i) = v := ⟨_, rfl⟩
  rw [hv] at ci ⊢
  clear hv
  go_enter Try.func75, Try.ntmps75
  go_wp2_with fail
  refine HP.out.mono ?_
  rintro e w' ⟨rfl, rfl⟩
  go_wp2_with fail
  go_ret
  exact ⟨rfl, rfl⟩
set_option maxHeartbeats 8000000 in
theorem tball_any (h : TB w p M es gr) : Calls Try.prog 45 #[.pointer (some ⟨p, 0, none⟩)] w fun e w' => ∃ a c, e = .returned (.slice a (liveN es 16).length c) ∧ World.ownsRow w' w.heap.size 90 1 (.slice a (liveN es 16).length c) (liveN es 16).length ((liveN es 16).map fun i => tbV (es i)) ∧ Mod (fun _ => False) w w' := by
  obtain ⟨iE, hiE, hzE, hsE, hbE⟩ := info_parts Tb.infoE
  have HT := Lib.hid h
  have c0 : w.cell? ⟨p, 1, none⟩ = some (tbV (es 0)) := h.blk.cell 1 rfl
  have c1 : w.cell? ⟨p, 2, none⟩ = some (tbV (es 1)) := h.blk.cell 2 rfl
  have c2 : w.cell? ⟨p, 3, none⟩ = some (tbV (es 2)) := h.blk.cell 3 rfl
  have c3 : w.cell? ⟨p, 4, none⟩ = some (tbV (es 3)) := h.blk.cell 4 rfl
  have c4 : w.cell? ⟨p, 5, none⟩ = some (tbV (es 4)) := h.blk.cell 5 rfl
  have c5 : w.cell? ⟨p, 6, none⟩ = some (tbV (es 5)) := h.blk.cell 6 rfl
  have c6 : w.cell? ⟨p, 7, none⟩ = some (tbV (es 6)) := h.blk.cell 7 rfl
  have c7 : w.cell? ⟨p, 8, none⟩ = some (tbV (es 7)) := h.blk.cell 8 rfl
  have c8 : w.cell? ⟨p, 9, none⟩ = some (tbV (es 8)) := h.blk.cell 9 rfl
  have c9 : w.cell? ⟨p, 10, none⟩ = some (tbV (es 9)) := h.blk.cell 10 rfl
  have c10 : w.cell? ⟨p, 11, none⟩ = some (tbV (es 10)) := h.blk.cell 11 rfl
  have c11 : w.cell? ⟨p, 12, none⟩ = some (tbV (es 11)) := h.blk.cell 12 rfl
  have c12 : w.cell? ⟨p, 13, none⟩ = some (tbV (es 12)) := h.blk.cell 13 rfl
  have c13 : w.cell? ⟨p, 14, none⟩ = some (tbV (es 13)) := h.blk.cell 14 rfl
  have c14 : w.cell? ⟨p, 15, none⟩ = some (tbV (es 14)) := h.blk.cell 15 rfl
  have c15 : w.cell? ⟨p, 16, none⟩ = some (tbV (es 15)) := h.blk.cell 16 rfl
  clear h
  go_enter Try.func45, Try.ntmps45
  go_wp2_with fail
  have hiv : ∀ (j : Nat) (_ : j < 16) (wx : World), (Instr.index 149 (.agg #[tbV (es 0), tbV (es 1), tbV (es 2), tbV (es 3), tbV (es 4), tbV (es 5), tbV (es 6), tbV (es 7), tbV (es 8), tbV (es 9), tbV (es 10), tbV (es 11), tbV (es 12), tbV (es 13), tbV (es 14), tbV (es 15)]) (.int .i64 (j : Int))).run Try.prog wx = .ok (tbV (es j)) wx := fun j hj wx => run_indexV16 (P := Try.prog) wx 149 90 iE Try.underlying149 (fun wy => by simp [isAgg, run_underlying Try.underlying90]) hiE hsE (fun i => tbV (es i)) j hj
  have HIV := Lib.hid hiv
  clear hiv c0 c1 c2 c3 c4 c5 c6 c7 c8 c9 c10 c11 c12 c13 c14 c15
  go_loopw [3, 12] (fun v iv wr => ∃ (j k : Nat) (a : Option Addr) (c : Nat), j ≤ 16 ∧ iv = .int .i64 j ∧ v = .slice a k c ∧ (liveN es j).length = k ∧ World.ownsRow wr w.heap.size 90 1 (.slice a k c) k ((liveN es j).map fun i => tbV (es i)) ∧ Mod (fun _ => False) w wr) (fun _ iv _ => 16 - (intOf iv).toNat)
  case atStart => exact ⟨0, 0, none, 0, by omega, rfl, rfl, rfl, World.ownsRow_nil _ _ _ _, Mod.refl _ _⟩
  case round =>
    obtain ⟨j, k, a, c, hj, rfl, rfl, hk, ho, hmr⟩ := hrel
    obtain ⟨wo, hwo⟩ : ∃ x : World, x = wr := ⟨_, rfl⟩
    subst hwo
    have HO := Lib.hid ho
    have HMR := Lib.hid hmr
    have HK := Lib.hid hk
    have hkb : k ≤ 16 := by have := liveN_len es j; omega
    clear ho hmr hk
    by_cases hlt : j < 16
    case neg =>
      obtain rfl : j = 16 := by omega
      have z0 : decide (((16 : Nat) : Int) < 16) = false := by simp
      go_wp2_with fail
      go_ret
      have hk := HK.out
      subst hk
      exact ⟨a, c, rfl, HO.out, HMR.out⟩
    case pos =>
      have z0 : decide ((j : Int) < 16) = true := by simp; omega
      have z1 : decide (j < 16) = true := by simpa using hlt
      have hix := HIV.out j hlt
      cases hes : es j with
      | none =>
        rw [hes] at hix
        replace hix : ∀ wx : World, (Instr.index 149 (.agg #[tbV (es 0), tbV (es 1), tbV (es 2), tbV (es 3), tbV (es 4), tbV (es 5), tbV (es 6), tbV (es 7), tbV (es 8), tbV (es 9), tbV (es 10), tbV (es 11), tbV (es 12), tbV (es 13), tbV (es 14), tbV (es 15)]) (.int .i64 (j : Int))).run Try.prog wx = .ok (.pointer none) wx := hix
        have HLV : Hid (liveN es (j + 1) = liveN es j) := Lib.hid (by rw [liveN_succ, hes]; simp)
        clear hes
        go_wp2_with fail
        go_roundw
        case rel => exact ⟨j + 1, k, a, c, hlt, by go_num, rfl, by rw [HLV.out]; exact HK.out, by rw [HLV.out]; exact HO.out, HMR.out⟩
        case measure => simp [intOf]; omega
      | some x =>
        obtain ⟨b, ch⟩ := x
        rw [hes] at hix
        replace hix : ∀ wx : World, (Instr.index 149 (.agg #[tbV (es 0), tbV (es 1), tbV (es 2), tbV (es 3), tbV (es 4), tbV (es 5), tbV (es 6), tbV (es 7), tbV (es 8), tbV (es 9), tbV (es 10), tbV (es 11), tbV (es 12), tbV (es 13), tbV (es 14), tbV (es 15)]) (.int .i64 (j : Int))).run Try.prog wx = .ok (.pointer (some ⟨b, 0, none⟩)) wx := hix
        have HLV : Hid (liveN es (j + 1) = liveN es j ++ [j]) := Lib.hid (by rw [liveN_succ, hes]; simp)
        have HEV : Hid (tbV (es j) = .pointer (some ⟨b, 0, none⟩)) := Lib.hid (by rw [hes]; rfl)
        clear hes
        go_wp2_with (at_builtin; refine wpList_append_any rfl (.tmp 17) (.tmp 19) 94 rfl 90 iE (.pointer none) 1 8 Try.underlying94 hiE hzE hsE hbE rfl (by decide) _ k _ rfl (World.ownsRow.alloc (Own.base HO.out (Nat.zero_le _)) _) _ 1 [.pointer (some ⟨b, 0, none⟩)] rfl (Rd.lit 90 [.pointer (some ⟨b, 0, none⟩)] (0, 0) wo.heap.size 1 rfl rfl (by decide)) (by intro u hu; simp at hu; subst hu; rfl) (by unfold maxLen; omega) (by omega) ?_; intro v4 w4 hap)
        obtain ⟨a4, c4, rfl⟩ := hap.form
        have hsz := HMR.out.size
        have ho4 := hap.own
        have lo4 := hap.low (B := w.heap.size) (by simp; omega) (fun k hk => (HO.out.lt k hk).1)
        have hm4 := (HMR.out.thenAlloc (.cells #[.pointer (some ⟨b, 0, none⟩)] 90)).old hap.mod (fun i hi => (HO.out.lt i hi).1)
        have HO5 := Lib.hid (Own.rebase ho4 lo4)
        have HM4 := Lib.hid hm4
        clear hap ho4 lo4 hm4 hsz
        go_wp2_with fail
        go_roundw
        case rel => exact ⟨j + 1, k + 1, a4, c4, hlt, by go_num, rfl, by rw [HLV.out, List.length_append, HK.out]; rfl, by rw [HLV.out, List.map_append]; simp only [List.map_cons, List.map_nil, HEV.out]; exact HO5.out, HM4.out⟩
        case measure => simp [intOf]; omega
end
end Go.Proofs.Ytfdmjnhhgcidbaa
