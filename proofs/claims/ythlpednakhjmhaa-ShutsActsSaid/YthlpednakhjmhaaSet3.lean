/- shuts.Set's put by contract. -/
import Derived.Test.YthlpednakhjmhaaSet2
import Derived.Deep.DeepCutAuto
import Derived.Deep.CutBlock
namespace Go.Proofs.Ythlpednakhjmhaa
open Go.RowKit Mile
set_option maxRecDepth 100000
set_option maxHeartbeats 8000000 in
theorem put_any (p n : Nat) (us : List Int) (w : World) (h : SO w p n us) (a : Option Addr) (m c : Nat) (xs : List Int) (hx : XR w p a m c xs) (hb : m ≤ 100000) (hin : hasB n xs = true) (u : Int) :
    Calls Try.prog 26 #[.pointer (some ⟨p, 0, none⟩), .int .i64 u, .slice a m c] w fun e w' => ∃ v, e = .returned v ∧ w'.ownsRow w.heap.size 3 1 v (turnL u us xs).length ((srtI (turnL u us xs)).map (Value.int .i64)) ∧ SO w' p n (putU u us xs) ∧ Mod (fun k => k = p) w w' := by
  obtain ⟨iI, hiI, hzI, hsI, hbI⟩ := info_parts infoI
  have HL := Lib.hid hx.len
  have HX := Lib.hid hx
  have HS0 := Lib.hid h
  have HIN := Lib.hid hin
  clear hx hin
  have hn := h.le
  have lp : p < w.heap.size := h.blk.lt
  clear h
  obtain ⟨B0, hB0⟩ : ∃ b, w.heap.size = b := ⟨_, rfl⟩
  have HB0 := Lib.hid hB0
  rw [hB0] at lp ⊢
  clear hB0
  go_enter Try.func26, Try.ntmps26
  go_wp2_with fail
  go_loopw [7, 12] (fun v i wr => ∃ k : Nat, k ≤ m ∧ i = .int .i64 k ∧ SO wr p n (putU u us (xs.take k)) ∧ Mod (fun k => k = p) w wr ∧ World.ownsRow wr B0 3 1 v (turnL u us (xs.take k)).length ((turnL u us (xs.take k)).map (Value.int .i64))) (fun _ i _ => m - (intOf i).toNat)
  case atStart => exact ⟨0, by omega, rfl, HS0.out, Mod.refl _ _, World.ownsRow_nil _ _ _ _⟩
  case round =>
    obtain ⟨k, hk, rfl, hso, hmr, hown⟩ := hrel
    obtain ⟨wo, hwo⟩ : ∃ x : World, x = wr := ⟨_, rfl⟩
    subst hwo
    obtain ⟨av, cv, rfl⟩ := own_form hown
    have HO := Lib.hid hown
    have HM := Lib.hid hmr
    have HSO := Lib.hid hso
    clear hown hmr hso
    by_cases hlt : k < m
    case pos =>
      have hkl : k < xs.length := by rw [HL.out]; exact hlt
      have z0 : decide ((k : Int) < (m : Int)) = true := by simp; omega
      obtain ⟨j, hj, hjn⟩ := hasB_at HIN.out k hkl
      have hXR := HX.out.keep HM.out
      obtain ⟨eb, eo, hpl, e0⟩ := rd1 hXR.rd k hkl
      have hix := fun wx => run_indexS (P := Try.prog) wx 28 3 iI 1 Try.underlying28 hiI hsI a m c k hlt (hXR.rd.some_ (by omega))
      rw [hpl] at hix
      rw [hj] at e0
      have HJ := Lib.hid hj
      clear hpl hj hXR
      have hjl : j < (putU u us (xs.take k)).length := by rw [HSO.out.len]; omega
      have cA := HSO.out.at_ j hjl
      obtain ⟨cu, hcu⟩ : ∃ x, (putU u us (xs.take k))[j] = x := ⟨_, rfl⟩
      rw [hcu] at cA
      have HCU := Lib.hid hcu
      clear hcu
      have hfz := HSO.out.free (1 + j)
      have hj5 : (j : Int) < 512 := by omega
      obtain ⟨ln, hln⟩ : ∃ q, (turnL u us (xs.take k)).length = q := ⟨_, rfl⟩
      rw [hln] at HO ⊢
      have hlb : ln ≤ 100000 := by rw [← hln]; have h1 := turnL_len u us (xs.take k); have h2 : (xs.take k).length ≤ k := List.length_take_le _ _; omega
      have HLN := Lib.hid hln
      clear hln
      have htn := turnL_snoc u us (xs.take k) xs[k]
      have hpn := putU_snoc u us (xs.take k) xs[k]
      rw [← List.take_succ_eq_append_getElem hkl, HJ.out] at htn hpn
      rw [show ((j : Int)).toNat = j from rfl, show (putU u us (xs.take k)).getD j 0 = cu by simp [List.getD, hjl, HCU.out]] at htn
      rw [show ((j : Int)).toNat = j from rfl] at hpn
      have HPN := Lib.hid hpn
      have HSZ : Hid (B0 ≤ wo.heap.size) := Lib.hid (by rw [← HB0.out]; exact HM.out.size)
      clear hpn
      obtain ⟨bc, hbc⟩ : ∃ b, (cu == 0) = b := ⟨_, rfl⟩
      obtain ⟨bu, hbu⟩ : ∃ b, (u == 0) = b := ⟨_, rfl⟩
      rw [hbc, hbu] at htn
      have HTN := Lib.hid htn
      clear htn
      by_cases hbb : bc = bu
      case pos =>
        subst hbb
        have HT : Hid (turnL u us (xs.take (k + 1)) = turnL u us (xs.take k)) := Lib.hid (by have h := HTN.out; cases bc <;> simpa using h)
        cases bc
        all_goals
          go_wp2_with fail
          go_roundw
          case rel =>
            refine ⟨k + 1, hlt, by go_num, ?_, ?_, ?_⟩
            · rw [HPN.out]; exact HSO.out.set j u
            · exact HM.out.trans (Mod.setCell (F := fun k => k = p) wo ⟨p, 1 + j, none⟩ (.int .i64 u) rfl) (fun _ _ e => e) (fun _ _ e => e)
            · rw [HT.out, HLN.out]
              exact Own.keep HO.out (Mod.setCell (F := fun k => k = p) wo ⟨p, 1 + j, none⟩ (.int .i64 u) rfl) (fun q hq e => by have := (HO.out.lt q hq).1; omega)
          case measure => simp [intOf]; omega
      case neg =>
        have HT : Hid (turnL u us (xs.take (k + 1)) = turnL u us (xs.take k) ++ [(j : Int)]) := Lib.hid (by have h := HTN.out; cases bc <;> cases bu <;> first | exact absurd rfl hbb | simpa using h)
        have HBB := Lib.hid hbb
        clear hbb
        cases bc <;> cases bu <;> first | exact absurd rfl HBB.out | skip
        all_goals
          go_wp2_with (at_builtin; refine wpList_append_any rfl (.tmp 26) (.tmp 28) 28 rfl 3 iI (.int .i64 0) 1 8 Try.underlying28 hiI hzI hsI hbI rfl (by decide) _ ln _ rfl (World.ownsRow.alloc (Own.base HO.out (Nat.zero_le _)) _) _ 1 [.int .i64 (j : Int)] rfl (Rd.one _ _ _) (by simp [Value.oneCell']) (by unfold maxLen; omega) (by omega) ?_; intro v4 w4 hap; obtain ⟨a4, c4, rfl⟩ := hap.form; have ho4 := hap.own; have lo4 := hap.low (B := B0) (by have := HSZ.out; simp; omega) (fun q hq => (HO.out.lt q hq).1); have HO4 := Lib.hid (Own.rebase ho4 lo4); have hmq : Mod (fun q => B0 ≤ q) wo w4 := (Mod.alloc (fun q => B0 ≤ q) wo _).trans (hap.mod.mono (fun q _ e => (HO.out.lt q e).1)) (fun _ _ e => e) (fun _ _ e => e); have HMQ := Lib.hid hmq; have HSO4 := Lib.hid (HSO.out.keep hmq (by omega)); have cA4 := HSO4.out.at_ j hjl; have hf4 := HSO4.out.free (1 + j); rw [HCU.out] at cA4; clear hap ho4 lo4 hmq)
          go_roundw
          case rel =>
            refine ⟨k + 1, hlt, by go_num, ?_, ?_, ?_⟩
            · rw [HPN.out]; exact HSO4.out.set j u
            · exact (HM.out.trans HMQ.out (fun _ _ e => e) (fun q hq e => by have := HB0.out; omega)).trans (Mod.setCell (F := fun k => k = p) w4 ⟨p, 1 + j, none⟩ (.int .i64 u) rfl) (fun _ _ e => e) (fun _ _ e => e)
            · rw [HT.out, List.length_append, HLN.out, List.map_append]
              exact Own.keep HO4.out (Mod.setCell (F := fun k => k = p) w4 ⟨p, 1 + j, none⟩ (.int .i64 u) rfl) (fun q hq e => by have := (HO4.out.lt q hq).1; omega)
          case measure => simp [intOf]; omega
    case neg =>
      obtain rfl : k = m := by omega
      have z0 : decide ((k : Int) < (k : Int)) = false := by simp
      have ht : xs.take k = xs := List.take_of_length_le (by rw [HL.out]; exact Nat.le_refl _)
      have h1 := HO.out
      have h2 := HSO.out
      rw [ht] at h1 h2 ⊢
      have hlb : (turnL u us xs).length ≤ 100000 := by have := turnL_len u us xs; have := HL.out; omega
      have HO5 := Lib.hid h1
      have HSO5 := Lib.hid h2
      clear h1 h2 ht
      go_wp2_with fail
      refine (sort_own HO5.out (by omega)).mono ?_
      rintro e w5 ⟨rfl, ho5, hm5⟩
      have HO6 := Lib.hid ho5
      have HM6 := Lib.hid hm5
      clear ho5 hm5
      go_wp2_with fail
      go_ret
      refine ⟨_, rfl, HO6.out, HSO5.out.keep HM6.out (fun e => by have := (HO5.out.lt _ e).1; omega), HM.out.trans HM6.out (fun _ _ e => e) (fun q hq e => by have := (HO5.out.lt _ e).1; have := HB0.out; omega)⟩
end Go.Proofs.Ythlpednakhjmhaa
