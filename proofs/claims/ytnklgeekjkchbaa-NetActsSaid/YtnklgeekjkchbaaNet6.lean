/- Nets: slices.Grow of nothing, Concat, All, by contract. -/
import Derived.Test.YtnklgeekjkchbaaNet5
namespace Go.Proofs.Ytnklgeekjkchbaa
open Go.RowKit Mile
set_option maxRecDepth 100000
set_option maxHeartbeats 4000000 in
theorem nt_grow (w : World) (k : Nat) (hk : k ≤ 1000000) : Calls Try.prog 61 #[.slice none 0 0, .int .i64 (k : Int)] w fun e w' => ∃ a c, e = .returned (.slice a 0 c) ∧ w'.ownsRow w.heap.size 32 4 (.slice a 0 c) 0 [] ∧ Mod (fun _ => False) w w' := by
  have z0 : decide ((k : Int) < 0) = false := by simp
  by_cases h0 : 0 < k
  · have z1 : decide (0 < (k : Int)) = true := by simp; omega
    obtain ⟨iA, hiA, hzA, hsA, hbA⟩ := info_parts Nt.infoA
    have hk0 : IntKind.i64.wrap (k : Int) = (k : Int) := IntWalk.i64_in _ (by omega)
    have hold : (Builtin.firstCells iA.size 0 (.slice none 0 0)).run Try.prog w.drew = .ok (([] : List Value)).toArray w.drew := by simp [Builtin.firstCells]
    have hrz : ∀ ty, (Builtin.append_ #[22, 3] ty #[.slice none 0 0, .int .i64 (k : Int)]).run Try.prog w = _ := fun ty => Lib.run_append_grow_zeros w 22 3 ty 32 iA (.agg #[.int .i64 0, .int .i64 0, .int .i64 0, .int .i64 0]) .i64 .i64 Try.underlying22 Try.underlying3 hiA hzA none 0 0 [] hold k h0 (by omega) (by omega) (by omega) (by rw [hbA]; omega) (by rw [hbA]; exact growslice_fits (by omega) (by omega))
    rw [Nat.zero_add] at hrz
    obtain ⟨G, hG⟩ : ∃ G, grownCap w k 0 32 = G := ⟨_, rfl⟩
    have hGn : k ≤ G := by rw [← hG]; exact grownCap_ge w _ _ _
    have hGm : G ≤ maxLen := by rw [← hG]; exact grownCap_le_maxLen w k 0 32 (by unfold maxLen; omega)
    rw [hG] at hrz
    obtain ⟨ROW, hROW⟩ : ∃ ROW : Array Value, (([] : List Value)).toArray ++ Builtin.zeroCells (Value.cells (.agg #[.int .i64 0, .int .i64 0, .int .i64 0, .int .i64 0])) k ++ Builtin.zeroCells (Value.cells (.agg #[.int .i64 0, .int .i64 0, .int .i64 0, .int .i64 0])) (G - k) = ROW := ⟨_, rfl⟩
    rw [hROW] at hrz
    have hRl : ROW.size = G * 4 := by rw [← hROW]; simp [Builtin.zeroCells, Value.cells]; omega
    obtain ⟨W1, hW1⟩ : ∃ W1, w.drew.alloc (.cells ROW 32) = W1 := ⟨_, rfl⟩
    rw [hW1] at hrz
    have hm1 : Mod (fun _ => False) w W1 := by rw [← hW1]; exact (Mod.drew (fun _ => False) w).trans (Mod.alloc _ _ _) (fun _ _ e => e) (fun _ _ e => e)
    have ho1 : W1.ownsRow w.heap.size 32 4 (.slice (some ⟨w.heap.size, 0, none⟩) 0 G) 0 [] := by
      refine ⟨rfl, .inr ⟨w.heap.size, G, ROW, rfl, Nat.le_refl _, ?_, Nat.zero_le _, hGm, hRl, by simp⟩⟩
      rw [← hW1]
      have h9 := Blk.new w.drew 32 ROW.toList
      unfold Blk at h9
      simpa using h9
    have htk := fun wx => run_takeS (P := Try.prog) wx 22 32 iA Try.underlying22 hiA (some ⟨w.heap.size, 0, none⟩) k G 0 (Nat.zero_le _)
    have htn := fun wx => run_takeS (P := Try.prog) wx 22 32 iA Try.underlying22 hiA none 0 0 0 (Nat.le_refl _)
    have HO1 := Lib.hid ho1
    have HM1 := Lib.hid hm1
    have HRZ := Lib.hid hrz
    clear hold hrz hROW hRl hW1 hm1 ho1 hG hGn hGm
    go_enter Try.func61, Try.ntmps61
    go_wp2_with (at_builtin; refine Lib.wpList_append_run _ rfl _ _ _ _ rfl _ _ rfl rfl _ _ (HRZ.out _) ?_)
    go_ret
    exact ⟨_, _, rfl, HO1.out, HM1.out⟩
  · obtain rfl : k = 0 := by omega
    go_enter Try.func61, Try.ntmps61
    go_wp2_with fail
    go_ret
    exact ⟨none, 0, rfl, World.ownsRow_nil _ _ _ _, Mod.refl _ _⟩
/-- All rows, one behind the other. -/
def allR (ro : Nat → List Ar) (j : Nat) : List Ar := (List.range j).flatMap ro
theorem allR_succ (ro : Nat → List Ar) (j : Nat) : allR ro (j + 1) = allR ro j ++ ro j := by
  unfold allR; rw [List.range_succ, List.flatMap_append]; simp
theorem allR_le (ro : Nat → List Ar) (m : Nat) (h : ∀ v, (ro v).length ≤ m) : ∀ j, (allR ro j).length ≤ j * m
  | 0 => by simp [allR]
  | j + 1 => by rw [allR_succ, List.length_append, Nat.add_mul, Nat.one_mul]; have := allR_le ro m h j; have := h j; omega
section
variable {w w' : World} {p n : Nat} {L : List Ar} {F : Nat → Prop}
set_option maxHeartbeats 8000000 in
theorem nt_concat (h : NT w p n L F) (ob ib : Nat) (q0 : w.cell? ⟨p, 0, none⟩ = some (.slice (some ⟨ob, 0, none⟩) n n)) : Calls Try.prog 45 #[.slice (some ⟨ob, 0, none⟩) n n] w fun e w' => NewR 32 4 L.length (L.flatMap c4) w e w' := by
  obtain ⟨iA, hiA, hzA, hsA, hbA⟩ := info_parts Nt.infoA
  obtain ⟨iS, hiS, hzS, hsS, hbS⟩ := info_parts Nt.infoSA
  have hall : allR (fun v => outL L (v : Int)) n = L := outL_all h.ok.sort n (fun b hb => by have := h.ok.may b hb; unfold mayA at this; omega)
  have hlen := fun v : Nat => outL_len h.ok (v : Int)
  have h512 := h.n512
  have hrow : ∀ wx, Mod (fun _ => False) w wx → ∀ v, v < n → ∃ a c, wx.cell? ⟨ob, v, none⟩ = some (.slice a (outL L (v : Int)).length c) ∧ Rd wx 4 (.slice a (outL L (v : Int)).length c) (outL L (v : Int)).length ((outL L (v : Int)).flatMap c4) := fun wx m v hv => by
    obtain ⟨ob2, ib2, a, c, e0, _, e2, e3, _⟩ := (h.later m).orow v hv
    have e0' := m.cell q0 (fun e => e)
    rw [e0] at e0'
    cases e0'
    exact ⟨a, c, e2, Rd.ofOwn e3⟩
  obtain ⟨ro, hro⟩ : ∃ ro, (fun v : Nat => outL L (v : Int)) = ro := ⟨_, rfl⟩
  have hrow2 : ∀ wx, Mod (fun _ => False) w wx → ∀ v, v < n → ∃ a c, wx.cell? ⟨ob, v, none⟩ = some (.slice a (ro v).length c) ∧ Rd wx 4 (.slice a (ro v).length c) (ro v).length ((ro v).flatMap c4) := by rw [← hro]; exact hrow
  have hlen2 : ∀ v, (ro v).length ≤ n := by rw [← hro]; exact hlen
  rw [hro] at hall
  have hle := allR_le ro n hlen2
  have hbig : n * n ≤ 262144 := Nat.mul_le_mul h512 h512
  have hlej : ∀ j, j ≤ n → (allR ro j).length ≤ 262144 := fun j hj => by have := hle j; have := Nat.mul_le_mul_right n hj; omega
  have HALL := Lib.hid hall
  have HROW := Lib.hid hrow2
  have HLE := Lib.hid hlej
  have HL2 := Lib.hid hlen2
  clear h q0 hall hlen hrow hro hrow2 hle hbig hlej hlen2
  go_enter Try.func45, Try.ntmps45
  go_wp2_with fail
  go_loopw [3, 11] (fun sv jv wr => ∃ j : Nat, j ≤ n ∧ sv = .int .i64 ((allR ro j).length : Int) ∧ jv = .int .i64 (j : Int) ∧ w = wr) (fun _ jv _ => n - (intOf jv).toNat)
  case atStart => exact ⟨0, Nat.zero_le _, rfl, rfl, rfl⟩
  case round =>
    obtain ⟨j, hj, rfl, rfl, rfl⟩ := hrel
    by_cases hjl : j < n
    · have z0 : decide ((j : Int) < (n : Int)) = true := by simp; omega
      obtain ⟨a, c, e0, hr⟩ := HROW.out w (Mod.refl _ _) j hjl
      have hix := fun wx => run_indexS (P := Try.prog) wx 69 22 iS 1 Try.underlying69 hiS hsS (some ⟨ob, 0, none⟩) n n j hjl (by simp)
      rw [elemA_lit] at hix
      have hsum : (allR ro j).length + (ro j).length = (allR ro (j + 1)).length := by rw [allR_succ, List.length_append]
      have hb := HLE.out (j + 1) (by omega)
      obtain ⟨s, hs⟩ : ∃ s, (allR ro j).length = s := ⟨_, rfl⟩
      obtain ⟨s2, hs2⟩ : ∃ s, (allR ro (j + 1)).length = s := ⟨_, rfl⟩
      obtain ⟨ln, hln⟩ : ∃ s, (ro j).length = s := ⟨_, rfl⟩
      rw [hs] at hsum ⊢
      rw [hs2] at hsum hb
      rw [hln] at hsum e0
      have hw1 : IntKind.i64.wrap ((s : Int) + (ln : Int)) = (s2 : Int) := by rw [IntWalk.i64_in _ (by omega)]; omega
      have hj1 : IntKind.i64.wrap ((j : Int) + 1) = ((j + 1 : Nat) : Int) := by rw [IntWalk.i64_in _ (by omega)]; omega
      have z1 : decide ((s2 : Int) < 0) = false := by simp
      have HS2 := Lib.hid hs2
      clear hr hsum hs hs2 hln
      go_wp2_with fail
      go_roundw
      case rel => exact ⟨j + 1, by omega, by rw [HS2.out], by go_num, by first | rfl | trivial⟩
      case measure => simp [intOf]; omega
    · obtain rfl : j = n := by omega
      have z0 : decide ((j : Int) < (j : Int)) = false := by simp
      have hb := HLE.out j (Nat.le_refl _)
      rw [HALL.out] at hb ⊢
      obtain ⟨s, hs⟩ : ∃ s, L.length = s := ⟨_, rfl⟩
      rw [hs] at hb ⊢
      have HS := Lib.hid hs
      clear hs
      go_wp2_with fail
      refine (nt_grow w s (by omega)).mono ?_
      rintro e w1 ⟨a1, c1, rfl, ho1, hm1⟩
      have HO1 := Lib.hid ho1
      have HM1 := Lib.hid hm1
      clear ho1 hm1
      go_wp2_with fail
      go_loopw [6, 27] (fun gv jv wr => ∃ (k ln : Nat) (ag : Option Addr) (cg : Nat), gv = .slice ag ln cg ∧ jv = .int .i64 (k : Int) ∧ k ≤ j ∧ (allR ro k).length = ln ∧ wr.ownsRow w.heap.size 32 4 (.slice ag ln cg) ln ((allR ro k).flatMap c4) ∧ Mod (fun _ => False) w wr) (fun _ jv _ => j - (intOf jv).toNat)
      case atStart => exact ⟨0, 0, _, _, rfl, rfl, Nat.zero_le _, rfl, by simpa [allR] using HO1.out, HM1.out⟩
      case round =>
        obtain ⟨k, ln, ag, cg, rfl, rfl, hk, hln, hown, hmo⟩ := hrel
        obtain ⟨wo, hwo⟩ : ∃ x : World, x = wr := ⟨_, rfl⟩
        subst hwo
        have HOW := Lib.hid hown
        have HMO := Lib.hid hmo
        clear hown hmo
        by_cases hkl : k < j
        · have z1 : decide ((k : Int) < (j : Int)) = true := by simp; omega
          obtain ⟨a, c, e0, hr⟩ := HROW.out wo HMO.out k hkl
          have hix := fun wx => run_indexS (P := Try.prog) wx 69 22 iS 1 Try.underlying69 hiS hsS (some ⟨ob, 0, none⟩) j j k hkl (by simp)
          rw [elemA_lit] at hix
          have hsum : (allR ro k).length + (ro k).length = (allR ro (k + 1)).length := by rw [allR_succ, List.length_append]
          have hb2 := HLE.out (k + 1) (by omega)
          have hone := c4_one (ro k)
          have hx : (allR ro k).flatMap c4 ++ (ro k).flatMap c4 = (allR ro (k + 1)).flatMap c4 := by rw [allR_succ, List.flatMap_append]
          obtain ⟨m, hm⟩ : ∃ s, (ro k).length = s := ⟨_, rfl⟩
          rw [hln] at hsum
          rw [hm] at hsum e0 hr
          have hmx1 : ln + m ≤ maxLen := by unfold maxLen; omega
          have hmx2 : (ln + m) * 32 ≤ 140737488355328 := by omega
          have hk1 : IntKind.i64.wrap ((k : Int) + 1) = ((k + 1 : Nat) : Int) := by rw [IntWalk.i64_in _ (by omega)]; omega
          have HR := Lib.hid hr
          have HX := Lib.hid hx
          have HSUM := Lib.hid hsum
          have hobz := Own.base HOW.out (Nat.zero_le _)
          clear hr hx hsum hm hln
          go_wp2_with (at_builtin; refine wpList_append_any rfl (.tmp 31) (.tmp 32) 22 rfl 32 iA (.agg #[.int .i64 0, .int .i64 0, .int .i64 0, .int .i64 0]) 4 32 Try.underlying22 hiA hzA hsA hbA rfl (by decide) _ ln ((allR ro k).flatMap c4) rfl hobz _ m ((ro k).flatMap c4) rfl HR.out hone hmx1 hmx2 ?_; intro v7 w7 hap; obtain ⟨a7, c7, rfl⟩ := hap.form; have HAP := Lib.hid hap; clear hap)
          have hlow : ∀ k, (Value.slice ag ln cg).ownBlock = some k → w.heap.size ≤ k := fun k hk => (HOW.out.lt k hk).1
          have ho7 := HAP.out.own
          have lo7 := HAP.out.low (B := w.heap.size) HMO.out.size hlow
          have hm7 := HAP.out.modOld (W0 := w) HMO.out hlow
          rw [HX.out] at ho7
          have HO7 := Lib.hid (Own.rebase ho7 lo7)
          have HM7 := Lib.hid hm7
          clear ho7 lo7 hm7 hlow
          (try go_wp2_with fail)
          go_roundw
          case rel => exact ⟨k + 1, ln + m, a7, c7, rfl, by go_num, by omega, HSUM.out.symm, HO7.out, HM7.out⟩
          case measure => simp [intOf]; omega
        · obtain rfl : k = j := by omega
          have z1 : decide ((k : Int) < (k : Int)) = false := by simp
          go_wp2_with fail
          go_ret
          have h9 := HOW.out
          rw [HALL.out] at hln h9
          obtain rfl : s = ln := by rw [← hln]; exact HS.out.symm
          have hls := HS.out
          unfold NewR
          rw [hls]
          exact ⟨ag, cg, rfl, h9, HMO.out⟩
theorem nt_all (h : NT w p n L F) : Calls Try.prog 20 #[.pointer (some ⟨p, 0, none⟩)] w fun e w' => NewR 32 4 L.length (L.flatMap c4) w e w' := by
  obtain ⟨ob, ib, q0, q1⟩ := h.cells
  have HC := Lib.hid (nt_concat h ob ib q0)
  obtain ⟨ln, hln⟩ : ∃ x, L.length = x := ⟨_, rfl⟩
  rw [hln] at HC ⊢
  clear h hln q1
  go_enter Try.func20, Try.ntmps20
  go_wp2_with fail
  refine HC.out.mono ?_
  rintro e w2 ⟨a2, c2, rfl, ho2, hm2⟩
  have HO2 := Lib.hid ho2
  have HM2 := Lib.hid hm2
  clear ho2 hm2 q0 HC
  go_wp2_with fail
  go_ret
  exact ⟨a2, c2, rfl, HO2.out, HM2.out⟩
end
end Go.Proofs.Ytnklgeekjkchbaa
