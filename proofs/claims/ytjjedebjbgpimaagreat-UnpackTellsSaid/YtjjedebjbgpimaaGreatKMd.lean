/- Law 13's awake. -/
import Derived.Test.YtjjedebjbgpimaaGreatRN4
import Derived.Test.YtjjedebjbgpimaaGreatRows
import Derived.Test.YtjjedebjbgpimaaGreatKBase
namespace Go.Proofs.YtjjedebjbgpimaaGreat
open Go.RowKit Mile
set_option maxRecDepth 100000
end Go.Proofs.YtjjedebjbgpimaaGreat
namespace Go.Proofs.YtjjedebjbgpimaaGreat
open Go.RowKit Mile
set_option maxRecDepth 100000

theorem round_any (k n : Int) (w : World) (h1 : 0 < n) (h2 : n ≤ 4611686018427387904) : Calls Tryz.prog 38 #[.int .i64 k, .int .i64 n] w fun e w' => e = .returned (.int .i64 (k % n)) ∧ w = w' := by
  have t1 : -n < k.tmod n := by have := Int.tmod_lt_of_pos (-k) h1; rw [Int.neg_tmod] at this; omega
  have t2 : k.tmod n < n := Int.tmod_lt_of_pos k h1
  have t3 : k % n = if k.tmod n < 0 then k.tmod n + n else k.tmod n := by
    rw [Int.tmod_eq_emod]
    have e1 := Int.emod_nonneg k (show n ≠ 0 by omega)
    have e2 := Int.emod_lt_of_pos k h1
    split <;> split <;> first | omega | (rw [Int.natAbs_of_nonneg (by omega)] at *; omega)
  have hn0 : (n == 0) = false := by simp; omega
  by_cases hz : k.tmod n < 0
  · rw [if_pos hz] at t3
    have T3 := Lib.hid t3
    clear t3
    go_enter Tryz.func38, Tryz.ntmps38
    go_wp2
    go_ret
    exact ⟨by rw [T3.out]; rfl, rfl⟩
  · rw [if_neg hz] at t3
    have T3 := Lib.hid t3
    clear t3
    go_enter Tryz.func38, Tryz.ntmps38
    go_wp2
    go_ret
    exact ⟨by rw [T3.out]; rfl, rfl⟩

end Go.Proofs.YtjjedebjbgpimaaGreat
namespace Mile
open Go Go.RowKit
abbrev T3 := Int × Int × Int
def c3T (x : T3) : List Value := [.int .i64 x.1, .int .i64 x.2.1, .int .i64 x.2.2]
theorem c3T_at : ∀ (R : List T3) (i : Nat) (hi : i < R.length), (R.flatMap c3T)[i * 3 + 0]? = some (.int .i64 R[i].1) ∧ (R.flatMap c3T)[i * 3 + 1]? = some (.int .i64 R[i].2.1) ∧ (R.flatMap c3T)[i * 3 + 2]? = some (.int .i64 R[i].2.2)
  | b :: R, 0, _ => by simp [c3T]
  | b :: R, i + 1, hi => by
    have h := c3T_at R i (by simpa using hi)
    have e : ∀ j, ((b :: R).flatMap c3T)[(i + 1) * 3 + j]? = (R.flatMap c3T)[i * 3 + j]? := fun j => by
      rw [List.flatMap_cons, List.getElem?_append_right (by simp [c3T]; omega), show (i + 1) * 3 + j - (c3T b).length = i * 3 + j by simp [c3T]; omega]
    rw [e, e, e]
    simpa using h
def arcT (n : Int) (x : T3) : List Ar := if x.1 % n = x.2.1 % n then [] else [⟨x.1 % n, x.2.1 % n, 1 + x.2.2 % 20, -1⟩]
def arcsL (n : Int) (T : List T3) : List Ar := T.flatMap (arcT n)
def arcsR (n : Int) (T : List T3) : List Ar := if 1 < n then arcsL n T else []
theorem arcsL_step (n : Int) (T : List T3) (k : Nat) (h : k < T.length) : arcsL n (T.take (k + 1)) = arcsL n (T.take k) ++ arcT n T[k] := by
  unfold arcsL
  rw [List.take_succ_eq_append_getElem h, List.flatMap_append, List.flatMap_cons, List.flatMap_nil, List.append_nil]
theorem arcsL_len (n : Int) (T : List T3) : (arcsL n T).length ≤ T.length := by
  unfold arcsL
  induction T with
  | nil => exact Nat.le_refl _
  | cons x T ih =>
    rw [List.flatMap_cons, List.length_append, List.length_cons]
    have : (arcT n x).length ≤ 1 := by unfold arcT; split <;> simp
    omega
end Mile
namespace Go.Proofs.YtjjedebjbgpimaaGreat
open Go.RowKit Mile
set_option maxRecDepth 100000
theorem rd3T {w : World} {n c : Nat} {a : Option Addr} {R : List T3} (h : Rd w 3 (.slice a n c) n (R.flatMap c3T)) (i : Nat) (hi : i < R.length) :
    ∃ b o, elemA a i 3 = ⟨b, o, none⟩ ∧ w.cell? ⟨b, o, none⟩ = some (.int .i64 R[i].1) ∧ w.cell? ⟨b, o + 1, none⟩ = some (.int .i64 R[i].2.1) ∧ w.cell? ⟨b, o + 2, none⟩ = some (.int .i64 R[i].2.2) := by
  obtain ⟨k1, k2, k3⟩ := c3T_at R i hi
  have hl : (R.flatMap c3T).length = R.length * 3 := by
    clear h hi k1 k2 k3
    induction R with
    | nil => rfl
    | cons x R ih => rw [List.flatMap_cons, List.length_append, ih]; simp [c3T]; omega
  have hn : n = R.length := by have := h.1; rw [hl] at this; omega
  obtain ⟨b, o, hp, _⟩ := h.place (j := i) (by omega)
  exact ⟨b, o, hp, by have := h.elemN hp 0 k1; simpa using this, h.elemN hp 1 k2, h.elemN hp 2 k3⟩
theorem run_indexA3 {P : Program} (wx : World) (t e : TypeId) (i : TypeInfo) (ht : P.underlying t = some (.array 3 e)) (hi : P.info? e = some i) (hs : i.size = 1) (nb o : Nat) :
    (Instr.indexAt t (.pointer (some ⟨nb, o, none⟩)) (.int .i64 0)).run P wx = .ok (.pointer (some ⟨nb, o, none⟩)) wx ∧ (Instr.indexAt t (.pointer (some ⟨nb, o, none⟩)) (.int .i64 1)).run P wx = .ok (.pointer (some ⟨nb, o + 1, none⟩)) wx ∧ (Instr.indexAt t (.pointer (some ⟨nb, o, none⟩)) (.int .i64 2)).run P wx = .ok (.pointer (some ⟨nb, o + 2, none⟩)) wx := by
  refine ⟨?_, ?_, ?_⟩ <;> simp [Instr.indexAt, run_underlying ht, asIntOf, Go.sizeOf, typeInfo, hi, hs, Instr.sureAddr, Addr.add]
theorem Nt.infoT : (Tryz.prog.info? 75).map (fun i => (i.zero, i.size, i.bytes)) = some (some (.agg #[.int .i64 0, .int .i64 0, .int .i64 0]), 3, 24) := by kernel_rfl
theorem round_q {k n r : Int} (h : k % n = r) (h1 : 0 < n) (h2 : n ≤ 4611686018427387904) (w : World) (j : Nat) : Calls Tryz.prog 38 #[.int .i64 k, .int .i64 n] (w.drewN j) fun e w' => e = .returned (.int .i64 r) ∧ w' = w.drewN j :=
  (round_any k n _ h1 h2).mono fun _ _ hh => ⟨by rw [hh.1, h], hh.2.symm⟩
end Go.Proofs.YtjjedebjbgpimaaGreat
namespace Mile
open Go Go.RowKit
theorem arcsR_may {n : Nat} (T : List T3) : ∀ b ∈ arcsR (n : Int) T, mayA n b := by
  intro b hb
  unfold arcsR at hb
  split at hb
  · rename_i h1
    obtain ⟨x, _, hx⟩ := List.mem_flatMap.1 hb
    unfold arcT at hx
    split at hx
    · cases hx
    · rename_i h2
      rw [List.mem_singleton] at hx
      subst hx
      unfold mayA
      simp only
      have g1 := Int.emod_nonneg x.1 (b := (n : Int)) (by omega)
      have g2 := Int.emod_lt_of_pos x.1 (b := (n : Int)) (by omega)
      have g3 := Int.emod_nonneg x.2.1 (b := (n : Int)) (by omega)
      have g4 := Int.emod_lt_of_pos x.2.1 (b := (n : Int)) (by omega)
      have g5 := Int.emod_nonneg x.2.2 (b := 20) (by omega)
      have g6 := Int.emod_lt_of_pos x.2.2 (b := 20) (by omega)
      refine ⟨g1, g2, g3, g4, h2, by omega, by omega, .inl ?_⟩; trivial
  · cases hb
theorem arcsR_ok {n : Nat} (hn : n ≤ 512) (T : List T3) : newB (n : Int) (arcsR (n : Int) T) = true := by
  unfold newB
  rw [decide_eq_true ⟨by omega, by omega⟩, Bool.true_and]
  exact List.all_eq_true.2 fun b hb => decide_eq_true (arcsR_may T b hb)
theorem arcsR_len (n : Int) (T : List T3) : (arcsR n T).length ≤ T.length := by
  unfold arcsR; split
  · exact arcsL_len n T
  · exact Nat.zero_le _
end Mile
namespace Go.Proofs.YtjjedebjbgpimaaGreat
open Go.RowKit Mile
set_option maxRecDepth 100000
end Go.Proofs.YtjjedebjbgpimaaGreat
namespace Go.Proofs.YtjjedebjbgpimaaGreat
open Go.RowKit Mile
set_option maxRecDepth 100000
set_option maxHeartbeats 8000000 in
theorem arcs17_any (w : World) (n : Nat) (hn : n ≤ 512) (a : Option Addr) (ln c : Nat) (T : List T3) (hT : T.length = ln) (hr : Rd w 3 (.slice a ln c) ln (T.flatMap c3T)) (hb : ln ≤ 1000) :
    Calls Tryz.prog 101 #[.int .i64 (n : Int), .slice a ln c] w fun e w' => NewR 50 4 (arcsR (n : Int) T).length ((arcsR (n : Int) T).flatMap c4) w e w' := by
  obtain ⟨iA, hiA, hzA, hsA, hbA⟩ := info_parts Nt.infoA
  obtain ⟨iI, hiI, hzI, hsI, hbI⟩ := info_parts Nt.infoI
  obtain ⟨iT, hiT, hzT, hsT, hbT⟩ := info_parts Nt.infoT
  by_cases h1 : 1 < n
  case neg =>
    have hres : arcsR (n : Int) T = [] := if_neg (by omega)
    rw [hres]
    have z1 : decide ((1 : Int) < (n : Int)) = false := by simp; omega
    have h0 : ln = 0 ∨ 0 < ln := by omega
    clear hr hT hres h1
    rcases h0 with rfl | h0
    · go_enter Tryz.func101, Tryz.ntmps101
      go_wp2_with fail
      go_loopw [5, 6] (fun gv jv wr => gv = .slice none 0 0 ∧ jv = .int .i64 0 ∧ w = wr) (fun _ _ _ => 0)
      case atStart => exact ⟨rfl, rfl, rfl⟩
      case round =>
        obtain ⟨rfl, rfl, rfl⟩ := hrel
        go_wp2_with fail
        go_ret
        exact ⟨none, 0, rfl, World.ownsRow_nil _ _ _ _, Mod.refl _ _⟩
    · have z0 : decide ((0 : Int) < (ln : Int)) = true := by simp; omega
      have z3 : decide (0 < ln) = true := by simp; omega
      clear h0
      go_enter Tryz.func101, Tryz.ntmps101
      go_wp2_with fail
      go_loopw [5, 6] (fun gv jv wr => gv = .slice none 0 0 ∧ jv = .int .i64 0 ∧ w = wr) (fun _ _ _ => 0)
      case atStart => exact ⟨rfl, rfl, rfl⟩
      case round =>
        obtain ⟨rfl, rfl, rfl⟩ := hrel
        go_wp2_with fail
        go_ret
        exact ⟨none, 0, rfl, World.ownsRow_nil _ _ _ _, Mod.refl _ _⟩
  have hres : arcsR (n : Int) T = arcsL (n : Int) T := if_pos (by omega)
  rw [hres]
  have z1 : decide ((1 : Int) < (n : Int)) = true := by simp; omega
  have HR := Lib.hid hr
  have HT := Lib.hid hT
  clear hr hT hres
  go_enter Tryz.func101, Tryz.ntmps101
  go_wp2_with fail
  go_loopw [5, 6] (fun gv jv wr => ∃ (j m : Nat) (ag : Option Addr) (cg : Nat), gv = .slice ag m cg ∧ jv = .int .i64 (j : Int) ∧ j ≤ ln ∧ (arcsL (n : Int) (T.take j)).length = m ∧ wr.ownsRow w.heap.size 50 4 (.slice ag m cg) m ((arcsL (n : Int) (T.take j)).flatMap c4) ∧ Mod (fun _ => False) w wr) (fun _ jv _ => ln - (intOf jv).toNat)
  case atStart => exact ⟨0, 0, none, 0, rfl, rfl, Nat.zero_le _, by rw [List.take_zero]; rfl, World.ownsRow_nil _ _ _ _, Mod.refl _ _⟩
  case round =>
    obtain ⟨j, m, ag, cg, rfl, rfl, hj, hml, hown, hmo⟩ := hrel
    obtain ⟨wo, hwo⟩ : ∃ x : World, x = wr := ⟨_, rfl⟩
    subst hwo
    have hm5 : m ≤ 1000 := by
      have h5 := arcsL_len (n : Int) (T.take j)
      rw [List.length_take] at h5; omega
    have HOW := Lib.hid hown
    have HMO := Lib.hid hmo
    have HML := Lib.hid hml
    clear hown hmo hml
    by_cases hjl : j < ln
    case neg =>
      obtain rfl : j = ln := by omega
      have z0 : decide ((j : Int) < (j : Int)) = false := by simp
      have z3 : decide (j < j) = false := by simp
      go_wp2_with fail
      go_ret
      have ht : T.take j = T := List.take_of_length_le (Nat.le_of_eq HT.out)
      have h8 := HML.out
      have h9 := HOW.out
      rw [ht] at h8 h9
      exact ⟨ag, cg, by rw [h8]; rfl, by rw [h8]; exact h9, HMO.out⟩
    case pos =>
      have z0 : decide ((j : Int) < (ln : Int)) = true := by simp; omega
      have z3 : decide (j < ln) = true := by simp; omega
      have hjR : j < T.length := by rw [HT.out]; exact hjl
      have hrd := HR.out.keep HMO.out (fun _ _ e => e)
      obtain ⟨eb, eo, hpe, e0, e1, e2⟩ := rd3T hrd j hjR
      have hstep := arcsL_step (n : Int) T j hjR
      obtain ⟨x, hx⟩ : ∃ x, T[j] = x := ⟨_, rfl⟩
      rw [hx] at e0 e1 e2 hstep
      obtain ⟨xa, xb, xc⟩ := x
      simp only at e0 e1 e2
      have hiy := fun wx => run_indexS (P := Tryz.prog) wx 22 75 iT 3 Tryz.underlying22 hiT hsT a ln c j hjl (hrd.some_ (by omega))
      rw [hpe] at hiy
      have hi3 := fun wx => run_indexA3 (P := Tryz.prog) wx 75 3 iI Tryz.underlying75 hiI hsI eb eo
      have i0 := fun wx => (hi3 wx).1
      have i1 := fun wx => (hi3 wx).2.1
      have i2 := fun wx => (hi3 wx).2.2
      obtain ⟨ra, hra⟩ : ∃ r, xa % (n : Int) = r := ⟨_, rfl⟩
      obtain ⟨rb, hrb⟩ : ∃ r, xb % (n : Int) = r := ⟨_, rfl⟩
      obtain ⟨rc, hrc⟩ : ∃ r, xc % 20 = r := ⟨_, rfl⟩
      have hrc1 : 0 ≤ rc ∧ rc < 20 := by rw [← hrc]; exact ⟨Int.emod_nonneg _ (by decide), Int.emod_lt_of_pos _ (by decide)⟩
      have hj1 : IntKind.i64.wrap ((j : Int) + 1) = ((j + 1 : Nat) : Int) := by rw [IntWalk.i64_in _ (by omega)]; omega
      have hw1 : IntKind.i64.wrap (1 + rc) = 1 + rc := IntWalk.i64_in _ (by omega)
      have harc : arcT (n : Int) (xa, xb, xc) = if ra = rb then [] else [⟨ra, rb, 1 + rc, -1⟩] := by unfold arcT; rw [hra, hrb, hrc]
      rw [harc] at hstep
      have HST := Lib.hid hstep
      have HRD := Lib.hid hrd
      have HRC := Lib.hid hrc
      have HI2 := Lib.hid i2
      have HE2 := Lib.hid e2
      have hn0 : (0 : Int) < (n : Int) := by omega
      have hn1 : (n : Int) ≤ 4611686018427387904 := by omega
      have HW1 := Lib.hid hw1
      have HJ1 := Lib.hid hj1
      have HRC1 := Lib.hid hrc1
      clear hstep hi3 hx harc hpe hrd hrc i2 e2 hw1 hj1 hrc1
      go_wp2_with fail
      go_upto_region 5 with fail
      go_quiet ((go_at_call 38; exact Calls.quiet_of_same (round_q (by assumption) (by assumption) (by assumption) _ _)))
      obtain ⟨w2, hw2⟩ : ∃ y, World.drewN wo nq = y := ⟨_, rfl⟩
      have hm2 : Mod (fun _ => False) wo w2 := by rw [← hw2]; exact Mod.drewN _ _ _
      (try rw [hw2])
      have HM2 := Lib.hid (HMO.out.of2 hm2)
      have e2 := hm2.cell HE2.out (fun e => e)
      have i2 := HI2.out
      have hw1 := HW1.out
      have hj1 := HJ1.out
      have HO2 := Lib.hid (Own.keep HOW.out hm2 (fun _ _ e => e))
      clear hw2 hm2 e0 e1 i0 i1 hra hrb
      by_cases hab : ra = rb
      · have z2 : (ra != rb) = false := by simpa using hab
        have HAB := Lib.hid hab
        clear hab e2 i2
        go_wp2_with fail
        go_roundw
        case rel => exact ⟨j + 1, m, ag, cg, rfl, by go_num, by omega, by rw [HST.out, if_pos HAB.out, List.append_nil]; exact HML.out, by rw [HST.out, if_pos HAB.out, List.append_nil]; exact HO2.out, HM2.out⟩
        case measure => simp [intOf]; omega
      · have z2 : (ra != rb) = true := by simpa using hab
        have HAB := Lib.hid hab
        clear hab
        go_wp2_with fail
        refine (round_any xc 20 _ (by decide) (by decide)).mono ?_
        rintro e w3 ⟨rfl, rfl⟩
        rw [HRC.out]
        have hmx1 : m + 1 ≤ maxLen := by unfold maxLen; omega
        have hob := fun o1 => Own.base (Own.keep HO2.out (Mod.alloc (fun _ => False) w2 o1) (fun _ _ e => e)) (Nat.zero_le _)
        clear e2 i2
        go_wp2_with (at_builtin; refine wpList_append_any rfl (.tmp 36) (.tmp 47) 34 rfl 50 iA (.agg #[.int .i64 0, .int .i64 0, .int .i64 0, .int .i64 0]) 4 32 Tryz.underlying34 hiA hzA hsA hbA rfl (by decide) _ m ((arcsL (n : Int) (T.take j)).flatMap c4) rfl (hob _) _ 1 [.int .i64 ra, .int .i64 rb, .int .i64 (1 + rc), .int .i64 (-1)] rfl (by exact Rd.litN 50 4 [.int .i64 ra, .int .i64 rb, .int .i64 (1 + rc), .int .i64 (-1)] (0, 0) _ 1 (by first | rfl | simp) rfl (by decide)) (by intro u hu; simp at hu; rcases hu with rfl | rfl | rfl | rfl <;> rfl) hmx1 (by omega) ?_; intro v7 w7 hap; obtain ⟨a7, c7, rfl⟩ := hap.form; have HAP := Lib.hid hap; clear hap hob)
        have hlow : ∀ k, (Value.slice ag m cg).ownBlock = some k → w.heap.size ≤ k := fun k hk => (HO2.out.lt k hk).1
        have hs2 : w.heap.size ≤ w2.heap.size := HM2.out.size
        have ho7 := HAP.out.own
        have lo7 := HAP.out.low (B := w.heap.size) (by simp; omega) hlow
        have hm7 := HAP.out.modOld (W0 := w) (HM2.out.of2 (Mod.alloc (fun _ => False) w2 _)) hlow
        have hst := HST.out
        rw [if_neg HAB.out] at hst
        have hx7 : (arcsL (n : Int) (T.take j)).flatMap c4 ++ [.int .i64 ra, .int .i64 rb, .int .i64 (1 + rc), .int .i64 (-1)] = (arcsL (n : Int) (T.take (j + 1))).flatMap c4 := by rw [hst, List.flatMap_append]; rfl
        have hl7 : (arcsL (n : Int) (T.take (j + 1))).length = m + 1 := by rw [hst, List.length_append, HML.out]; rfl
        rw [hx7] at ho7
        have HO7 := Lib.hid (Own.rebase ho7 lo7)
        have HM7 := Lib.hid hm7
        have HL7 := Lib.hid hl7
        clear ho7 lo7 hm7 hx7 hlow hs2 hst hl7
        go_wp2_with fail
        go_roundw
        case rel => exact ⟨j + 1, m + 1, a7, c7, rfl, by go_num, by omega, HL7.out, HO7.out, HM7.out⟩
        case measure => simp [intOf]; omega
set_option maxHeartbeats 8000000 in
theorem made17_any (w : World) (n : Nat) (hn : n ≤ 512) (a : Option Addr) (ln c : Nat) (T : List T3) (hT : T.length = ln) (hr : Rd w 3 (.slice a ln c) ln (T.flatMap c3T)) (hb : ln ≤ 1000) :
    Calls Tryz.prog 69 #[.int .i64 (n : Int), .slice a ln c] w fun e w' => ∃ q F m, e = .returned (.tuple #[.pointer (some ⟨q, 0, none⟩), .pointer (some ⟨m, 0, none⟩)]) ∧ NT w' q n (putAllN (arcsR (n : Int) T)) F ∧ RN w' m n (putAllN (arcsR (n : Int) T)) ∧ (∀ k, F k → w.heap.size ≤ k) ∧ w.heap.size ≤ m ∧ Mod (fun _ => False) w w' := by
  have hok := arcsR_ok hn T
  have hlen := arcsR_len (n : Int) T
  have HAR := Lib.hid (fun W (mm : Mod (fun _ => False) w W) => arcs17_any W n hn a ln c T hT (hr.keep mm (fun _ _ e => e)) hb)
  rw [hT] at hlen
  obtain ⟨A, hA⟩ : ∃ A, arcsR (n : Int) T = A := ⟨_, rfl⟩
  rw [hA] at hok hlen HAR ⊢
  obtain ⟨m, hm⟩ : ∃ m, A.length = m := ⟨_, rfl⟩
  rw [hm] at hlen HAR
  have HOK := Lib.hid hok
  have HLM := Lib.hid hm
  clear hok hT hr hA hm
  go_enter Tryz.func69, Tryz.ntmps69
  go_wp2_with fail
  refine (HAR.out w (Mod.refl _ _)).mono ?_
  rintro e w1 ⟨a1, c1, rfl, ho1, hm1⟩
  have HO1 := Lib.hid ho1
  have HM1 := Lib.hid hm1
  clear ho1 hm1
  go_wp2_with fail
  refine (nt_new w1 (n : Int) a1 m c1 A HLM.out (Rd.ofOwn HO1.out) (by omega)).mono ?_
  rintro e w2 ⟨h1, _⟩
  obtain ⟨q, F, rfl, hnt, hnw, hm2⟩ := h1 HOK.out
  rw [Int.toNat_natCast] at hnt
  have HNT := Lib.hid hnt
  have hs1 := HM1.out.size
  have HNW : Hid (∀ k, F k → w.heap.size ≤ k) := Lib.hid (fun k hk => Nat.le_trans hs1 (hnw k hk))
  have HM2 := Lib.hid (HM1.out.of2 hm2)
  clear h1 hnt hnw hm2 hs1
  go_wp2_with fail
  refine (HAR.out w2 HM2.out).mono ?_
  rintro e w3 ⟨a3, c3, rfl, ho3, hm3⟩
  have HO3 := Lib.hid ho3
  have HM3 := Lib.hid hm3
  clear ho3 hm3
  go_wp2_with fail
  refine (rn_new w3 (n : Int) a3 m c3 A HLM.out (Rd.ofOwn HO3.out) (by omega)).mono ?_
  rintro e w4 ⟨h1, _⟩
  obtain ⟨r, rfl, hrn, hrw, hm4⟩ := h1 HOK.out
  rw [Int.toNat_natCast] at hrn
  have HRN := Lib.hid hrn
  have hs3 := (HM2.out.of2 HM3.out).size
  have HRW : Hid (w.heap.size ≤ r) := Lib.hid (Nat.le_trans hs3 hrw)
  have HM4 := Lib.hid hm4
  clear h1 hrn hrw hm4 hs3
  go_wp2_with fail
  go_ret2
  exact ⟨q, F, r, rfl, HNT.out.later (HM3.out.of2 HM4.out), HRN.out, HNW.out, HRW.out, (HM2.out.of2 HM3.out).of2 HM4.out⟩
end Go.Proofs.YtjjedebjbgpimaaGreat
