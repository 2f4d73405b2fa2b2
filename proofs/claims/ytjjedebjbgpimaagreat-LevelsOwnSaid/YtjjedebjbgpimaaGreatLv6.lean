/- levels: Cuts, what is promoted, nil forms, by contract. -/
import Derived.Test.YtjjedebjbgpimaaGreatLv5
namespace Go.Proofs.YtjjedebjbgpimaaGreat
open Go.RowKit Mile
set_option maxRecDepth 100000
attribute [local go_sem] Oper.semAt_some
/-- How many arcs have a Mid. -/
def cutsL (T : List Ar) : Nat := (T.filter fun a => decide (0 ≤ a.m)).length
theorem cutsL_step (T : List Ar) (k : Nat) (h : k < T.length) : cutsL (T.take (k + 1)) = cutsL (T.take k) + if 0 ≤ (T[k]).m then 1 else 0 := by
  unfold cutsL
  rw [List.take_succ_eq_append_getElem h, List.filter_append, List.length_append]
  congr 1
  by_cases c : 0 ≤ (T[k]).m
  · rw [if_pos c, List.filter_cons_of_pos (by simpa using c)]; rfl
  · rw [if_neg c, List.filter_cons_of_neg (by simpa using c)]; rfl
theorem cutsL_le (T : List Ar) : cutsL T ≤ T.length := List.length_filter_le _ _
set_option maxHeartbeats 4000000 in
theorem lv_cuts {w : World} {p n : Nat} {T : List Ar} {V : List Nat} {F : Nat → Prop} (h : LO w p n T V F) : Calls Tryz.prog 25 #[.pointer (some ⟨p, 0, none⟩)] w fun e w' => e = .returned (.int .i64 ((cutsL T : Nat) : Int)) ∧ Mod (fun _ => False) w w' := by
  obtain ⟨iA, hiA, hzA, hsA, hbA⟩ := info_parts Nt.infoA
  obtain ⟨tl, rd, mb, FT, hl, _⟩ := h
  have b0 := hl.blk.cell 0 rfl
  have HA := Lib.hid (nt_all hl.net)
  have hln : T.length ≤ 1000000 := by
    have h1 := net_len hl.net.ok
    have h3 := hl.net.n512
    have h2 : n * n ≤ 512 * 512 := Nat.mul_le_mul h3 h3
    omega
  obtain ⟨m, hm⟩ : ∃ y, T.length = y := ⟨_, rfl⟩
  have HM := Lib.hid hm
  unfold NewR at HA
  rw [hm] at HA hln
  clear hm hl
  go_enter Tryz.func25, Tryz.ntmps25
  go_wp2_with fail
  refine HA.out.mono ?_
  rintro e w1 ⟨a, c, rfl, ho, hm1⟩
  have HO := Lib.hid (And.intro ho hm1)
  clear ho hm1 HA b0
  go_wp2_with fail
  go_loopw [3, 14] (fun s i wr => ∃ k : Nat, k ≤ m ∧ i = .int .i64 k ∧ s = .int .i64 ((cutsL (T.take k) : Nat) : Int) ∧ Mod (fun _ => False) w1 wr) (fun _ i _ => m - (intOf i).toNat)
  case atStart => exact ⟨0, by omega, rfl, rfl, Mod.refl _ _⟩
  case round =>
    obtain ⟨k, hk, rfl, rfl, hm⟩ := hrel
    obtain ⟨wo, hwo⟩ : ∃ x : World, x = wr := ⟨_, rfl⟩
    subst hwo
    have hle := cutsL_le (T.take k)
    rw [List.length_take] at hle
    by_cases hlt : k < m
    · have z0 : decide ((k : Int) < (m : Int)) = true := by simp; omega
      have hkl : k < T.length := by rw [HM.out]; exact hlt
      have hrd := (Rd.ofOwn HO.out.1).keep hm (fun _ _ e => e)
      obtain ⟨eb, eo, hpl, e0, e1, e2, e3⟩ := rd4 hrd k hkl
      have hix := fun wx => run_indexS (P := Tryz.prog) wx 34 50 iA 4 Tryz.underlying34 hiA hsA a m c k hlt (hrd.some_ (by omega))
      rw [hpl] at hix
      have hst := cutsL_step T k hkl
      obtain ⟨x, hx⟩ : ∃ x, T[k] = x := ⟨_, rfl⟩
      rw [hx] at e0 e1 e2 e3 hst
      obtain ⟨x1, x2, x3, x4⟩ := x
      simp only at e0 e1 e2 e3 hst
      have hma : Mod (fun _ => False) wo (wo.alloc (.cells #[.int .i64 x1, .int .i64 x2, .int .i64 x3, .int .i64 x4] 50)) := Mod.alloc _ _ _
      have HS := Lib.hid (And.intro (hm.of2 hma) hst)
      obtain ⟨cc, hcc⟩ : ∃ y, cutsL (T.take k) = y := ⟨_, rfl⟩
      rw [hcc] at hle ⊢
      have HCC := Lib.hid hcc
      clear hx hpl hm hma hrd hst hcc
      by_cases h4 : 0 ≤ x4
      · have z1 : decide (0 ≤ x4) = true := decide_eq_true h4
        go_wp2_with fail
        go_roundw
        case rel =>
          refine ⟨k + 1, hlt, by go_num, ?_, HS.out.1⟩
          rw [HS.out.2, if_pos h4, HCC.out]
          go_num
        case measure => simp [intOf]; omega
      · have z1 : decide (0 ≤ x4) = false := decide_eq_false h4
        go_wp2_with fail
        go_roundw
        case rel =>
          refine ⟨k + 1, hlt, by go_num, ?_, HS.out.1⟩
          rw [HS.out.2, if_neg h4, HCC.out]; rfl
        case measure => simp [intOf]; omega
    · have z0 : decide ((k : Int) < (m : Int)) = false := by simp; omega
      have HE := Lib.hid hm
      have ht : T.take k = T := List.take_of_length_le (by have := HM.out; omega)
      rw [ht]
      clear hm ht
      go_wp2_with fail
      go_ret
      exact ⟨rfl, HO.out.2.of2 HE.out⟩
set_option maxHeartbeats 1000000 in
theorem lv_rank_nil (w : World) (v : Int) : Calls Tryz.prog 19 #[.pointer none, .int .i64 v] w fun e w' => e = .returned (.int .i64 (-1)) ∧ w = w' := by
  go_enter Tryz.func19, Tryz.ntmps19
  go_wp2_with fail
  go_ret
  exact ⟨rfl, rfl⟩
set_option maxHeartbeats 1000000 in
theorem lv_up_nil (w : World) (v : Int) : Calls Tryz.prog 21 #[.pointer none, .int .i64 v] w fun e w' => e = .returned (.slice none 0 0) ∧ Mod (fun _ => False) w w' := by
  have hm : Mod (fun _ => False) w ((w.alloc (.cells #[.pointer none] 24)).alloc (.cells #[.int .i64 v] 3)) := (Mod.alloc (fun _ => False) _ _).of2 (Mod.alloc _ _ _)
  have HM := Lib.hid hm
  clear hm
  go_enter Tryz.func21, Tryz.ntmps21
  go_wp2_with fail
  go_ret
  exact ⟨rfl, HM.out⟩
set_option maxHeartbeats 1000000 in
theorem lv_cuts_nil (w : World) : Calls Tryz.prog 25 #[.pointer none] w fun e w' => e = .returned (.int .i64 0) ∧ w = w' := by
  go_enter Tryz.func25, Tryz.ntmps25
  go_wp2_with fail
  go_ret
  exact ⟨rfl, rfl⟩
set_option maxHeartbeats 1000000 in
theorem build_nil (w : World) : Calls Tryz.prog 16 #[.pointer none] w fun e w' => e = .returned (.pointer none) ∧ w = w' := by
  go_enter Tryz.func16, Tryz.ntmps16
  go_wp2_with fail
  go_ret
  exact ⟨rfl, rfl⟩
end Go.Proofs.YtjjedebjbgpimaaGreat
