/- Nets: the search in a row, by contract. -/
import Derived.Test.YtnklgeekjkchbaaRows
import Derived.Test.YtnklgeekjkchbaaNetP
import Derived.Test.YtnklgeekjkchbaaShp
import Derived.Test.YtnklgeekjkchbaaEvF
import Derived.Test.YtnklgeekjkchbaaRdT
import Derived.Deep.DeepCutAuto
import Derived.Lib.Hide
namespace Mile
open Go Go.RowKit
def c4 (b : Ar) : List Value := [.int .i64 b.f, .int .i64 b.t, .int .i64 b.w, .int .i64 b.m]
theorem c4_len (R : List Ar) : (R.flatMap c4).length = R.length * 4 := by
  induction R with
  | nil => rfl
  | cons b R ih => rw [List.flatMap_cons, List.length_append, ih, List.length_cons]; simp [c4]; omega
theorem c4_at : ∀ (R : List Ar) (i : Nat) (hi : i < R.length), (R.flatMap c4)[i * 4 + 0]? = some (.int .i64 R[i].f) ∧ (R.flatMap c4)[i * 4 + 1]? = some (.int .i64 R[i].t) ∧ (R.flatMap c4)[i * 4 + 2]? = some (.int .i64 R[i].w) ∧ (R.flatMap c4)[i * 4 + 3]? = some (.int .i64 R[i].m)
  | [], i, hi => by simp at hi
  | b :: R, 0, _ => ⟨rfl, rfl, rfl, rfl⟩
  | b :: R, i + 1, hi => by
    have h := c4_at R i (by simpa using hi)
    have e : ∀ k, ((b :: R).flatMap c4)[(i + 1) * 4 + k]? = (R.flatMap c4)[i * 4 + k]? := fun k => by
      rw [List.flatMap_cons, List.getElem?_append_right (by simp [c4]; omega)]
      congr 1
      simp [c4]; omega
    simp only [e]
    exact h
theorem rd4 {w : World} {n c : Nat} {a : Option Addr} {R : List Ar} (h : Rd w 4 (.slice a n c) n (R.flatMap c4)) (i : Nat) (hi : i < R.length) :
    ∃ b o, elemA a i 4 = ⟨b, o, none⟩ ∧ w.cell? ⟨b, o, none⟩ = some (.int .i64 R[i].f) ∧ w.cell? ⟨b, o + 1, none⟩ = some (.int .i64 R[i].t) ∧ w.cell? ⟨b, o + 2, none⟩ = some (.int .i64 R[i].w) ∧ w.cell? ⟨b, o + 3, none⟩ = some (.int .i64 R[i].m) := by
  have hn : n = R.length := by have := h.1; rw [c4_len] at this; omega
  obtain ⟨b, o, hp, _⟩ := h.place (j := i) (by omega)
  obtain ⟨g0, g1, g2, g3⟩ := c4_at R i hi
  exact ⟨b, o, hp, by have := h.elemN hp 0 g0; simpa using this, h.elemN hp 1 g1, h.elemN hp 2 g2, h.elemN hp 3 g3⟩
theorem c4_one (R : List Ar) : ∀ u ∈ R.flatMap c4, u.oneCell' = true := by
  intro u hu
  obtain ⟨b, _, hu⟩ := List.mem_flatMap.1 hu
  simp [c4] at hu
  rcases hu with rfl | rfl | rfl | rfl <;> rfl
theorem c4_take (R : List Ar) (k : Nat) : (R.flatMap c4).take (k * 4) = (R.take k).flatMap c4 := by
  induction R generalizing k with
  | nil => simp
  | cons b R ih =>
    cases k with
    | zero => simp
    | succ k => rw [List.take_succ_cons, List.flatMap_cons, List.flatMap_cons, show (k + 1) * 4 = (c4 b).length + k * 4 by simp [c4]; omega, List.take_length_add_append, ih]
theorem c4_drop (R : List Ar) (k : Nat) : (R.flatMap c4).drop (k * 4) = (R.drop k).flatMap c4 := by
  induction R generalizing k with
  | nil => simp
  | cons b R ih =>
    cases k with
    | zero => simp
    | succ k => rw [List.drop_succ_cons, List.flatMap_cons, show (k + 1) * 4 = (c4 b).length + k * 4 by simp [c4]; omega, List.drop_length_add_append, ih]
theorem rise_at {R : List Ar} (h : RiseR R) {i j : Nat} (hj : j < R.length) (hij : i < j) : (R[i]'(by omega)).t < R[j].t := List.pairwise_iff_getElem.1 h i j (by omega) hj hij
theorem posR_of {R : List Ar} {x : Int} {i : Nat} (hi : i ≤ R.length) (h1 : ∀ t (ht : t < R.length), t < i → R[t].t < x) (h2 : ∀ t (ht : t < R.length), i ≤ t → x ≤ R[t].t) : posR R x = i := by
  unfold posR ltR
  have e : R = R.take i ++ R.drop i := (List.take_append_drop i R).symm
  rw [e, List.filter_append, List.length_append]
  have e1 : (R.take i).filter (fun b => decide (b.t < x)) = R.take i := List.filter_eq_self.2 fun b hb => by
    obtain ⟨t, ht, rfl⟩ := List.getElem_of_mem hb
    rw [List.length_take] at ht
    rw [List.getElem_take]
    simpa using h1 t (by omega) (by omega)
  have e2 : (R.drop i).filter (fun b => decide (b.t < x)) = [] := List.filter_eq_nil_iff.2 fun b hb => by
    obtain ⟨t, ht, rfl⟩ := List.getElem_of_mem hb
    rw [List.length_drop] at ht
    rw [List.getElem_drop]
    have := h2 (i + t) (by omega) (by omega)
    simp; omega
  rw [e1, e2, List.length_take]
  simp; omega
theorem isR_of {R : List Ar} (hr : RiseR R) {x : Int} {i : Nat} (h1 : ∀ t (ht : t < R.length), t < i → R[t].t < x) (h2 : ∀ t (ht : t < R.length), i ≤ t → x ≤ R[t].t) (b : Bool) (hb : ∀ h : i < R.length, b = decide (R[i].t = x)) (hn : ¬ i < R.length → b = false) : isR R x = b := by
  unfold isR
  rw [Bool.eq_iff_iff, List.any_eq_true]
  constructor
  · rintro ⟨y, hy, e⟩
    obtain ⟨t, ht, rfl⟩ := List.getElem_of_mem hy
    have e : R[t].t = x := by simpa using e
    rcases Nat.lt_trichotomy t i with g | g | g
    · have := h1 t ht g; omega
    · subst g; rw [hb ht]; simpa using e
    · have := h2 i (by omega) (Nat.le_refl _)
      have := rise_at hr ht g; omega
  · intro h
    by_cases hi : i < R.length
    · rw [hb hi] at h
      exact ⟨R[i], List.getElem_mem hi, h⟩
    · rw [hn hi] at h; cases h
end Mile
namespace Go.Proofs.Ytnklgeekjkchbaa
open Go.RowKit Mile
set_option maxRecDepth 100000
theorem Nt.infoA : (Try.prog.info? 32).map (fun i => (i.zero, i.size, i.bytes)) = some (some (.agg #[.int .i64 0, .int .i64 0, .int .i64 0, .int .i64 0]), 4, 32) := by kernel_rfl
theorem Nt.infoI : (Try.prog.info? 3).map (fun i => (i.zero, i.size, i.bytes)) = some (some (.int .i64 0), 1, 8) := by kernel_rfl
theorem nt_isNaN (x : Int) (w : World) : Calls Try.prog 65 #[.int .i64 x] w fun e w' => e = .returned (.bool false) ∧ w = w' := by
  go_enter Try.func65, Try.ntmps65
  go_wp2_with fail
  go_ret
  exact ⟨by simp, rfl⟩
def cmpN (x y : Int) : Int := if x < y then -1 else if y < x then 1 else 0
theorem nt_compare (x y : Int) (w : World) : Calls Try.prog 55 #[.int .i64 x, .int .i64 y] w fun e w' => e = .returned (.int .i64 (cmpN x y)) ∧ w = w' := by
  by_cases h1 : x < y
  · go_enter Try.func55, Try.ntmps55
    go_wp2_with (go_at_call 65; refine (nt_isNaN _ _).mono ?_; rintro e w' ⟨rfl, rfl⟩)
    go_ret
    exact ⟨by simp [cmpN, h1], rfl⟩
  · by_cases h2 : y < x
    · go_enter Try.func55, Try.ntmps55
      go_wp2_with (go_at_call 65; refine (nt_isNaN _ _).mono ?_; rintro e w' ⟨rfl, rfl⟩)
      go_ret
      exact ⟨by simp [cmpN, h1, h2], rfl⟩
    · have e : cmpN x y = 0 := by unfold cmpN; rw [if_neg h1, if_neg h2]
      rw [e]
      clear e
      go_enter Try.func55, Try.ntmps55
      go_wp2_with (go_at_call 65; refine (nt_isNaN _ _).mono ?_; rintro e w' ⟨rfl, rfl⟩)
      go_ret
      exact ⟨rfl, rfl⟩
theorem nt_place1 (f t v m x : Int) (w : World) : Calls Try.prog 54 #[.agg #[.int .i64 f, .int .i64 t, .int .i64 v, .int .i64 m], .int .i64 x] w fun e w' => e = .returned (.int .i64 (cmpN t x)) ∧ Mod (fun _ => False) w w' := by
  go_enter Try.func54, Try.ntmps54
  go_wp2_with fail
  refine (nt_compare t x _).mono ?_
  rintro e w' ⟨rfl, hw⟩
  have hm : Mod (fun _ => False) w w' := by rw [← hw]; exact Mod.alloc _ _ _
  have HM := Lib.hid hm
  clear hw hm
  go_wp2_with fail
  go_ret
  exact ⟨rfl, HM.out⟩
set_option maxHeartbeats 4000000 in
theorem nt_search (w : World) (a : Option Addr) (n c : Nat) (R : List Ar) (hn : R.length = n) (hr : Rd w 4 (.slice a n c) n (R.flatMap c4)) (hs : RiseR R) (hb : n ≤ 100000) (x : Int) :
    Calls Try.prog 53 #[.slice a n c, .int .i64 x, .func (.func 54) #[] #[]] w fun e w' => e = .returned (.tuple #[.int .i64 (posR R x : Int), .bool (isR R x)]) ∧ Mod (fun _ => False) w w' := by
  obtain ⟨iB, hiB, hzB, hsB, hbB⟩ := info_parts Nt.infoA
  have HN := Lib.hid hn
  have HS := Lib.hid hs
  obtain ⟨ps, hps⟩ : ∃ r, posR R x = r := ⟨_, rfl⟩
  obtain ⟨is, his⟩ : ∃ r, isR R x = r := ⟨_, rfl⟩
  rw [hps, his]
  have HPS := Lib.hid hps
  have HIS := Lib.hid his
  clear hn hs hps his
  go_enter Try.func53, Try.ntmps53
  go_wp2_with fail
  go_loopw [9, 10, 11] (fun vi vj _ wr => ∃ i j : Nat, i ≤ j ∧ j ≤ n ∧ vi = .int .i64 i ∧ vj = .int .i64 j ∧ Mod (fun _ => False) w wr ∧ (∀ t (ht : t < R.length), t < i → R[t].t < x) ∧ (∀ t (ht : t < R.length), j ≤ t → x ≤ R[t].t)) (fun vi vj _ _ => (intOf vj - intOf vi).toNat)
  case atStart => exact ⟨0, n, by omega, Nat.le_refl _, rfl, rfl, Mod.refl _ _, fun t _ h => by omega, fun t ht h => by rw [HN.out] at ht; omega⟩
  case round =>
    obtain ⟨i, j, hij, hjn, rfl, rfl, hM, hlo, hhi⟩ := hrel
    have HLO := Lib.hid hlo
    have HHI := Lib.hid hhi
    clear hlo hhi
    by_cases hlt : i < j
    · obtain ⟨h, hh⟩ : ∃ h, (i + j) / 2 = h := ⟨_, rfl⟩
      have hh1 : i ≤ h := by omega
      have hh2 : h < j := by omega
      have hhi : ((i : Int) + (j : Int)) / 2 = (h : Int) := by omega
      have hhl : h < R.length := by rw [HN.out]; omega
      obtain ⟨b, o, hpl, e0, e1, e2, e3⟩ := rd4 (hr.keepA hM (fun _ _ e => e.elim)) h hhl
      have hix := fun wx => run_indexS (P := Try.prog) wx 22 32 iB 4 Try.underlying22 hiB hsB a n c h (by omega) (hr.some_ (by omega))
      rw [hpl] at hix
      obtain ⟨y1, hy1⟩ : ∃ Y, R[h].t = Y := ⟨_, rfl⟩
      obtain ⟨y0, hy0⟩ : ∃ Y, R[h].f = Y := ⟨_, rfl⟩
      obtain ⟨y2, hy2⟩ : ∃ Y, R[h].w = Y := ⟨_, rfl⟩
      obtain ⟨y3, hy3⟩ : ∃ Y, R[h].m = Y := ⟨_, rfl⟩
      rw [hy0] at e0
      rw [hy1] at e1
      rw [hy2] at e2
      rw [hy3] at e3
      have HY := Lib.hid hy1
      have HM := Lib.hid hM
      clear hy0 hy1 hy2 hy3 hpl hh hM
      go_wp2_with fail
      refine (nt_place1 y0 y1 y2 y3 x _).mono ?_
      rintro e w1 ⟨rfl, hm1⟩
      have HMW := Lib.hid (HM.out.of2 hm1)
      clear hm1 e0 e1 e2 e3 hix
      by_cases hc : y1 < x
      · have hcm : cmpN y1 x = -1 := by unfold cmpN; rw [if_pos hc]
        rw [hcm]
        have HC := Lib.hid hc
        clear hcm hc
        go_wp2_with fail
        go_roundw
        case rel =>
          refine ⟨h + 1, j, by omega, hjn, by go_num, rfl, HMW.out, fun t ht htj => ?_, HHI.out⟩
          by_cases e : t = h
          · subst e; rw [HY.out]; exact HC.out
          · have := rise_at HS.out hhl (show t < h by omega)
            rw [HY.out] at this
            have := HC.out; omega
        case measure => simp [intOf]; omega
      · obtain ⟨cv, hcv⟩ : ∃ cv, cmpN y1 x = cv := ⟨_, rfl⟩
        have hcp : decide (cv < 0) = false := by rw [← hcv]; unfold cmpN; rw [if_neg hc]; split <;> simp
        rw [hcv]
        have HC := Lib.hid hc
        clear hc hcv
        go_wp2_with fail
        go_roundw
        case rel =>
          refine ⟨i, h, hh1, by omega, rfl, rfl, HMW.out, HLO.out, fun t ht htj => ?_⟩
          by_cases e : t = h
          · subst e; rw [HY.out]; have := HC.out; omega
          · have := rise_at HS.out ht (show h < t by omega)
            rw [HY.out] at this
            have := HC.out; omega
        case measure => simp [intOf]; omega
    · obtain rfl : i = j := by omega
      have hpi : ps = i := by rw [← HPS.out]; exact posR_of (by rw [HN.out]; exact hjn) HLO.out HHI.out
      subst hpi
      by_cases hin : ps < n
      · have hil : ps < R.length := by rw [HN.out]; exact hin
        obtain ⟨b, o, hpl, e0, e1, e2, e3⟩ := rd4 (hr.keepA hM (fun _ _ e => e.elim)) ps hil
        have hix := fun wx => run_indexS (P := Try.prog) wx 22 32 iB 4 Try.underlying22 hiB hsB a n c ps hin (hr.some_ (by omega))
        rw [hpl] at hix
        obtain ⟨y1, hy1⟩ : ∃ Y, R[ps].t = Y := ⟨_, rfl⟩
        obtain ⟨y0, hy0⟩ : ∃ Y, R[ps].f = Y := ⟨_, rfl⟩
        obtain ⟨y2, hy2⟩ : ∃ Y, R[ps].w = Y := ⟨_, rfl⟩
        obtain ⟨y3, hy3⟩ : ∃ Y, R[ps].m = Y := ⟨_, rfl⟩
        rw [hy0] at e0
        rw [hy1] at e1
        rw [hy2] at e2
        rw [hy3] at e3
        have hq : is = (cmpN y1 x == 0) := by
          rw [← HIS.out]
          refine isR_of HS.out HLO.out HHI.out _ (fun h => ?_) (fun h => absurd hil h)
          rw [hy1]
          unfold cmpN
          by_cases g1 : y1 < x
          · rw [if_pos g1]; simp; omega
          · by_cases g2 : x < y1
            · rw [if_neg g1, if_pos g2]; simp; omega
            · rw [if_neg g1, if_neg g2]; simp; omega
        have HM := Lib.hid hM
        have HQ := Lib.hid hq
        clear hy0 hy1 hy2 hy3 hpl hM hq
        have z0 : decide ((ps : Int) < (n : Int)) = true := by simp; omega
        go_wp2_with fail
        refine (nt_place1 y0 y1 y2 y3 x _).mono ?_
        rintro e w1 ⟨rfl, hm1⟩
        have HMW := Lib.hid (HM.out.of2 hm1)
        clear hm1 e0 e1 e2 e3 hix
        go_wp2_with fail
        go_ret2
        exact ⟨by rw [HQ.out]; rfl, HMW.out⟩
      · have hr0 : is = false := by
          rw [← HIS.out]
          exact isR_of HS.out HLO.out HHI.out false (fun h => absurd (by rw [HN.out] at h; exact h) hin) (fun _ => rfl)
        subst hr0
        have HM := Lib.hid hM
        have z0 : decide ((ps : Int) < (n : Int)) = false := by simp; omega
        clear hM
        go_wp2_with fail
        go_ret2
        exact ⟨rfl, HM.out⟩
theorem nt_place (w : World) (a : Option Addr) (n c : Nat) (R : List Ar) (hn : R.length = n) (hr : Rd w 4 (.slice a n c) n (R.flatMap c4)) (hs : RiseR R) (hb : n ≤ 100000) (x : Int) :
    Calls Try.prog 39 #[.slice a n c, .int .i64 x] w fun e w' => e = .returned (.tuple #[.int .i64 (posR R x : Int), .bool (isR R x)]) ∧ Mod (fun _ => False) w w' := by
  have HS := Lib.hid (nt_search w a n c R hn hr hs hb x)
  clear hn hr hs
  go_enter Try.func39, Try.ntmps39
  go_wp2_with fail
  refine HS.out.mono ?_
  rintro e w1 ⟨rfl, hm⟩
  have HM := Lib.hid hm
  clear hm
  go_wp2_with fail
  go_ret2
  exact ⟨rfl, HM.out⟩
end Go.Proofs.Ytnklgeekjkchbaa
