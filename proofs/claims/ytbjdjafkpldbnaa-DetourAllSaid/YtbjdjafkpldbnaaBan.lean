/- The search among the bans, by contract. -/
import Derived.Test.YtbjdjafkpldbnaaGr8
import Derived.Deep.RegionHeld3
import Derived.Deep.QuietTactic
import Derived.BigQuiet
namespace Mile
open Go Go.RowKit
theorem blt_trans {x y z : P2} (h : blt x y) (k : blt y z) : blt x z := by unfold blt at *; omega
theorem blt_irrefl (x : P2) : ¬ blt x x := by unfold blt; omega
/-- Bans that rise. -/
def Rising (B : List P2) : Prop := ∀ i (h : i < B.length), ∀ _ : 0 < i, blt (B[i - 1]'(by omega)) B[i]
theorem rising_lt {B : List P2} (h : Rising B) : ∀ (d i : Nat) (hi : i + d + 1 < B.length), blt (B[i]'(by omega)) (B[i + d + 1]'hi)
  | 0, i, hi => h (i + 1) hi (by omega)
  | d + 1, i, hi => blt_trans (rising_lt h d i (by omega)) (h (i + (d + 1) + 1) hi (by omega))
theorem rising_any {B : List P2} (h : Rising B) {i j : Nat} (hj : j < B.length) (hij : i < j) : blt (B[i]'(by omega)) B[j] := by
  obtain ⟨d, rfl⟩ : ∃ d, j = i + d + 1 := ⟨j - i - 1, by omega⟩
  exact rising_lt h d i hj
end Mile
namespace Go.Proofs.Ytbjdjafkpldbnaa
open Go.RowKit Mile
set_option maxRecDepth 100000
theorem may_rising {G : GD} (h : May G) : Rising G.B := fun i hi h0 => (h.2.2.2 i hi).2 h0
theorem cmpB_zero (x y : P2) : cmpB x y = 0 ↔ x = y := by
  obtain ⟨x1, x2⟩ := x
  obtain ⟨y1, y2⟩ := y
  unfold cmpB cmpI
  simp only [Prod.mk.injEq]
  split <;> split <;> (try split) <;> (try split) <;> omega

set_option maxHeartbeats 4000000 in
theorem search_any (w : World) (a : Option Addr) (n c : Nat) (B : List P2) (hn : B.length = n) (hr : Rd w 2 (.slice a n c) n (B.flatMap c2)) (hs : Rising B) (hb : n ≤ 100000) (x : P2) :
    Calls Try.prog 77 #[.slice a n c, .agg #[.int .i64 x.1, .int .i64 x.2], .func (.func 75) #[] #[]] w fun e w' => (∃ i : Int, e = .returned (.tuple #[.int .i64 i, .bool (decide (x ∈ B))])) ∧ Mod (fun _ => False) w w' := by
  obtain ⟨iB, hiB, hzB, hsB, hbB⟩ := info_parts GR.infoB
  obtain ⟨x1, x2⟩ := x
  have HN := Lib.hid hn
  have HS := Lib.hid hs
  obtain ⟨res, hres⟩ : ∃ r, decide ((x1, x2) ∈ B) = r := ⟨_, rfl⟩
  have HRES := Lib.hid hres
  rw [hres]
  clear hn hs hres
  go_enter Try.func77, Try.ntmps77
  go_wp2_with fail
  have hM0 := Mod.alloc (fun _ => False) w (.cells #[.int .i64 x1, .int .i64 x2] 81)
  have hp0 : Blk (w.alloc (.cells #[.int .i64 x1, .int .i64 x2] 81)) w.heap.size 81 [.int .i64 x1, .int .i64 x2] := Blk.new w 81 [.int .i64 x1, .int .i64 x2]
  obtain ⟨p, hp⟩ : ∃ p, w.heap.size = p := ⟨_, rfl⟩
  rw [hp] at hp0 ⊢
  clear hp
  go_loopw [9, 10, 11] (fun vi vj _ wr => ∃ i j : Nat, i ≤ j ∧ j ≤ n ∧ vi = .int .i64 i ∧ vj = .int .i64 j ∧ Mod (fun _ => False) w wr ∧ Blk wr p 81 [.int .i64 x1, .int .i64 x2] ∧ (∀ t (ht : t < B.length), t < i → blt B[t] (x1, x2)) ∧ (∀ t (ht : t < B.length), j ≤ t → ¬ blt B[t] (x1, x2))) (fun vi vj _ _ => (intOf vj).toNat - (intOf vi).toNat)
  case atStart => exact ⟨0, n, by omega, Nat.le_refl _, rfl, rfl, hM0, hp0, fun t _ h => by omega, fun t ht h => by rw [HN.out] at ht; omega⟩
  case round =>
    clear hM0 hp0
    obtain ⟨i, j, hij, hjn, rfl, rfl, hM, hp, hlo, hhi⟩ := hrel
    have HLO := Lib.hid hlo
    have HHI := Lib.hid hhi
    clear hlo hhi
    have p0 := hp.cell 0 rfl
    have p1 := hp.cell 1 rfl
    have hpl' := hp.lt
    by_cases hlt : i < j
    · obtain ⟨h, hh⟩ : ∃ h, (i + j) / 2 = h := ⟨_, rfl⟩
      have hh1 : i ≤ h := by omega
      have hh2 : h < j := by omega
      have hhi : ((i : Int) + (j : Int)) / 2 = (h : Int) := by omega
      have hhl : h < B.length := by rw [HN.out]; omega
      obtain ⟨b, o, hpl, e1, e2⟩ := rd2 (hr.keepA hM (fun _ _ e => e.elim)) h hhl
      have hix := fun wx => run_indexS (P := Try.prog) wx 26 81 iB 2 Try.underlying26 hiB hsB a n c h (by omega) (hr.some_ (by omega))
      rw [hpl] at hix
      obtain ⟨Y, hY⟩ : ∃ Y, B[h] = Y := ⟨_, rfl⟩
      rw [hY] at e1 e2
      have HY := Lib.hid hY
      clear hY hpl hh
      obtain ⟨y1, y2⟩ := Y
      simp only at e1 e2
      have hcmp := cmpB_nonneg (y1, y2) (x1, x2)
      obtain ⟨cv, hcv⟩ : ∃ cv, cmpB (y1, y2) (x1, x2) = cv := ⟨_, rfl⟩
      rw [hcv] at hcmp
      have HCV := Lib.hid hcv
      have HCM := Lib.hid hcmp
      have HP := Lib.hid hp
      have HM := Lib.hid hM
      clear hcv hcmp hp hM
      go_wp2_with fail
      have HC4 : Hid (∀ W, Mod (fun _ => False) wr W → W.cell? ⟨b, o, none⟩ = some (.int .i64 y1) ∧ W.cell? ⟨b, o + 1, none⟩ = some (.int .i64 y2) ∧ W.cell? ⟨p, 0, none⟩ = some (.int .i64 x1) ∧ W.cell? ⟨p, 1, none⟩ = some (.int .i64 x2)) := Lib.hid fun W hm => ⟨hm.cell e1 (fun e => e), hm.cell e2 (fun e => e), hm.cell p0 (fun e => e), hm.cell p1 (fun e => e)⟩
      go_region_held3 (fun w' => w'.cell? ⟨b, o, none⟩ = some (.int .i64 y1) ∧ w'.cell? ⟨b, o + 1, none⟩ = some (.int .i64 y2) ∧ w'.cell? ⟨p, 0, none⟩ = some (.int .i64 x1) ∧ w'.cell? ⟨p, 1, none⟩ = some (.int .i64 x2)) (first | exact e3 | go_keep) (
        (go_at_call 75; refine (compareBans_any (y1, y2) (x1, x2) _).mono ?_; rintro e w1 ⟨rfl, hM1⟩; rw [HCV.out]; have m1 := (Mod.drew (fun _ => False) wr).trans hM1 (H := fun _ => False) (fun _ _ e => e) (fun _ _ e => e); have e3 := HC4.out w1 m1))
      have HMW := Lib.hid (HM.out.trans m1 (H := fun _ => False) (fun _ _ e => e) (fun _ _ e => e))
      have HPW := Lib.hid (HP.out.keep m1 (fun e => e))
      by_cases hc : cv < 0
      · have g1 : decide (cv < 0) = true := by simpa using hc
        have hbl : blt (y1, y2) (x1, x2) := Classical.byContradiction fun hn => by have := HCM.out.2 hn; omega
        have HBL := Lib.hid hbl
        clear hbl m1 e3 hM1
        go_wp2_with fail
        go_roundw
        case rel =>
          refine ⟨h + 1, j, by omega, hjn, by go_num, rfl, HMW.out, HPW.out, fun t ht htj => ?_, HHI.out⟩
          by_cases e : t = h
          · subst e; rw [HY.out]; exact HBL.out
          · have := rising_any HS.out hhl (show t < h by omega)
            rw [HY.out] at this
            exact blt_trans this HBL.out
        case measure => simp [intOf]; omega
      · have g1 : decide (cv < 0) = false := by simpa using hc
        have hbl : ¬ blt (y1, y2) (x1, x2) := HCM.out.1 (by omega)
        have HBL := Lib.hid hbl
        clear hbl m1 e3 hM1
        go_wp2_with fail
        go_roundw
        case rel =>
          refine ⟨i, h, hh1, by omega, rfl, rfl, HMW.out, HPW.out, HLO.out, fun t ht htj hb' => ?_⟩
          by_cases e : t = h
          · subst e; rw [HY.out] at hb'; exact HBL.out hb'
          · have := rising_any HS.out ht (show h < t by omega)
            rw [HY.out] at this
            exact HBL.out (blt_trans this hb')
        case measure => simp [intOf]; omega
    · obtain rfl : i = j := by omega
      by_cases hin : i < n
      · have hil : i < B.length := by rw [HN.out]; exact hin
        obtain ⟨b, o, hpl, e1, e2⟩ := rd2 (hr.keepA hM (fun _ _ e => e.elim)) i hil
        have hix := fun wx => run_indexS (P := Try.prog) wx 26 81 iB 2 Try.underlying26 hiB hsB a n c i hin (hr.some_ (by omega))
        rw [hpl] at hix
        obtain ⟨Y, hY⟩ : ∃ Y, B[i] = Y := ⟨_, rfl⟩
        rw [hY] at e1 e2
        have HY := Lib.hid hY
        clear hY hpl
        obtain ⟨y1, y2⟩ := Y
        simp only at e1 e2
        have hz := cmpB_zero (y1, y2) (x1, x2)
        obtain ⟨cv, hcv⟩ : ∃ cv, cmpB (y1, y2) (x1, x2) = cv := ⟨_, rfl⟩
        rw [hcv] at hz
        have HCV := Lib.hid hcv
        have hq : (cv == 0) = res := by
          rw [← HRES.out]
          by_cases e : cv = 0
          · have e' := hz.1 e
            rw [e, ← e', ← HY.out]
            rw [decide_eq_true (List.getElem_mem hil)]; rfl
          · rw [show (cv == 0) = false by rw [beq_eq_false_iff_ne]; exact e]
            refine (decide_eq_false fun hm => ?_).symm
            obtain ⟨t, ht, et⟩ := List.getElem_of_mem hm
            rcases Nat.lt_trichotomy t i with g | g | g
            · have := HLO.out t ht g; rw [et] at this; exact blt_irrefl _ this
            · subst g; exact e (hz.2 (by rw [← HY.out]; exact et))
            · have := rising_any HS.out ht g
              rw [et] at this
              exact HHI.out i hil (Nat.le_refl _) this
        have HCQ := Lib.hid hq
        have HM := Lib.hid hM
        have HC4 : Hid (∀ W, Mod (fun _ => False) wr W → W.cell? ⟨b, o, none⟩ = some (.int .i64 y1) ∧ W.cell? ⟨b, o + 1, none⟩ = some (.int .i64 y2) ∧ W.cell? ⟨p, 0, none⟩ = some (.int .i64 x1) ∧ W.cell? ⟨p, 1, none⟩ = some (.int .i64 x2)) := Lib.hid fun W hm => ⟨hm.cell e1 (fun e => e), hm.cell e2 (fun e => e), hm.cell p0 (fun e => e), hm.cell p1 (fun e => e)⟩
        clear hcv hz hq hM hp
        go_wp2_with fail
        go_region_held3 (fun w' => w'.cell? ⟨b, o, none⟩ = some (.int .i64 y1) ∧ w'.cell? ⟨b, o + 1, none⟩ = some (.int .i64 y2) ∧ w'.cell? ⟨p, 0, none⟩ = some (.int .i64 x1) ∧ w'.cell? ⟨p, 1, none⟩ = some (.int .i64 x2)) (first | exact e3 | go_keep) (
          (go_at_call 75; refine (compareBans_any (y1, y2) (x1, x2) _).mono ?_; rintro e w1 ⟨rfl, hM1⟩; rw [HCV.out]; have m1 := (Mod.drew (fun _ => False) wr).trans hM1 (H := fun _ => False) (fun _ _ e => e) (fun _ _ e => e); have e3 := HC4.out w1 m1))
        have HMW := Lib.hid (HM.out.trans m1 (H := fun _ => False) (fun _ _ e => e) (fun _ _ e => e))
        clear m1 e3 hM1
        go_wp2_with fail
        go_ret2
        exact ⟨⟨i, by rw [← HCQ.out]; rfl⟩, HMW.out⟩
      · have hr0 : res = false := by
          rw [← HRES.out]
          refine decide_eq_false fun hm => ?_
          obtain ⟨t, ht, et⟩ := List.getElem_of_mem hm
          have := HLO.out t ht (by rw [HN.out] at ht; omega)
          rw [et] at this
          exact blt_irrefl _ this
        subst hr0
        have HM := Lib.hid hM
        clear hM hp
        go_wp2_with fail
        go_quiet (fail)
        go_wp2_with fail
        go_ret2
        exact ⟨⟨i, rfl⟩, HM.out.trans (Mod.drewN _ _ _) (fun _ _ e => e) (fun _ _ e => e)⟩
/-- Banned of a graph. -/
theorem banned_any (p B C : Nat) (w : World) (G : GD) (h : GO w p B C G) (va vb : Int) :
    Calls Try.prog 70 #[.pointer (some ⟨p, 0, none⟩), .int .i64 va, .int .i64 vb] w fun e w' => e = .returned (.bool (decide ((va, vb) ∈ G.B))) ∧ Mod (fun _ => False) w w' := by
  obtain ⟨⟨a1, n1, d1, a2, n2, d2, a3, n3, d3, a4, n4, d4, a5, n5, d5, a6, n6, d6, a7, n7, d7, hb, hv, _⟩, _, hm, _⟩ := h
  have hr := may_rising hm
  have hsz := hm.1.2.2
  rw [hv.b] at hsz
  have c2' := hb.cell 2 rfl
  have ltp := hb.lt
  have HV := Lib.hid hv
  have HR := Lib.hid hr
  clear hv hr hb hm
  go_enter Try.func70, Try.ntmps70
  go_wp2_with fail
  refine (search_any w a3 n3 d3 G.B HV.out.b HV.out.rb HR.out (by omega) (va, vb)).mono ?_
  rintro e w' ⟨⟨i, rfl⟩, hM⟩
  obtain ⟨r, hr⟩ : ∃ r, decide ((va, vb) ∈ G.B) = r := ⟨_, rfl⟩
  have HRR := Lib.hid hr
  have HM := Lib.hid hM
  rw [hr]
  clear hM hr
  go_wp2_with fail
  go_ret
  exact ⟨by rw [HRR.out]; rfl, HM.out⟩
end Go.Proofs.Ytbjdjafkpldbnaa
