/- Law RankFirst. -/
import Derived.Test.YtepnlijdnabllaaRTells15
namespace Go.Proofs.Ytepnlijdnabllaa
open Go.RowKit Mile
set_option maxRecDepth 100000
/-- Who goes first: nobody, if all are gone; else the least of the least. -/
theorem firN_spec (f : Nat → Int) (gone : Nat → Bool) (n : Nat) : ((firN f gone n).1 = -1 ∧ ∀ v, v < n → gone v = true) ∨ ∃ u, u < n ∧ (firN f gone n).1 = (u : Int) ∧ (firN f gone n).2 = f u ∧ gone u = false ∧ ∀ v, v < n → gone v = false → f u < f v ∨ (f u = f v ∧ u ≤ v) := by
  induction n with
  | zero => exact .inl ⟨rfl, fun v hv => by omega⟩
  | succ n ih =>
    rw [firN_step]
    unfold firT
    cases hg : gone n with
    | true =>
      rw [if_pos rfl]
      rcases ih with ⟨h1, h2⟩ | ⟨u, h1, h2, h3, h4, h5⟩
      · exact .inl ⟨h1, fun v hv => by by_cases e : v = n; (rw [e]; exact hg); exact h2 v (by omega)⟩
      · exact .inr ⟨u, by omega, h2, h3, h4, fun v hv hgv => by by_cases e : v = n; (rw [e, hg] at hgv; cases hgv); exact h5 v (by omega) hgv⟩
    | false =>
      rw [if_neg (by simp)]
      rcases ih with ⟨h1, h2⟩ | ⟨u, h1, h2, h3, h4, h5⟩
      · rw [if_pos (.inl (by omega))]
        exact .inr ⟨n, by omega, rfl, rfl, hg, fun v hv hgv => by
          by_cases e : v = n
          · subst e; exact .inr ⟨rfl, Nat.le_refl _⟩
          · have := h2 v (by omega); rw [hgv] at this; cases this⟩
      · by_cases hlt : f n < (firN f gone n).2
        · rw [if_pos (.inr hlt)]
          rw [h3] at hlt
          exact .inr ⟨n, by omega, rfl, rfl, hg, fun v hv hgv => by
            by_cases e : v = n
            · subst e; exact .inr ⟨rfl, Nat.le_refl _⟩
            · rcases h5 v (by omega) hgv with h6 | h6 <;> (left; omega)⟩
        · rw [if_neg (by omega)]
          rw [h3] at hlt
          exact .inr ⟨u, by omega, h2, h3, h4, fun v hv hgv => by
            by_cases e : v = n
            · subst e; omega
            · exact h5 v (by omega) hgv⟩
set_option maxHeartbeats 16000000 in
theorem rkfirst_all (w : World) (n : Nat) (h1n : 1 ≤ n) (h25 : n ≤ 15) (a : Option Addr) (ln c : Nat) (T : List T3) (hT : T.length = ln) (hr : Rd w 3 (.slice a ln c) ln (T.flatMap c3T)) (hln : ln ≤ 60) (ga : Option Addr) (gl gc : Nat) (G : List Bool) (hG : G.length = gl) (hg : Rd w 1 (.slice ga gl gc) gl (G.map Value.bool)) (hgl : gl ≤ 40) (hgb : ∀ k, (Value.slice ga gl gc).ownBlock = some k → G.map Value.bool = [] ∨ k < w.heap.size) :
    Calls Try.prog 5 #[.int .i64 (n : Int), .slice a ln c, .slice ga gl gc] w fun e w' => e = .returned (.bool true) ∧ Mod (fun _ => False) w w' := by
  obtain ⟨iB, hiB, hzB, hsB, hbB⟩ := info_parts infoBoF
  have y0 : decide ((n : Int) < 1) = false := by simp; omega
  have y1 : decide ((15 : Int) < (n : Int)) = false := by simp; omega
  have y2 : decide ((60 : Int) < (ln : Int)) = false := by simp; omega
  have y2n : decide (60 < ln) = false := by simp; omega
  have y3 : decide ((40 : Int) < (gl : Int)) = false := by simp; omega
  have y3n : decide (40 < gl) = false := by simp; omega
  have HG := Lib.hid (And.intro hG (And.intro hg hgb))
  clear hG hg hgb
  have HMD := Lib.hid (made15_any w n (by omega) a ln c T hT hr (by omega))
  have HW := Lib.hid (net15 n T)
  have hle := arcsR_len (n : Int) T
  have hle0 : (putAllN (arcsR (n : Int) T)).length ≤ 60 := by
    have h := (putAll_ok (arcsR (n : Int) T) [] (NetOk.nil n) (arcsR_may T)).2
    unfold putAllN
    simp only [List.length_nil] at h; omega
  obtain ⟨L, hL⟩ : ∃ L, putAllN (arcsR (n : Int) T) = L := ⟨_, rfl⟩
  rw [hL] at HMD HW hle0
  have HLE : Hid (L.length ≤ 10000) := Lib.hid (by omega)
  obtain ⟨D, hD⟩ := DOk.ex n (by omega) L
  have HD := Lib.hid hD
  clear hL hT hr hle hle0 hD
  go_enter Try.func5, Try.ntmps5
  go_wp2_with fail
  refine HMD.out.mono ?_
  rintro e w1 ⟨q, F, m, rfl, hnt, hrn, hF, hmz, hm⟩
  have HN := Lib.hid (And.intro hnt hrn)
  have HM1 := Lib.hid hm
  clear hnt hrn hF hmz hm HMD
  go_wp2_with fail
  refine (rk_first HN.out.1 HW.out HD.out ga gl gc G HG.out.1 (HG.out.2.1.keep HM1.out (fun _ _ e => e)) (by omega) (fun k hk => (HG.out.2.2 k hk).imp id (fun h9 => by have := HM1.out.size; omega))).mono ?_
  rintro e w2 ⟨rfl, hm2⟩
  have hsp := firN_spec (fun v => wthR D L (v : Int)) (gonB G) n
  obtain ⟨fi, hfi⟩ : ∃ y, (firN (fun v => wthR D L (v : Int)) (gonB G) n).1 = y := ⟨_, rfl⟩
  rw [hfi] at hsp ⊢
  have HSP := Lib.hid hsp
  have HM2 := Lib.hid (HM1.out.of2 hm2)
  have HN2 := Lib.hid (And.intro (HN.out.1.later hm2) (HN.out.2.later hm2))
  clear hm2 hfi hsp
  go_wp2_with fail
  go_loopw [10, 11] (fun l i wr => ∃ k m : Nat, k ≤ n ∧ m ≤ k ∧ i = .int .i64 k ∧ l = .int .i64 m ∧ (m = 0 → ∀ v, v < k → gonB G v = true) ∧ Mod (fun _ => False) w2 wr) (fun _ i _ => n - (intOf i).toNat)
  case atStart => exact ⟨0, 0, by omega, by omega, rfl, rfl, fun _ v hv => by omega, Mod.refl _ _⟩
  case round =>
    obtain ⟨k, m, hk, hmk, rfl, rfl, hall, hm⟩ := hrel
    obtain ⟨wo, hwo⟩ : ∃ x : World, x = wr := ⟨_, rfl⟩
    subst hwo
    have HM := Lib.hid hm
    have HAL := Lib.hid hall
    clear hm hall
    by_cases hlt : k < n
    case pos =>
      have z0 : decide ((k : Int) < (n : Int)) = true := by simp; omega
      obtain ⟨gk, hgk⟩ : ∃ z, gonB G k = z := ⟨_, rfl⟩
      have HGK := Lib.hid hgk
      have hm1 : IntKind.i64.wrap ((m : Int) + 1) = ((m + 1 : Nat) : Int) := by rw [IntWalk.i64_in _ (by omega)]; omega
      by_cases hkg : k < gl
      · have z1 : decide ((k : Int) < (gl : Int)) = true := by simp; omega
        have hrd := (HG.out.2.1.keep HM2.out (fun _ _ e => e)).keep HM.out (fun _ _ e => e)
        obtain ⟨eb, eo, hpl, e0⟩ := rdb1 hrd k (by rw [HG.out.1]; exact hkg)
        have hix := fun wx => run_indexS (P := Try.prog) wx 23 4 iB 1 Try.underlying23 hiB hsB ga gl gc k hkg (hrd.some_ (by omega))
        rw [hpl] at hix
        have hgg : G[k]'(by rw [HG.out.1]; exact hkg) = gk := by rw [← hgk]; unfold gonB; simp [List.getD, HG.out.1, hkg]
        rw [hgg] at e0
        clear hrd hpl hgg hgk
        cases hgk2 : gk with
        | true =>
          have z2 : (fi == (k : Int)) = false := by
            rw [beq_eq_false_iff_ne]
            intro e
            rcases HSP.out with ⟨h1, _⟩ | ⟨u, _, h2, _, h4, _⟩
            · omega
            · have h5 := HGK.out
              rw [hgk2, show k = u by omega, h4] at h5
              cases h5
          have HGK2 := Lib.hid (HGK.out.trans hgk2)
          subst hgk2
          go_wp2_with fail
          go_roundw
          case rel =>
            exact ⟨k + 1, m, hlt, by omega, by go_num, rfl, fun h v hv => by
              by_cases e : v = k
              · rw [e]; exact HGK2.out
              · exact HAL.out h v (by omega), HM.out⟩
          case measure => simp [intOf]; omega
        | false =>
          rw [hgk2] at e0
          obtain ⟨u, hu, hfu, _, hgu, hmin⟩ := HSP.out.resolve_left (fun h => by have := h.2 k hlt; rw [HGK.out] at this; exact absurd (this.symm.trans hgk2) (by simp))
          subst hfu
          have hmn := hmin k hlt (HGK.out.trans hgk2)
          have hbu := wth_bound HN2.out.1.ok (by omega) D (u : Int)
          have hWk := Lib.hid (rk_worth (HN2.out.1.later HM.out) HW.out HD.out k hlt)
          have hWu := Lib.hid (fun (W : World) (hmW : Mod (fun _ => False) wo W) => rk_worth ((HN2.out.1.later HM.out).later hmW) HW.out HD.out u hu)
          obtain ⟨wk, hwk⟩ : ∃ z, wthR D L (k : Int) = z := ⟨_, rfl⟩
          obtain ⟨wu, hwu⟩ : ∃ z, wthR D L (u : Int) = z := ⟨_, rfl⟩
          have HWW := Lib.hid (And.intro hwk hwu)
          simp only [hwk, hwu] at hmn
          have z3 : decide ((u : Int) < 0) = false := by simp
          have z4 : decide ((n : Int) ≤ (u : Int)) = false := by simp; omega
          have z4n : decide (n ≤ u) = false := by simp; omega
          have z5 : decide (wk < wu) = false := by simp; omega
          have HMN := Lib.hid hmn
          clear hmn hbu hmin hgu hwk hwu
          go_wp2_with fail
          refine hWk.out.mono ?_
          rintro e w3 ⟨rfl, hm3⟩
          rw [HWW.out.1]
          have HM3 := Lib.hid hm3
          clear hm3 hWk
          go_wp2_with fail
          refine (hWu.out w3 HM3.out).mono ?_
          rintro e w4 ⟨rfl, hm4⟩
          rw [HWW.out.2]
          have HM4 := Lib.hid (HM.out.of2 (HM3.out.of2 hm4))
          clear hm4 hWu
          by_cases hew : wk = wu
          · have z6 : (wk == wu) = true := beq_iff_eq.2 hew
            have z7 : decide ((k : Int) < (u : Int)) = false := by have := HMN.out; simp; omega
            have z7n : decide (k < u) = false := by have := HMN.out; simp; omega
            clear hew
            go_wp2_with fail
            go_roundw
            case rel => exact ⟨k + 1, m + 1, hlt, by omega, by go_num, by first | rfl | (rw [hm1]) | go_num, fun h => by omega, HM4.out⟩
            case measure => simp [intOf]; omega
          · have z6 : (wk == wu) = false := beq_eq_false_iff_ne.2 hew
            clear hew
            go_wp2_with fail
            go_roundw
            case rel => exact ⟨k + 1, m + 1, hlt, by omega, by go_num, by first | rfl | (rw [hm1]) | go_num, fun h => by omega, HM4.out⟩
            case measure => simp [intOf]; omega
      · have z1 : decide ((k : Int) < (gl : Int)) = false := by simp; omega
        have hgk2 : gk = false := by rw [← hgk]; unfold gonB; simp [List.getD, HG.out.1, hkg]
        clear hgk
        obtain ⟨u, hu, hfu, _, hgu, hmin⟩ := HSP.out.resolve_left (fun h => by have := h.2 k hlt; rw [HGK.out] at this; exact absurd (this.symm.trans hgk2) (by simp))
        subst hfu
        have hmn := hmin k hlt (HGK.out.trans hgk2)
        have hbu := wth_bound HN2.out.1.ok (by omega) D (u : Int)
        have hWk := Lib.hid (rk_worth (HN2.out.1.later HM.out) HW.out HD.out k hlt)
        have hWu := Lib.hid (fun (W : World) (hmW : Mod (fun _ => False) wo W) => rk_worth ((HN2.out.1.later HM.out).later hmW) HW.out HD.out u hu)
        obtain ⟨wk, hwk⟩ : ∃ z, wthR D L (k : Int) = z := ⟨_, rfl⟩
        obtain ⟨wu, hwu⟩ : ∃ z, wthR D L (u : Int) = z := ⟨_, rfl⟩
        have HWW := Lib.hid (And.intro hwk hwu)
        simp only [hwk, hwu] at hmn
        have z3 : decide ((u : Int) < 0) = false := by simp
        have z4 : decide ((n : Int) ≤ (u : Int)) = false := by simp; omega
        have z4n : decide (n ≤ u) = false := by simp; omega
        have z5 : decide (wk < wu) = false := by simp; omega
        have HMN := Lib.hid hmn
        clear hmn hbu hmin hgu hwk hwu
        go_wp2_with fail
        refine hWk.out.mono ?_
        rintro e w3 ⟨rfl, hm3⟩
        rw [HWW.out.1]
        have HM3 := Lib.hid hm3
        clear hm3 hWk
        go_wp2_with fail
        refine (hWu.out w3 HM3.out).mono ?_
        rintro e w4 ⟨rfl, hm4⟩
        rw [HWW.out.2]
        have HM4 := Lib.hid (HM.out.of2 (HM3.out.of2 hm4))
        clear hm4 hWu
        by_cases hew : wk = wu
        · have z6 : (wk == wu) = true := beq_iff_eq.2 hew
          have z7 : decide ((k : Int) < (u : Int)) = false := by have := HMN.out; simp; omega
          have z7n : decide (k < u) = false := by have := HMN.out; simp; omega
          clear hew
          go_wp2_with fail
          go_roundw
          case rel => exact ⟨k + 1, m + 1, hlt, by omega, by go_num, by first | rfl | (rw [hm1]) | go_num, fun h => by omega, HM4.out⟩
          case measure => simp [intOf]; omega
        · have z6 : (wk == wu) = false := beq_eq_false_iff_ne.2 hew
          clear hew
          go_wp2_with fail
          go_roundw
          case rel => exact ⟨k + 1, m + 1, hlt, by omega, by go_num, by first | rfl | (rw [hm1]) | go_num, fun h => by omega, HM4.out⟩
          case measure => simp [intOf]; omega
    case neg =>
      have z0 : decide ((k : Int) < (n : Int)) = false := by simp; omega
      by_cases hm0 : 0 < m
      · have z1 : decide ((0 : Int) < (m : Int)) = true := by simp; omega
        have z1n : decide (0 < m) = true := by simp; omega
        go_wp2_with fail
        refine (awake15_any _).mono ?_
        rintro e w9 ⟨rfl, hm9⟩
        go_wp2_with fail
        go_ret
        exact ⟨rfl, (HM2.out.of2 HM.out).of2 hm9⟩
      · obtain rfl : m = 0 := by omega
        have hfi : fi = -1 := by
          rcases HSP.out with ⟨h1, _⟩ | ⟨u, h1, _, _, h4, _⟩
          · exact h1
          · have := HAL.out rfl u (by omega); rw [h4] at this; cases this
        subst hfi
        go_wp2_with fail
        refine (awake15_any _).mono ?_
        rintro e w9 ⟨rfl, hm9⟩
        go_wp2_with fail
        go_ret
        exact ⟨rfl, (HM2.out.of2 HM.out).of2 hm9⟩
theorem rkfirst_law (w : World) (nv : Int) (_ : (Lit.int .i64 nv).wf = true) (a : Option Addr) (ln c : Nat) (T : List T3) (ok : (encSlice enc3).ok w (.slice a ln c, T)) (ga : Option Addr) (gl gc : Nat) (G : List Bool) (ok2 : (encSlice encBool).ok w (.slice ga gl gc, G)) :
    Calls Try.prog 5 #[.int .i64 nv, .slice a ln c, .slice ga gl gc] w fun e w' => e = .returned (.bool true) ∧ Below w.heap.size w w' := by
  obtain ⟨hT, hr⟩ := ok_t3 ok
  obtain ⟨hG, hg⟩ := ok_bools15 ok2
  suffices h : Calls Try.prog 5 #[.int .i64 nv, .slice a ln c, .slice ga gl gc] w fun e w' => e = .returned (.bool true) ∧ Mod (fun _ => False) w w' from
    h.mono fun e w' h => ⟨h.1, h.2.below (Nat.le_refl _) (fun _ e => e.elim)⟩
  by_cases hno : ¬ (1 ≤ nv ∧ nv ≤ 15 ∧ ln ≤ 60 ∧ gl ≤ 40)
  case pos =>
    clear hr hT ok hg hG ok2
    have hend : ∀ (b0 b1 b2 b3 : Bool), decide (nv < 1) = b0 → decide (15 < nv) = b1 → decide (60 < (ln : Int)) = b2 → decide (40 < (gl : Int)) = b3 → (b0 || b1 || b2 || b3) = true →
        Calls Try.prog 5 #[.int .i64 nv, .slice a ln c, .slice ga gl gc] w fun e w' => e = .returned (.bool true) ∧ Mod (fun _ => False) w w' := by
      intro b0 b1 b2 b3 hc0 hc1 hc2 hc3 hbb
      clear hno
      cases b0
      · skip
        cases b1
        · skip
          cases b2
          · skip
            cases b3
            · cases hbb
            · clear hbb 
              go_enter Try.func5, Try.ntmps5
              go_wp2_with fail
              refine (awake15_any _).mono ?_
              rintro e w9 ⟨rfl, hm9⟩
              go_wp2_with fail
              go_ret
              exact ⟨rfl, hm9⟩
          · clear hbb hc3
            go_enter Try.func5, Try.ntmps5
            go_wp2_with fail
            refine (awake15_any _).mono ?_
            rintro e w9 ⟨rfl, hm9⟩
            go_wp2_with fail
            go_ret
            exact ⟨rfl, hm9⟩
        · clear hbb hc2 hc3
          go_enter Try.func5, Try.ntmps5
          go_wp2_with fail
          refine (awake15_any _).mono ?_
          rintro e w9 ⟨rfl, hm9⟩
          go_wp2_with fail
          go_ret
          exact ⟨rfl, hm9⟩
      · clear hbb hc1 hc2 hc3
        go_enter Try.func5, Try.ntmps5
        go_wp2_with fail
        refine (awake15_any _).mono ?_
        rintro e w9 ⟨rfl, hm9⟩
        go_wp2_with fail
        go_ret
        exact ⟨rfl, hm9⟩
    refine hend _ _ _ _ rfl rfl rfl rfl ?_
    simp only [Bool.or_eq_true, decide_eq_true_eq]
    omega
  case neg =>
    have hyes := Decidable.not_not.1 hno
    obtain ⟨n, rfl⟩ := Int.eq_ofNat_of_zero_le (show 0 ≤ nv by omega)
    exact rkfirst_all w n (by omega) (by omega) a ln c T hT hr (by omega) ga gl gc G hG hg (by omega) (rd_lt hg)
end Go.Proofs.Ytepnlijdnabllaa
