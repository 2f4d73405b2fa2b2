/- Law WitnessLess. -/
import Derived.Test.YtnklgeekjkchbaaRAll
import Derived.Test.YtnklgeekjkchbaaWFar14
namespace Go.Proofs.Ytnklgeekjkchbaa
open Go.RowKit Mile
set_option maxRecDepth 100000
theorem found_mono {d : List Int} {tv mo mo' st st' : Int} (hm : mo ≤ mo') (hs : st ≤ st') (h : foundB d tv mo st = true) : foundB d tv mo' st' = true := by
  unfold foundB at h ⊢
  have ⟨h1, h2, h3, h4⟩ := of_decide_eq_true h
  exact decide_eq_true ⟨h1, h2, by omega, by omega⟩
theorem found_is {d : List Int} {tv : Nat} {mo st : Int} (h : foundB d (tv : Int) mo st = true) : 0 ≤ dAt d tv ∧ dAt d tv ≤ mo := by
  unfold foundB at h
  have ⟨_, h2, h3, _⟩ := of_decide_eq_true h
  rw [Int.toNat_natCast] at h2 h3
  exact ⟨h2, h3⟩
/-- Without nobody it is no farther. -/
theorem less_far {n : Nat} {L : List Ar} {fr : Nat} {wo : Int} {d d' : List Int} (h : Fix (netW n L (fr : Int) wo) d) (h' : Fix (netW n L (fr : Int) (-1)) d') (e : Nat) (h0 : 0 ≤ dAt d e) : 0 ≤ dAt d' e ∧ dAt d' e ≤ dAt d e :=
  h.le h' rfl (fun e he => ⟨he.1, by omega⟩) (fun e b hr => ⟨by
    obtain ⟨a, h1, h2, h3⟩ := hr
    exact ⟨a, h1, by omega, h3⟩, rfl⟩) (dAt d e).toNat e h0 (by omega)
/-- What was found the time before. -/
def lastB (f : Int → Bool) : Nat → Bool
  | 0 => false
  | s + 1 => f (s : Int)
set_option maxHeartbeats 16000000 in
theorem wless_all (w : World) (n : Nat) (h0 : 2 ≤ n) (h40 : n ≤ 30) (a : Option Addr) (ln c : Nat) (T : List T3) (hT : T.length = ln) (hr : Rd w 3 (.slice a ln c) ln (T.flatMap c3T)) (hln : ln ≤ 100) (av bv cv kv mv : Int) (hmv : 0 ≤ mv ∧ mv ≤ 40) :
    Calls Try.prog 9 #[.int .i64 (n : Int), .slice a ln c, .int .i64 av, .int .i64 bv, .int .i64 cv, .int .i64 kv, .int .i64 mv] w fun e w' => e = .returned (.bool true) ∧ Mod (fun _ => False) w w' := by
  obtain ⟨iI, hiI, hzI, hsI, hbI⟩ := info_parts Nt.infoI
  have y0 : decide ((n : Int) < 2) = false := by simp; omega
  have y1 : decide ((30 : Int) < (n : Int)) = false := by simp; omega
  have y2 : decide ((100 : Int) < (ln : Int)) = false := by simp; omega
  have y2n : decide (100 < ln) = false := by simp; omega
  have y3 : decide (mv < 0) = false := by simp; omega
  have y4 : decide (40 < mv) = false := by simp; omega
  have HMD := Lib.hid (made14_any w n (by omega) a ln c T hT hr (by omega))
  have HW := Lib.hid (net14 n T)
  have hle := arcsR_len (n : Int) T
  have hle0 : (putAllN (arcsR (n : Int) T)).length ≤ 100 := by
    have h := (putAll_ok (arcsR (n : Int) T) [] (NetOk.nil n) (arcsR_may T)).2
    unfold putAllN
    simp only [List.length_nil] at h; omega
  obtain ⟨L, hL⟩ : ∃ L, putAllN (arcsR (n : Int) T) = L := ⟨_, rfl⟩
  rw [hL] at HMD HW hle0
  have hn0 : (0 : Int) < (n : Int) := by omega
  have hn1 : (n : Int) ≤ 4611686018427387904 := by omega
  obtain ⟨x, hx⟩ := Int.eq_ofNat_of_zero_le (Int.emod_nonneg av (b := (n : Int)) (by omega))
  obtain ⟨y, hy⟩ := Int.eq_ofNat_of_zero_le (Int.emod_nonneg bv (b := (n : Int)) (by omega))
  obtain ⟨z, hz⟩ : ∃ z, cv % (n : Int) = z := ⟨_, rfl⟩
  obtain ⟨k, hk⟩ : ∃ k, kv % 80 = k := ⟨_, rfl⟩
  have hk0 : 0 ≤ k ∧ k < 80 := by rw [← hk]; exact ⟨Int.emod_nonneg _ (by decide), Int.emod_lt_of_pos _ (by decide)⟩
  have hxn : x < n := by have := Int.emod_lt_of_pos av hn0; omega
  have hyn : y < n := by have := Int.emod_lt_of_pos bv hn0; omega
  obtain ⟨dc, hdc⟩ := netW_ex n (by omega) L (x : Int) z
  obtain ⟨da, hda⟩ := netW_ex n (by omega) L (x : Int) (-1)
  obtain ⟨dx, hdx⟩ := netW_ex n (by omega) L (x : Int) (x : Int)
  have hno : foundB dx (y : Int) k n = false := found_none hdx (fun e he _ => he.2 rfl) _ _ _
  obtain ⟨f, hf⟩ : ∃ f : Int → Bool, f = fun s => foundB dc (y : Int) k s := ⟨_, rfl⟩
  have hsum : IntKind.i64.wrap (k + mv) = k + mv := IntWalk.i64_in _ (by omega)
  have hn2 : IntKind.i64.wrap ((n : Int) + 1) = (n : Int) + 1 := IntWalk.i64_in _ (by omega)
  have HFIND := Lib.hid (fun W tp F (hnt : NT W tp n L F) (s : Int) (b : Bool) (hb : f s = b) => (wfind hnt HW.out (x : Int) (y : Int) z k s dc hdc).mono (fun e w' (hh : e = .returned (.bool (foundB dc (y : Int) k s)) ∧ Mod (fun _ => False) W w') => (show e = .returned (.bool b) ∧ Mod (fun _ => False) W w' from ⟨by rw [hh.1]; rw [hf] at hb; rw [← hb], hh.2⟩)))
  have HFIND2 := Lib.hid (fun W tp F (hnt : NT W tp n L F) (s : Int) (hb : f s = true) => (wfind hnt HW.out (x : Int) (y : Int) z (k + mv) s dc hdc).mono (fun e w' (hh : e = .returned (.bool (foundB dc (y : Int) (k + mv) s)) ∧ Mod (fun _ => False) W w') => (show e = .returned (.bool true) ∧ Mod (fun _ => False) W w' from ⟨by rw [hh.1, found_mono (mo := k) (st := s) (by omega) (Int.le_refl _) (by rw [hf] at hb; exact hb)], hh.2⟩)))
  have HFINDX := Lib.hid (fun W tp F (hnt : NT W tp n L F) => (wfind hnt HW.out (x : Int) (y : Int) (x : Int) k n dx hdx).mono (fun e w' (hh : e = .returned (.bool (foundB dx (y : Int) k n)) ∧ Mod (fun _ => False) W w') => (show e = .returned (.bool false) ∧ Mod (fun _ => False) W w' from ⟨by rw [hh.1, hno], hh.2⟩)))
  have HMONO : Hid (∀ s : Nat, lastB f s = true → f (s : Int) = true) := Lib.hid (fun s h => by
    cases s with
    | zero => cases h
    | succ s => rw [hf] at h ⊢; exact found_mono (Int.le_refl _) (by omega) (show foundB dc (y : Int) k (s : Int) = true from h))
  have HEND : Hid (lastB f (n + 2) = true → 0 ≤ dAt da y ∧ dAt da y ≤ k) := Lib.hid (fun h => by
    have h1 : foundB dc (y : Int) k ((n + 1 : Nat) : Int) = true := by rw [hf] at h; exact h
    have h2 := found_is h1
    have h3 := less_far hdc hda y h2.1
    omega)
  have HXY := Lib.hid (And.intro hx (And.intro hy (And.intro hz hk)))
  have HDA := Lib.hid hda
  have HLE := Lib.hid hle0
  clear hx hy hz hk hL hT hr hle hle0 hdc hda hdx hno hf hk0
  go_enter Try.func9, Try.ntmps9
  go_wp2_with fail
  refine HMD.out.mono ?_
  rintro e w1 ⟨tp, F, m, rfl, hnt, hrn, _, _, hm1⟩
  have HN := Lib.hid hnt
  have HRN := Lib.hid hrn
  have HM1 := Lib.hid hm1
  clear hnt hrn hm1 HMD y0 y1 y2 y2n y3 y4
  go_wp2_with fail
  refine (round_any av n _ hn0 hn1).mono ?_
  rintro e wr ⟨rfl, rfl⟩
  rw [HXY.out.1]
  go_wp2_with fail
  refine (round_any bv n _ hn0 hn1).mono ?_
  rintro e wr ⟨rfl, rfl⟩
  rw [HXY.out.2.1]
  go_wp2_with fail
  refine (round_any cv n _ hn0 hn1).mono ?_
  rintro e wr ⟨rfl, rfl⟩
  rw [HXY.out.2.2.1]
  go_wp2_with fail
  refine (round_any kv 80 _ (by decide) (by decide)).mono ?_
  rintro e wr ⟨rfl, rfl⟩
  rw [HXY.out.2.2.2]
  go_wp2_with fail
  go_loopw [21, 22] (fun lv sv wr => ∃ s : Nat, s ≤ n + 2 ∧ lv = .bool (lastB f s) ∧ sv = .int .i64 (s : Int) ∧ Mod (fun _ => False) w1 wr) (fun _ sv _ => n + 3 - (intOf sv).toNat)
  case atStart => exact ⟨0, by omega, rfl, rfl, Mod.refl _ _⟩
  case round =>
    obtain ⟨s, hs, rfl, rfl, hmr⟩ := hrel
    obtain ⟨wo, hwo⟩ : ∃ x : World, x = wr := ⟨_, rfl⟩
    subst hwo
    have HMR := Lib.hid hmr
    have HNR := Lib.hid (HN.out.later hmr)
    clear hmr
    obtain ⟨lb, hlb⟩ : ∃ b, lastB f s = b := ⟨_, rfl⟩
    rw [hlb]
    have HLB := Lib.hid hlb
    clear hlb
    by_cases hsn : s ≤ n + 1
    case pos =>
      have z0 : decide ((s : Int) ≤ (n : Int) + 1) = true := by simp; omega
      have hj1 : IntKind.i64.wrap ((s : Int) + 1) = ((s + 1 : Nat) : Int) := by rw [IntWalk.i64_in _ (by omega)]; omega
      obtain ⟨fb, hfb⟩ : ∃ b, f (s : Int) = b := ⟨_, rfl⟩
      have HFB := Lib.hid hfb
      have HLS : Hid (lastB f (s + 1) = fb) := Lib.hid hfb
      clear hfb
      go_wp2_with fail
      refine (HFIND.out _ tp F HNR.out (s : Int) fb HFB.out).mono ?_
      rintro e w3 ⟨rfl, hm3⟩
      have HM3 := Lib.hid hm3
      clear hm3
      cases fb with
      | false =>
        cases lb with
        | true => exact absurd (HMONO.out s HLB.out) (by rw [HFB.out]; simp)
        | false =>
          go_wp2_with fail
          go_roundw
          case rel => exact ⟨s + 1, by omega, by rw [HLS.out], by go_num, HMR.out.of2 HM3.out⟩
          case measure => simp [intOf]; omega
      | true =>
        cases lb with
        | true =>
          go_wp2_with fail
          refine (HFIND2.out _ tp F (HNR.out.later HM3.out) (s : Int) HFB.out).mono ?_
          rintro e w4 ⟨rfl, hm4⟩
          have HM4 := Lib.hid hm4
          clear hm4
          go_wp2_with fail
          go_roundw
          case rel => exact ⟨s + 1, by omega, by rw [HLS.out], by go_num, (HMR.out.of2 HM3.out).of2 HM4.out⟩
          case measure => simp [intOf]; omega
        | false =>
          go_wp2_with fail
          refine (HFIND2.out _ tp F (HNR.out.later HM3.out) (s : Int) HFB.out).mono ?_
          rintro e w4 ⟨rfl, hm4⟩
          have HM4 := Lib.hid hm4
          clear hm4
          go_wp2_with fail
          go_roundw
          case rel => exact ⟨s + 1, by omega, by rw [HLS.out], by go_num, (HMR.out.of2 HM3.out).of2 HM4.out⟩
          case measure => simp [intOf]; omega
    case neg =>
      obtain rfl : s = n + 2 := by omega
      have z0 : decide (((n + 2 : Nat) : Int) ≤ (n : Int) + 1) = false := decide_eq_false (by omega)
      clear hsn
      go_wp2_with fail
      refine (rn_all (HRN.out.later HMR.out) HN.out.ok HW.out (by omega) (by have := HLE.out; omega) (x : Int) da HDA.out).mono ?_
      rintro e w3 ⟨ad, cd, rfl, ho3, hm3⟩
      have hr3 := Rd.ofOwn ho3
      have hdl : da.length = n := HDA.out.len
      have hpl : (elemA ad y 1) = elemA ad y 1 := rfl
      obtain ⟨eb, eo, hpe, _⟩ := hr3.place (j := y) (by omega)
      have hix := fun wx => run_indexS (P := Try.prog) wx 56 3 iI 1 Try.underlying56 hiI hsI ad n cd y hyn (hr3.some_ (by omega))
      have hcell : w3.cell? (elemA ad y 1) = some (.int .i64 (da[y]'(by omega))) := hr3.elem (by rw [List.getElem?_map, List.getElem?_eq_getElem (by omega)]; rfl)
      rw [hpe] at hix hcell
      rw [← dAt_eq da y (by omega)] at hcell
      obtain ⟨dv, hdv⟩ : ∃ v, dAt da y = v := ⟨_, rfl⟩
      rw [hdv] at hcell
      have HE2 : Hid (lb = true → 0 ≤ dv ∧ dv ≤ k) := Lib.hid (fun h => by rw [← hdv]; exact HEND.out (by rw [HLB.out]; exact h))
      have HM3 := Lib.hid hm3
      have HN3 := Lib.hid (HNR.out.later hm3)
      clear ho3 hr3 hpl hpe hdv hm3 hdl
      have fin : ∀ wx, Mod (fun _ => False) w wx → Calls Try.prog 30 #[] wx fun e w' => e = .returned (.bool true) ∧ Mod (fun _ => False) w w' := fun wx hm => (awake14_any wx).mono fun e w' hh => ⟨hh.1, hm.of2 hh.2⟩
      have HFIN := Lib.hid fin
      clear fin
      cases lb with
      | false =>
        go_wp2_with fail
        refine (HFINDX.out _ tp F HN3.out).mono ?_
        rintro e w5 ⟨rfl, hm5⟩
        have HM5 : Hid (Mod (fun _ => False) w w5) := Lib.hid (((HM1.out.of2 HMR.out).of2 HM3.out).of2 hm5)
        clear hm5
        go_wp2_with fail
        refine (HFIN.out _ HM5.out).mono ?_
        rintro e w9 ⟨rfl, hm9⟩
        go_wp2_with fail
        go_ret
        exact ⟨rfl, hm9⟩
      | true =>
        obtain ⟨g1, g2⟩ := HE2.out rfl
        have u1 : decide (0 ≤ dv) = true := decide_eq_true g1
        have u2 : decide (dv ≤ k) = true := decide_eq_true g2
        clear g1 g2
        go_wp2_with fail
        refine (HFINDX.out _ tp F HN3.out).mono ?_
        rintro e w5 ⟨rfl, hm5⟩
        have HM5 : Hid (Mod (fun _ => False) w w5) := Lib.hid (((HM1.out.of2 HMR.out).of2 HM3.out).of2 hm5)
        clear hm5
        go_wp2_with fail
        refine (HFIN.out _ HM5.out).mono ?_
        rintro e w9 ⟨rfl, hm9⟩
        go_wp2_with fail
        go_ret
        exact ⟨rfl, hm9⟩
set_option maxHeartbeats 8000000 in
theorem wless_law (w : World) (nv : Int) (_ : (Lit.int .i64 nv).wf = true) (a : Option Addr) (ln c : Nat) (T : List T3) (ok : (encSlice enc3).ok w (.slice a ln c, T)) (av : Int) (_ : (Lit.int .i64 av).wf = true) (bv : Int) (_ : (Lit.int .i64 bv).wf = true) (cv : Int) (_ : (Lit.int .i64 cv).wf = true) (kv : Int) (_ : (Lit.int .i64 kv).wf = true) (mv : Int) (_ : (Lit.int .i64 mv).wf = true) :
    Calls Try.prog 9 #[.int .i64 nv, .slice a ln c, .int .i64 av, .int .i64 bv, .int .i64 cv, .int .i64 kv, .int .i64 mv] w fun e w' => e = .returned (.bool true) ∧ Below w.heap.size w w' := by
  obtain ⟨hT, hr⟩ := ok_t3 ok
  suffices h : Calls Try.prog 9 #[.int .i64 nv, .slice a ln c, .int .i64 av, .int .i64 bv, .int .i64 cv, .int .i64 kv, .int .i64 mv] w fun e w' => e = .returned (.bool true) ∧ Mod (fun _ => False) w w' from
    h.mono fun e w' h => ⟨h.1, h.2.below (Nat.le_refl _) (fun _ e => e.elim)⟩
  by_cases hno : ¬ (2 ≤ nv ∧ nv ≤ 30 ∧ ln ≤ 100 ∧ 0 ≤ mv ∧ mv ≤ 40)
  case pos =>
    clear hr hT ok
    have hend : ∀ (b0 b1 b2 b3 b4 : Bool), decide (nv < 2) = b0 → decide (30 < nv) = b1 → decide (100 < (ln : Int)) = b2 → decide (mv < 0) = b3 → decide (40 < mv) = b4 → (b0 || b1 || b2 || b3 || b4) = true →
        Calls Try.prog 9 #[.int .i64 nv, .slice a ln c, .int .i64 av, .int .i64 bv, .int .i64 cv, .int .i64 kv, .int .i64 mv] w fun e w' => e = .returned (.bool true) ∧ Mod (fun _ => False) w w' := by
      intro b0 b1 b2 b3 b4 hc0 hc1 hc2 hc3 hc4 hbb
      clear hno
      cases b0
      · skip
        cases b1
        · skip
          cases b2
          · skip
            cases b3
            · skip
              cases b4
              · cases hbb
              · clear hbb 
                go_enter Try.func9, Try.ntmps9
                go_wp2_with fail
                refine (awake14_any _).mono ?_
                rintro e w9 ⟨rfl, hm9⟩
                go_wp2_with fail
                go_ret
                exact ⟨rfl, hm9⟩
            · clear hbb hc4
              go_enter Try.func9, Try.ntmps9
              go_wp2_with fail
              refine (awake14_any _).mono ?_
              rintro e w9 ⟨rfl, hm9⟩
              go_wp2_with fail
              go_ret
              exact ⟨rfl, hm9⟩
          · clear hbb hc3 hc4
            go_enter Try.func9, Try.ntmps9
            go_wp2_with fail
            refine (awake14_any _).mono ?_
            rintro e w9 ⟨rfl, hm9⟩
            go_wp2_with fail
            go_ret
            exact ⟨rfl, hm9⟩
        · clear hbb hc2 hc3 hc4
          go_enter Try.func9, Try.ntmps9
          go_wp2_with fail
          refine (awake14_any _).mono ?_
          rintro e w9 ⟨rfl, hm9⟩
          go_wp2_with fail
          go_ret
          exact ⟨rfl, hm9⟩
      · clear hbb hc1 hc2 hc3 hc4
        go_enter Try.func9, Try.ntmps9
        go_wp2_with fail
        refine (awake14_any _).mono ?_
        rintro e w9 ⟨rfl, hm9⟩
        go_wp2_with fail
        go_ret
        exact ⟨rfl, hm9⟩
    refine hend _ _ _ _ _ rfl rfl rfl rfl rfl ?_
    simp only [Bool.or_eq_true, decide_eq_true_eq]
    omega
  case neg =>
    have hyes := Decidable.not_not.1 hno
    obtain ⟨n, rfl⟩ := Int.eq_ofNat_of_zero_le (show 0 ≤ nv by omega)
    exact wless_all w n (by omega) (by omega) a ln c T hT hr (by omega) av bv cv kv mv (by omega)
end Go.Proofs.Ytnklgeekjkchbaa
