/- UnpackTells by contract. -/
import Derived.Test.YtjjedebjbgpimaaGreatAw17
import Derived.Test.YtjjedebjbgpimaaGreatIRowP
namespace Go.Proofs.YtjjedebjbgpimaaGreat
open Go.RowKit Mile
set_option maxRecDepth 100000
theorem ok_il17 {w : World} {a : Option Addr} {n c : Nat} {bs : List Int} (ok : (encSlice (encInt .i64)).ok w (.slice a n c, bs)) : bs.length = n ∧ Rd w 1 (.slice a n c) n (bs.map (Value.int .i64)) ∧ ∀ x ∈ bs, (Lit.int .i64 x).wf = true := ok_ints ok

structure Lv17 (n : Nat) (L T : List Ar) (V : List Nat) : Prop where
 hL : NetOk n L
 hT : NetOk n T
 hD : UnOk T (depA V) n
 hin : ∀ a ∈ T, a.m < 0 → a ∈ L
 few : T.length ≤ 400
theorem lv17 {P : List Ar → Nat → Int → List Int} {n : Nat} (h20 : n ≤ 20) (T0 : List T3) : Lv17 n (net17 n T0) (bAt n P (net17 n T0) n).T (bAt n P (net17 n T0) n).V := by
 have hok := net17_ok n T0
 have htok := (bAt_ok P hok n (Nat.le_refl _)).tok
 have hnn : n * n ≤ 20 * 20 := Nat.mul_le_mul h20 h20
 exact ⟨hok, htok, un_ok hok (net17_m n T0), bAt_in17 hok, by have := net_len htok; omega⟩
set_option maxHeartbeats 64000000 in
theorem utells_all (w : World) (n : Nat) (h20 : n ≤ 20) (a : Option Addr) (ln c : Nat) (T0 : List T3) (hT0 : T0.length = ln) (hr : Rd w 3 (.slice a ln c) ln (T0.flatMap c3T)) (hln : ln ≤ 60) (sa : Option Addr) (sn sc : Nat) (st : List Int) (hst : st.length = sn) (hrs : Rd w 1 (.slice sa sn sc) sn (st.map (Value.int .i64))) (hsn : sn ≤ 10) (hwf : ∀ x ∈ st, (Lit.int .i64 x).wf = true) :
  Calls Tryz.prog 6 #[.int .i64 (n : Int), .slice a ln c, .slice sa sn sc] w fun e w' => e = .returned (.bool true) ∧ Mod (fun _ => False) w w' := by
 have y0 : decide ((n : Int) < 0) = false := by simp
 have y1 : decide ((20 : Int) < (n : Int)) = false := by simp; omega
 have y2 : decide ((60 : Int) < (ln : Int)) = false := by simp; omega
 have y2n : decide (60 < ln) = false := by simp; omega
 have y3 : decide ((10 : Int) < (sn : Int)) = false := by simp; omega
 have y3n : decide (10 < sn) = false := by simp; omega
 obtain ⟨P, hP⟩ := pick17 n (by omega)
 have HBU := Lib.hid (built17_any w n (by omega) a ln c T0 hT0 hr (by omega) P hP)
 have h17 := lv17 (P := P) h20 T0
 obtain ⟨L, hL⟩ : ∃ L, net17 n T0 = L := ⟨_, rfl⟩
 unfold Bu17P at HBU
 rw [hL] at HBU h17
 obtain ⟨T, hTT⟩ : ∃ y, (bAt n P L n).T = y := ⟨_, rfl⟩
 obtain ⟨V, hVV⟩ : ∃ y, (bAt n P L n).V = y := ⟨_, rfl⟩
 rw [hTT, hVV] at HBU h17
 have HA := Lib.hid (fun (W : World) (p : Nat) (F : Nat → Prop) (h : LO W p n T V F) (f t : Int) (hf : -1 ≤ f ∧ f ≤ 20) (ht : -1 ≤ t ∧ t ≤ 20) => uarc_any h (by omega) h17.hT h17.hL h17.hD h20 h17.hin f t ⟨(i64_wf _).2 (by omega), (i64_wf _).2 (by omega)⟩)
 have HR := Lib.hid (fun (W : World) (p : Nat) (F : Nat → Prop) (h : LO W p n T V F) (hr : Rd W 1 (.slice sa sn sc) sn (st.map (Value.int .i64))) => urowp_any h (by omega) h17.hT h17.hL h17.hD h20 h17.hin sa sn sc st hst hr (by omega) hwf)
 have HRA1 := Lib.hid (fun (W : World) (p2 tq rd : Nat) (h : RL W p2 tq rd n T V) (f t : Int) (r : List Int) (hu : unL T (n + 1) f t = some r) => (rus_some h17.hT h17.hL h17.hD h20 h17.hin (by have := h17.few; omega) h hu).mono (R' := fun e w' => ∃ ax cx, e = .returned (.tuple #[.slice ax r.length cx, .bool true]) ∧ Rd w' 1 (.slice ax r.length cx) r.length (r.map (Value.int .i64)) ∧ Mod (fun _ => False) W w') (fun e w' h => by
  obtain ⟨v, rfl, ⟨ax, cx, rfl, h2⟩, h3⟩ := h; exact ⟨ax, cx, rfl, h2, h3⟩))
 have HRA0 := Lib.hid (fun (W : World) (p2 tq rd : Nat) (h : RL W p2 tq rd n T V) (f t : Int) (hu : unL T (n + 1) f t = none) => rus_none h17.hT h17.hL h17.hD h17.hin (by have := h17.few; omega) h hu)
 have HRR := Lib.hid (fun (W : World) (p2 tq rd : Nat) (h : RL W p2 tq rd n T V) (hr : Rd W 1 (.slice sa sn sc) sn (st.map (Value.int .i64))) => rrow_any h h17.hT h17.hL h17.hD h20 h17.hin (by have := h17.few; omega) sa sn sc st hst hr (by omega))
 have HRS := Lib.hid hrs
 have HST := Lib.hid (show st.length ≤ 10 by omega)
 clear hT0 hr hP h17 hL hTT hVV hst hrs hwf
 go_enter Tryz.func6, Tryz.ntmps6
 go_wp2_with fail
 refine HBU.out.mono ?_
 rintro e w1 ⟨p, F, p2, tq, rd, m, rfl, hlo, hrl, _, hm⟩
 have HLO := Lib.hid (And.intro hlo (And.intro hrl hm))
 clear HBU hlo hrl hm y0 y1 y2 y2n y3 y3n
 go_wp2_with fail
 go_loopw [10] (fun va wr => ∃ i : Int, -1 ≤ i ∧ i ≤ (n : Int) + 1 ∧ va = .int .i64 i ∧ Mod (fun _ => False) w1 wr) (fun va _ => ((n : Int) + 1 - intOf va).toNat)
 case atStart => exact ⟨-1, by omega, by omega, rfl, Mod.refl _ _⟩
 case round =>
  obtain ⟨i, hi0, hi1, rfl, hmr⟩ := hrel
  by_cases hlt : i ≤ (n : Int)
  case pos =>
   have z0 : decide (i ≤ (n : Int)) = true := by simp; omega
   have HMR := Lib.hid hmr
   clear hmr
   go_wp2_with fail
   go_loopw [11] (fun vb wr2 => ∃ j : Int, -1 ≤ j ∧ j ≤ (n : Int) + 1 ∧ vb = .int .i64 j ∧ Mod (fun _ => False) w1 wr2) (fun vb _ => ((n : Int) + 1 - intOf vb).toNat)
   case atStart => exact ⟨-1, by omega, by omega, rfl, HMR.out⟩
   case round =>
    clear HMR
    obtain ⟨j, hj0, hj1, rfl, hmr⟩ := hrel
    by_cases hlj : j ≤ (n : Int)
    case pos =>
     have z1 : decide (j ≤ (n : Int)) = true := by simp; omega
     have HMR := Lib.hid hmr
     clear hmr
     go_wp2_with fail
     refine (HA.out _ p F (HLO.out.1.later HMR.out) i j ⟨by omega, by omega⟩ ⟨by omega, by omega⟩).mono ?_
     rintro e w2 (⟨r, ax, cx, hu, hl2, hl3, rfl, ho, hm2⟩ | ⟨hu, rfl, hm2⟩)
     ·
      have HU := Lib.hid (And.intro hu (And.intro (Rd.ofOwn ho) hm2))
      clear hu ho hm2
      go_wp2_with fail
      refine (HRA1.out _ p2 tq rd (HLO.out.2.1.later (HMR.out.of2 HU.out.2.2)) i j r HU.out.1).mono ?_
      rintro e w3 ⟨ay, cy, rfl, hry, hm3⟩
      have HV := Lib.hid (And.intro hry hm3)
      clear hry hm3
      go_wp2_with fail
      refine (ints_any _ ax r.length cx r rfl (HU.out.2.1.keep HV.out.2 (fun _ _ e => e)) ay r.length cy r rfl HV.out.1 (by omega)).mono ?_
      rintro e w4 ⟨rfl, kd, hkd⟩
      have HD := Lib.hid (show Mod (fun _ => False) w3 w4 by rw [hkd]; exact Mod.drewN _ _ _)
      have hdt : decide (r = r) = true := by simp
      rw [hdt]
      clear hkd
      go_wp2_with fail
      go_roundw
      case rel => exact ⟨j + 1, by omega, by omega, rfl, ((HMR.out.of2 HU.out.2.2).of2 HV.out.2).of2 HD.out⟩
      case measure => simp only [intOf]; omega
     ·
      have HU := Lib.hid (And.intro hu hm2)
      clear hu hm2
      go_wp2_with fail
      refine (HRA0.out _ p2 tq rd (HLO.out.2.1.later (HMR.out.of2 HU.out.2)) i j HU.out.1).mono ?_
      rintro e w3 ⟨rfl, hm3⟩
      have HV := Lib.hid hm3
      clear hm3
      go_wp2_with fail
      refine (ints_any _ none 0 0 [] rfl (Rd.ofOwn (World.ownsRow_nil _ 0 3 1)) none 0 0 [] rfl (Rd.ofOwn (World.ownsRow_nil _ 0 3 1)) (by omega)).mono ?_
      rintro e w4 ⟨rfl, kd, hkd⟩
      have HD := Lib.hid (show Mod (fun _ => False) w3 w4 by rw [hkd]; exact Mod.drewN _ _ _)
      clear hkd
      go_wp2_with fail
      go_roundw
      case rel => exact ⟨j + 1, by omega, by omega, rfl, ((HMR.out.of2 HU.out.2).of2 HV.out).of2 HD.out⟩
      case measure => simp only [intOf]; omega
    case neg =>
     have z1 : decide (j ≤ (n : Int)) = false := by simp; omega
     have HMR := Lib.hid hmr
     clear hmr
     go_wp2_with fail
     go_roundw
     case rel => exact ⟨i + 1, by omega, by omega, rfl, HMR.out⟩
     case measure => simp only [intOf]; omega
  case neg =>
   have z0 : decide (i ≤ (n : Int)) = false := by simp; omega
   have HMR := Lib.hid (HLO.out.2.2.of2 hmr)
   have HMS := Lib.hid hmr
   clear hmr
   go_wp2_with fail
   refine (HR.out _ p F (HLO.out.1.later HMS.out) (HRS.out.keep HMR.out (fun _ _ e => e))).mono ?_
   rintro e w2 (⟨o, ax, cx, hu, hol, rfl, ho, hm2⟩ | ⟨hu, rfl, hm2⟩)
   ·
    have HU := Lib.hid (And.intro hu (And.intro ho (And.intro hm2 (show o.length ≤ 1000000000 by have := HST.out; omega))))
    clear hu ho hm2 hol
    go_wp2_with fail
    refine (HRR.out _ p2 tq rd (HLO.out.2.1.later (HMS.out.of2 HU.out.2.2.1)) (HRS.out.keep (HMR.out.of2 HU.out.2.2.1) (fun _ _ e => e))).mono ?_
    rintro e w3 (⟨o2, ay, cy, hu2, rfl, hry, hm3⟩ | ⟨hu2, _⟩)
    ·
     have h1 := HU.out.1
     rw [hu2] at h1
     obtain rfl := Option.some.inj h1
     have HV := Lib.hid (And.intro hry hm3)
     clear hry hm3 hu2 h1
     go_wp2_with fail
     refine (ints_any _ ax o2.length cx o2 rfl (HU.out.2.1.keep HV.out.2 (fun _ _ e => e)) ay o2.length cy o2 rfl HV.out.1 HU.out.2.2.2).mono ?_
     rintro e w4 ⟨rfl, kd, hkd⟩
     have HD := Lib.hid (show Mod (fun _ => False) w3 w4 by rw [hkd]; exact Mod.drewN _ _ _)
     have hdt : decide (o2 = o2) = true := by simp
     rw [hdt]
     clear hkd
     go_wp2_with fail
     refine (awake17_any _).mono ?_
     rintro e w5 ⟨rfl, hm5⟩
     have H5 := Lib.hid hm5
     clear hm5
     go_wp2_with fail
     go_ret
     exact ⟨rfl, (((HMR.out.of2 HU.out.2.2.1).of2 HV.out.2).of2 HD.out).of2 H5.out⟩
    ·
     have h1 := HU.out.1
     rw [hu2] at h1
     cases h1
   ·
    have HU := Lib.hid (And.intro hu hm2)
    clear hu hm2
    go_wp2_with fail
    refine (HRR.out _ p2 tq rd (HLO.out.2.1.later (HMS.out.of2 HU.out.2)) (HRS.out.keep (HMR.out.of2 HU.out.2) (fun _ _ e => e))).mono ?_
    rintro e w3 (⟨o2, ay, cy, hu2, _⟩ | ⟨hu2, rfl, hm3⟩)
    ·
     have h1 := HU.out.1
     rw [hu2] at h1
     cases h1
    ·
     have HV := Lib.hid hm3
     clear hm3 hu2
     go_wp2_with fail
     refine (ints_any _ none 0 0 [] rfl (Rd.ofOwn (World.ownsRow_nil _ 0 3 1)) none 0 0 [] rfl (Rd.ofOwn (World.ownsRow_nil _ 0 3 1)) (by omega)).mono ?_
     rintro e w4 ⟨rfl, kd, hkd⟩
     have HD := Lib.hid (show Mod (fun _ => False) w3 w4 by rw [hkd]; exact Mod.drewN _ _ _)
     clear hkd
     go_wp2_with fail
     refine (awake17_any _).mono ?_
     rintro e w5 ⟨rfl, hm5⟩
     have H5 := Lib.hid hm5
     clear hm5
     go_wp2_with fail
     go_ret
     exact ⟨rfl, (((HMR.out.of2 HU.out.2).of2 HV.out).of2 HD.out).of2 H5.out⟩

theorem utells_law (w : World) (nv : Int) (_ : (Lit.int .i64 nv).wf = true) (a : Option Addr) (ln c : Nat) (T : List T3) (ok : (encSlice enc3).ok w (.slice a ln c, T)) (sa : Option Addr) (sn sc : Nat) (st : List Int) (ok2 : (encSlice (encInt .i64)).ok w (.slice sa sn sc, st)) :
  Calls Tryz.prog 6 #[.int .i64 nv, .slice a ln c, .slice sa sn sc] w fun e w' => e = .returned (.bool true) ∧ Below w.heap.size w w' := by
 obtain ⟨hT, hr⟩ := ok_t3 ok
 obtain ⟨hst, hrs, hwf⟩ := ok_il17 ok2
 suffices h : Calls Tryz.prog 6 #[.int .i64 nv, .slice a ln c, .slice sa sn sc] w fun e w' => e = .returned (.bool true) ∧ Mod (fun _ => False) w w' from
  h.mono fun e w' h => ⟨h.1, h.2.below (Nat.le_refl _) (fun _ e => e.elim)⟩
 by_cases hno : ¬ (0 ≤ nv ∧ nv ≤ 20 ∧ ln ≤ 60 ∧ sn ≤ 10)
 case pos =>
  clear hr hT ok ok2 hst hrs hwf
  have hend : ∀ (b0 b1 b2 b3 : Bool), decide (nv < 0) = b0 → decide (20 < nv) = b1 → decide (60 < (ln : Int)) = b2 → decide (10 < (sn : Int)) = b3 → (b0 || b1 || b2 || b3) = true →
    Calls Tryz.prog 6 #[.int .i64 nv, .slice a ln c, .slice sa sn sc] w fun e w' => e = .returned (.bool true) ∧ Mod (fun _ => False) w w' := by
   intro b0 b1 b2 b3 hc0 hc1 hc2 hc3 hbb
   clear hno
   cases b0
   ·
    skip
    cases b1
    ·
     skip
     cases b2
     ·
      skip
      cases b3
      ·
       cases hbb
      ·
       clear hbb 
       go_enter Tryz.func6, Tryz.ntmps6
       go_wp2_with fail
       refine (awake17_any _).mono ?_
       rintro e w9 ⟨rfl, hm9⟩
       go_wp2_with fail
       go_ret
       exact ⟨rfl, hm9⟩
     ·
      clear hbb hc3
      go_enter Tryz.func6, Tryz.ntmps6
      go_wp2_with fail
      refine (awake17_any _).mono ?_
      rintro e w9 ⟨rfl, hm9⟩
      go_wp2_with fail
      go_ret
      exact ⟨rfl, hm9⟩
    ·
     clear hbb hc2 hc3
     go_enter Tryz.func6, Tryz.ntmps6
     go_wp2_with fail
     refine (awake17_any _).mono ?_
     rintro e w9 ⟨rfl, hm9⟩
     go_wp2_with fail
     go_ret
     exact ⟨rfl, hm9⟩
   ·
    clear hbb hc1 hc2 hc3
    go_enter Tryz.func6, Tryz.ntmps6
    go_wp2_with fail
    refine (awake17_any _).mono ?_
    rintro e w9 ⟨rfl, hm9⟩
    go_wp2_with fail
    go_ret
    exact ⟨rfl, hm9⟩
  refine hend _ _ _ _ rfl rfl rfl rfl ?_
  simp only [Bool.or_eq_true, decide_eq_true_eq]
  omega
 case neg =>
  have hyes := Decidable.not_not.1 hno
  obtain ⟨n, rfl⟩ := Int.eq_ofNat_of_zero_le (show 0 ≤ nv by omega)
  exact utells_all w n (by omega) a ln c T hT hr (by omega) sa sn sc st hst hrs (by omega) hwf

end Go.Proofs.YtjjedebjbgpimaaGreat
