/- Law WitnessTrue. -/
import Derived.Test.YtnklgeekjkchbaaWLess14
import Derived.Test.YtnklgeekjkchbaaMade14b
import Derived.Test.YtnklgeekjkchbaaRN5
namespace Go.Proofs.Ytnklgeekjkchbaa
open Go.RowKit Mile
set_option maxRecDepth 100000
theorem findN_cut {L : List Ar} {v b e : Int} (hb : b ≠ v) (he : e ≠ v) : findN (cutN L v) b e = findN L b e := by
  unfold findN cutN
  rw [List.find?_filter]
  congr 1
  funext a
  by_cases h : a.f = b ∧ a.t = e
  · rw [decide_eq_true h]
    simp [h.1, h.2, hb, he]
  · rw [decide_eq_false h]; simp
theorem findN_cut_none {L : List Ar} {v b e : Int} (h : b = v ∨ e = v) : findN (cutN L v) b e = none := by
  cases hc : findN (cutN L v) b e with
  | none => rfl
  | some a =>
    obtain ⟨h1, h2, h3⟩ := findN_inv hc
    unfold cutN at h1
    have h4 := (List.mem_filter.1 h1).2
    simp at h4
    omega
/-- Without a number, or with all its arcs cut: as far. -/
theorem cut_far {n : Nat} {L : List Ar} {fr wo : Nat} {d : List Int} (hne : fr ≠ wo) (h : Fix (netW n L (fr : Int) (wo : Int)) d) : Fix (netW n (cutN L (wo : Int)) (fr : Int) (-1)) d := by
  have hwo : ¬ 0 ≤ dAt d wo := fun h0 => by
    rcases h.why wo h0 with ⟨⟨h1, _⟩, _⟩ | ⟨b, ⟨a, _, h2, _⟩, _⟩
    · omega
    · exact h2 rfl
  have hwt : ∀ e b : Nat, (b : Int) ≠ wo → (e : Int) ≠ wo → (netW n (cutN L (wo : Int)) (fr : Int) (-1)).wt e b = (netW n L (fr : Int) (wo : Int)).wt e b := fun e b hb he => by
    show (match findN (cutN L (wo : Int)) (b : Int) (e : Int) with | some a => a.w | none => 0) = (match findN L (b : Int) (e : Int) with | some a => a.w | none => 0)
    rw [findN_cut hb he]
  refine ⟨h.len, h.low, fun e he hm => h.st e ⟨he.1, by omega⟩ hm, fun e h0 => ?_, fun e b hr hb => ?_⟩
  · rcases h.why e h0 with ⟨⟨h1, h2⟩, h3⟩ | ⟨b, ⟨a, h1, h2, h3⟩, h4, h5⟩
    · exact .inl ⟨⟨h1, by omega⟩, h3⟩
    · have hb : (b : Int) ≠ wo := fun e2 => hwo (by have : b = wo := by omega
                                                    rw [← this]; exact h4)
      exact .inr ⟨b, ⟨a, by rw [findN_cut hb h2]; exact h1, by omega, h3⟩, h4, by rw [hwt e b hb h2]; exact h5⟩
  · obtain ⟨a, h1, h2, h3⟩ := hr
    by_cases hx : (b : Int) = wo ∨ (e : Int) = wo
    · rw [findN_cut_none hx] at h1; cases h1
    · have hbw : (b : Int) ≠ wo := fun x => hx (.inl x)
      have hew : (e : Int) ≠ wo := fun x => hx (.inr x)
      rw [findN_cut hbw hew] at h1
      rw [hwt e b hbw hew]
      exact h.shut e b ⟨a, h1, hew, h3⟩ hb
theorem found_all {n : Nat} {L : List Ar} {fr wo : Int} {d : List Int} (hf : Fix (netW n L fr wo) d) (tv : Nat) (mo : Int) : foundB d (tv : Int) mo n = decide (0 ≤ dAt d tv ∧ dAt d tv ≤ mo) := by
  unfold foundB
  rw [Int.toNat_natCast]
  apply decide_eq_decide.2
  exact ⟨fun h => ⟨h.2.1, h.2.2.1⟩, fun h => ⟨by omega, h.1, h.2, by have : rankN d tv < n := rankN_lt hf h.1; omega⟩⟩
theorem cut_ok {n : Nat} {L : List Ar} (h : NetOk n L) (v : Int) : NetOk n (cutN L v) := ⟨h.sort.filter _, fun b hb => h.may b (List.mem_filter.1 hb).1⟩
set_option maxHeartbeats 16000000 in
theorem wtrue_all (w : World) (n : Nat) (h0 : 2 ≤ n) (h40 : n ≤ 40) (a : Option Addr) (ln c : Nat) (T : List T3) (hT : T.length = ln) (hr : Rd w 3 (.slice a ln c) ln (T.flatMap c3T)) (hln : ln ≤ 120) (av bv cv kv sv : Int) :
    Calls Try.prog 7 #[.int .i64 (n : Int), .slice a ln c, .int .i64 av, .int .i64 bv, .int .i64 cv, .int .i64 kv, .int .i64 sv] w fun e w' => e = .returned (.bool true) ∧ Mod (fun _ => False) w w' := by
  obtain ⟨iI, hiI, hzI, hsI, hbI⟩ := info_parts Nt.infoI
  have y0 : decide ((n : Int) < 2) = false := by simp; omega
  have y1 : decide ((40 : Int) < (n : Int)) = false := by simp; omega
  have y2 : decide ((120 : Int) < (ln : Int)) = false := by simp; omega
  have y2n : decide (120 < ln) = false := by simp; omega
  have HMD := Lib.hid (made14_ap w n (by omega) a ln c T hT hr (by omega))
  have HW := Lib.hid (net14 n T)
  have hle := arcsR_len (n : Int) T
  have hle0 : (putAllN (arcsR (n : Int) T)).length ≤ 120 := by
    have h := (putAll_ok (arcsR (n : Int) T) [] (NetOk.nil n) (arcsR_may T)).2
    unfold putAllN
    simp only [List.length_nil] at h; omega
  obtain ⟨L, hL⟩ : ∃ L, putAllN (arcsR (n : Int) T) = L := ⟨_, rfl⟩
  rw [hL] at HMD HW hle0
  have hn0 : (0 : Int) < (n : Int) := by omega
  have hn1 : (n : Int) ≤ 4611686018427387904 := by omega
  obtain ⟨x, hx⟩ := Int.eq_ofNat_of_zero_le (Int.emod_nonneg av (b := (n : Int)) (by omega))
  obtain ⟨y, hy⟩ := Int.eq_ofNat_of_zero_le (Int.emod_nonneg bv (b := (n : Int)) (by omega))
  obtain ⟨z, hz⟩ := Int.eq_ofNat_of_zero_le (Int.emod_nonneg cv (b := (n : Int)) (by omega))
  obtain ⟨k, hk⟩ : ∃ k, kv % 100 = k := ⟨_, rfl⟩
  obtain ⟨s, hs⟩ : ∃ s, sv % ((n : Int) + 2) = s := ⟨_, rfl⟩
  have hk0 : 0 ≤ k ∧ k < 100 := by rw [← hk]; exact ⟨Int.emod_nonneg _ (by decide), Int.emod_lt_of_pos _ (by decide)⟩
  have hs0 : 0 ≤ s ∧ s < (n : Int) + 2 := by rw [← hs]; exact ⟨Int.emod_nonneg _ (by omega), Int.emod_lt_of_pos _ (by omega)⟩
  have hxn : x < n := by have := Int.emod_lt_of_pos av hn0; omega
  have hyn : y < n := by have := Int.emod_lt_of_pos bv hn0; omega
  have hzn : z < n := by have := Int.emod_lt_of_pos cv hn0; omega
  have hn2 : IntKind.i64.wrap ((n : Int) + 2) = (n : Int) + 2 := IntWalk.i64_in _ (by omega)
  have hk1 : IntKind.i64.wrap (k + 1) = k + 1 := IntWalk.i64_in _ (by omega)
  have hs1 : IntKind.i64.wrap (s + 1) = s + 1 := IntWalk.i64_in _ (by omega)
  have HRS := Lib.hid (fun W => round_any sv ((n : Int) + 2) W (by omega) (by omega))
  obtain ⟨dc, hdc⟩ := netW_ex n (by omega) L (x : Int) (z : Int)
  have HXY := Lib.hid (And.intro hx (And.intro hy (And.intro hz (And.intro hk hs))))
  have HDC := Lib.hid hdc
  have HLE := Lib.hid hle0
  have fin : ∀ wx, Mod (fun _ => False) w wx → Calls Try.prog 30 #[] wx fun e w' => e = .returned (.bool true) ∧ Mod (fun _ => False) w w' := fun wx hm => (awake14_any wx).mono fun e w' hh => ⟨hh.1, hm.of2 hh.2⟩
  have HFIN := Lib.hid fin
  obtain ⟨fb, hfb⟩ : ∃ b, foundB dc (y : Int) k s = b := ⟨_, rfl⟩
  have HFB := Lib.hid hfb
  have hf1 : fb = true → 0 ≤ dAt dc y ∧ dAt dc y ≤ k ∧ foundB dc (y : Int) (k + 1) (s + 1) = true := fun h => by
    rw [h] at hfb
    have := found_is hfb
    exact ⟨this.1, this.2, found_mono (by omega) (by omega) hfb⟩
  have HF1 := Lib.hid hf1
  have hall := found_all hdc y k
  obtain ⟨dv, hdv⟩ : ∃ v, dAt dc y = v := ⟨_, rfl⟩
  rw [hdv] at hall
  have HALL := Lib.hid hall
  have HDV := Lib.hid hdv
  clear hx hy hz hk hs hL hT hr hle hle0 hdc fin hfb hf1 hall hdv hk0 hs0
  go_enter Try.func7, Try.ntmps7
  go_wp2_with fail
  refine HMD.out.mono ?_
  rintro e w1 ⟨tp, F, m, rfl, hnt, hrn, hFw, hmw, hm1⟩
  have HN := Lib.hid hnt
  have HRN := Lib.hid hrn
  have HM1 := Lib.hid hm1
  have HAP := Lib.hid (And.intro hFw hmw)
  clear hnt hrn hm1 hFw hmw HMD y0 y1 y2 y2n
  go_wp2_with fail
  refine (round_any av n _ hn0 hn1).mono ?_
  rintro e wr ⟨rfl, rfl⟩
  rw [HXY.out.1]
  go_wp2_with fail
  refine (round_any bv n _ hn0 hn1).mono ?_
  rintro e wr ⟨rfl, rfl⟩
  rw [HXY.out.2.1]
  go_wp2_with fail
  refine (round_any cv n _ hn0 hn1).mono ?_
  rintro e wr ⟨rfl, rfl⟩
  rw [HXY.out.2.2.1]
  by_cases hxz : x = z
  case pos =>
    have z1 : ((x : Int) == (z : Int)) = true := by rw [hxz]; simp
    have z1n : (x == z) = true := by rw [hxz]; simp
    clear hxz
    go_wp2_with fail
    refine (HFIN.out _ HM1.out).mono ?_
    rintro e w9 ⟨rfl, hm9⟩
    go_wp2_with fail
    go_ret
    exact ⟨rfl, hm9⟩
  case neg =>
  have z1 : ((x : Int) == (z : Int)) = false := beq_eq_false_iff_ne.2 (by omega)
  by_cases hyz : y = z
  case pos =>
    have z2 : ((y : Int) == (z : Int)) = true := by rw [hyz]; simp
    clear hxz hyz
    go_wp2_with fail
    refine (HFIN.out _ HM1.out).mono ?_
    rintro e w9 ⟨rfl, hm9⟩
    go_wp2_with fail
    go_ret
    exact ⟨rfl, hm9⟩
  case neg =>
  have z2 : ((y : Int) == (z : Int)) = false := beq_eq_false_iff_ne.2 (by omega)
  have HXZ := Lib.hid hxz
  clear hxz hyz
  go_wp2_with fail
  refine (rn_cut HRN.out.rng (by have := HLE.out; omega) (z : Int)).mono ?_
  rintro e w2 ⟨rfl, hrn2, hm2⟩
  have HN2 := Lib.hid (HN.out.keep hm2 (fun k hk e => HAP.out.2.2 k hk e))
  have HM2 : Hid (Mod (fun _ => False) w w2) := Lib.hid (HM1.out.trans hm2 (fun _ _ e => e) (fun k hk e => by have h1 := HAP.out.2.1; have e2 : k = m := e; omega))
  have HRN2 := Lib.hid hrn2.rn
  clear hrn2 hm2
  go_wp2_with fail
  refine (rn_all HRN2.out (cut_ok HN.out.ok _) (fun a ha => HW.out a (List.mem_filter.1 ha).1) (by omega) (by have h1 := HLE.out; have h2 : (cutN L (z : Int)).length ≤ L.length := List.length_filter_le _ _; omega) (x : Int) dc (cut_far HXZ.out HDC.out)).mono ?_
  rintro e w3 ⟨ad, cd, rfl, ho3, hm3⟩
  have hr3 := Rd.ofOwn ho3
  have hdl : dc.length = n := HDC.out.len
  obtain ⟨eb, eo, hpe, _⟩ := hr3.place (j := y) (by omega)
  have hix := fun wx => run_indexS (P := Try.prog) wx 56 3 iI 1 Try.underlying56 hiI hsI ad n cd y hyn (hr3.some_ (by omega))
  have hcell : w3.cell? (elemA ad y 1) = some (.int .i64 (dc[y]'(by omega))) := hr3.elem (by rw [List.getElem?_map, List.getElem?_eq_getElem (by omega)]; rfl)
  rw [hpe] at hix hcell
  rw [← dAt_eq dc y (by omega), HDV.out] at hcell
  have HN3 := Lib.hid (HN2.out.later hm3)
  have HM3 := Lib.hid (HM2.out.of2 hm3)
  clear ho3 hr3 hpe hm3 hdl
  go_wp2_with fail
  refine (round_any kv 100 _ (by decide) (by decide)).mono ?_
  rintro e wr ⟨rfl, rfl⟩
  rw [HXY.out.2.2.2.1]
  go_wp2_with fail
  refine (HRS.out _).mono ?_
  rintro e wr ⟨rfl, rfl⟩
  rw [HXY.out.2.2.2.2]
  clear hcell hix
  go_wp2_with fail
  refine (wfind HN3.out HW.out (x : Int) (y : Int) (z : Int) k s dc HDC.out).mono ?_
  rintro e w4 ⟨rfl, hm4⟩
  rw [HFB.out]
  have HM4 := Lib.hid (HM3.out.of2 hm4)
  have HN4 := Lib.hid (HN3.out.later hm4)
  clear hm4
  obtain ⟨b1, hb1⟩ : ∃ b, decide (0 ≤ dv ∧ dv ≤ k) = b := ⟨_, rfl⟩
  have HB1 := Lib.hid hb1
  clear hb1
  cases fb with
  | false =>
    by_cases g1 : 0 ≤ dv
    · by_cases g2 : dv ≤ k
      · have u1 : decide (0 ≤ dv) = true := decide_eq_true g1
        have u2 : decide (dv ≤ k) = true := decide_eq_true g2
        obtain rfl : b1 = true := by rw [← HB1.out]; exact decide_eq_true ⟨g1, g2⟩
        clear g1 g2
        go_wp2_with fail
        refine (wfind HN4.out HW.out (x : Int) (y : Int) (z : Int) k n dc HDC.out).mono ?_
        rintro e w5 ⟨rfl, hm5⟩
        rw [HALL.out, HB1.out]
        have HM5 := Lib.hid (HM4.out.of2 hm5)
        clear hm5
        go_wp2_with fail
        refine (HFIN.out _ HM5.out).mono ?_
        rintro e w9 ⟨rfl, hm9⟩
        go_wp2_with fail
        go_ret
        exact ⟨rfl, hm9⟩
      · have u1 : decide (0 ≤ dv) = true := decide_eq_true g1
        have u2 : decide (dv ≤ k) = false := decide_eq_false g2
        obtain rfl : b1 = false := by rw [← HB1.out]; exact decide_eq_false (fun h => g2 h.2)
        clear g1 g2
        go_wp2_with fail
        refine (wfind HN4.out HW.out (x : Int) (y : Int) (z : Int) k n dc HDC.out).mono ?_
        rintro e w5 ⟨rfl, hm5⟩
        rw [HALL.out, HB1.out]
        have HM5 := Lib.hid (HM4.out.of2 hm5)
        clear hm5
        go_wp2_with fail
        refine (HFIN.out _ HM5.out).mono ?_
        rintro e w9 ⟨rfl, hm9⟩
        go_wp2_with fail
        go_ret
        exact ⟨rfl, hm9⟩
    · have u1 : decide (0 ≤ dv) = false := decide_eq_false g1
      obtain rfl : b1 = false := by rw [← HB1.out]; exact decide_eq_false (fun h => g1 h.1)
      clear g1
      go_wp2_with fail
      refine (wfind HN4.out HW.out (x : Int) (y : Int) (z : Int) k n dc HDC.out).mono ?_
      rintro e w5 ⟨rfl, hm5⟩
      rw [HALL.out, HB1.out]
      have HM5 := Lib.hid (HM4.out.of2 hm5)
      clear hm5
      go_wp2_with fail
      refine (HFIN.out _ HM5.out).mono ?_
      rintro e w9 ⟨rfl, hm9⟩
      go_wp2_with fail
      go_ret
      exact ⟨rfl, hm9⟩
  | true =>
    obtain ⟨g1, g2, g3⟩ := HF1.out rfl
    rw [HDV.out] at g1 g2
    have u0 : decide (dv < 0) = false := decide_eq_false (by omega)
    have u1 : decide (0 ≤ dv) = true := decide_eq_true g1
    have u2 : decide (dv ≤ k) = true := decide_eq_true g2
    have u3 : decide (k < dv) = false := decide_eq_false (by omega)
    obtain rfl : b1 = true := by rw [← HB1.out]; exact decide_eq_true ⟨g1, g2⟩
    have HG3 := Lib.hid g3
    clear g1 g2 g3
    go_wp2_with fail
    refine (wfind HN4.out HW.out (x : Int) (y : Int) (z : Int) k n dc HDC.out).mono ?_
    rintro e w5 ⟨rfl, hm5⟩
    rw [HALL.out, HB1.out]
    have HM5 := Lib.hid (HM4.out.of2 hm5)
    have HN5 := Lib.hid (HN4.out.later hm5)
    clear hm5
    go_wp2_with fail
    refine (wfind HN5.out HW.out (x : Int) (y : Int) (z : Int) (k + 1) (s + 1) dc HDC.out).mono ?_
    rintro e w6 ⟨rfl, hm6⟩
    rw [HG3.out]
    have HM6 := Lib.hid (HM5.out.of2 hm6)
    clear hm6
    go_wp2_with fail
    refine (HFIN.out _ HM6.out).mono ?_
    rintro e w9 ⟨rfl, hm9⟩
    go_wp2_with fail
    go_ret
    exact ⟨rfl, hm9⟩
set_option maxHeartbeats 8000000 in
theorem wtrue_law (w : World) (nv : Int) (_ : (Lit.int .i64 nv).wf = true) (a : Option Addr) (ln c : Nat) (T : List T3) (ok : (encSlice enc3).ok w (.slice a ln c, T)) (av : Int) (_ : (Lit.int .i64 av).wf = true) (bv : Int) (_ : (Lit.int .i64 bv).wf = true) (cv : Int) (_ : (Lit.int .i64 cv).wf = true) (kv : Int) (_ : (Lit.int .i64 kv).wf = true) (sv : Int) (_ : (Lit.int .i64 sv).wf = true) :
    Calls Try.prog 7 #[.int .i64 nv, .slice a ln c, .int .i64 av, .int .i64 bv, .int .i64 cv, .int .i64 kv, .int .i64 sv] w fun e w' => e = .returned (.bool true) ∧ Below w.heap.size w w' := by
  obtain ⟨hT, hr⟩ := ok_t3 ok
  suffices h : Calls Try.prog 7 #[.int .i64 nv, .slice a ln c, .int .i64 av, .int .i64 bv, .int .i64 cv, .int .i64 kv, .int .i64 sv] w fun e w' => e = .returned (.bool true) ∧ Mod (fun _ => False) w w' from
    h.mono fun e w' h => ⟨h.1, h.2.below (Nat.le_refl _) (fun _ e => e.elim)⟩
  by_cases hno : ¬ (2 ≤ nv ∧ nv ≤ 40 ∧ ln ≤ 120)
  case pos =>
    clear hr hT ok
    have hend : ∀ (b0 b1 b2 : Bool), decide (nv < 2) = b0 → decide (40 < nv) = b1 → decide (120 < (ln : Int)) = b2 → (b0 || b1 || b2) = true →
        Calls Try.prog 7 #[.int .i64 nv, .slice a ln c, .int .i64 av, .int .i64 bv, .int .i64 cv, .int .i64 kv, .int .i64 sv] w fun e w' => e = .returned (.bool true) ∧ Mod (fun _ => False) w w' := by
      intro b0 b1 b2 hc0 hc1 hc2 hbb
      clear hno
      cases b0
      · skip
        cases b1
        · skip
          cases b2
          · cases hbb
          · clear hbb 
            go_enter Try.func7, Try.ntmps7
            go_wp2_with fail
            refine (awake14_any _).mono ?_
            rintro e w9 ⟨rfl, hm9⟩
            go_wp2_with fail
            go_ret
            exact ⟨rfl, hm9⟩
        · clear hbb hc2
          go_enter Try.func7, Try.ntmps7
          go_wp2_with fail
          refine (awake14_any _).mono ?_
          rintro e w9 ⟨rfl, hm9⟩
          go_wp2_with fail
          go_ret
          exact ⟨rfl, hm9⟩
      · clear hbb hc1 hc2
        go_enter Try.func7, Try.ntmps7
        go_wp2_with fail
        refine (awake14_any _).mono ?_
        rintro e w9 ⟨rfl, hm9⟩
        go_wp2_with fail
        go_ret
        exact ⟨rfl, hm9⟩
    refine hend _ _ _ rfl rfl rfl ?_
    simp only [Bool.or_eq_true, decide_eq_true_eq]
    omega
  case neg =>
    have hyes := Decidable.not_not.1 hno
    obtain ⟨n, rfl⟩ := Int.eq_ofNat_of_zero_le (show 0 ≤ nv by omega)
    exact wtrue_all w n (by omega) (by omega) a ln c T hT hr (by omega) av bv cv kv sv
end Go.Proofs.Ytnklgeekjkchbaa
