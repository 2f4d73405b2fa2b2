/- Law WitnessFar. -/
import Derived.Test.YtnklgeekjkchbaaAwake14
import Derived.Test.YtnklgeekjkchbaaOpen3
namespace Go.Proofs.Ytnklgeekjkchbaa
open Go.RowKit Mile
set_option maxRecDepth 100000
/-- How far, as Far tells it. -/
def farV (d : List Int) (v : Nat) : Int := if 0 ≤ dAt d v then dAt d v else 0
def farB (d : List Int) (v : Nat) : Bool := decide (0 ≤ dAt d v)
theorem wfarN {w : World} {tp n : Nat} {L : List Ar} {F : Nat → Prop} (h : NT w tp n L F) (hw : ∀ a ∈ L, a.w ≤ 65535) (fr v : Nat) (d : List Int) (hf : Fix (netW n L (fr : Int) (-1)) d) {x : Int} {b : Bool} (hx : farV d v = x) (hb : farB d v = b) :
    Calls Try.prog 33 #[.pointer (some ⟨tp, 0, none⟩), .int .i64 (fr : Int), .int .i64 (v : Int)] w fun e w' => e = .returned (.tuple #[.int .i64 x, .bool b]) ∧ Mod (fun _ => False) w w' :=
  (wfar h hw fr v d hf).mono fun e w' hh => ⟨by rw [hh.1, ← hx, ← hb]; unfold farV farB; simp, hh.2⟩
theorem far_tri {n : Nat} {L : List Ar} {x y : Nat} {dx dy : List Int} (hx : Fix (netW n L (x : Int) (-1)) dx) (hy : Fix (netW n L (y : Int) (-1)) dy) (h0 : 0 ≤ dAt dx y) : ∀ (k : Nat) (z : Nat), dAt dy z ≤ k → 0 ≤ dAt dy z → 0 ≤ dAt dx z ∧ dAt dx z ≤ dAt dx y + dAt dy z := by
  intro k
  induction k using Nat.strongRecOn with
  | ind k ih =>
    intro z hk hz
    rcases hy.why z hz with ⟨⟨h1, _⟩, h2⟩ | ⟨b, h1, h2, h3⟩
    · have : z = y := by omega
      subst this; omega
    · have hw := ((netW n L (y : Int) (-1)).one z b h1).1
      obtain ⟨g1, g2⟩ := ih (k - 1) (by omega) b (by omega) h2
      have h1' : (netW n L (x : Int) (-1)).rl z b := h1
      obtain ⟨g3, g4⟩ := hx.shut z b h1' g1
      have he : (netW n L (x : Int) (-1)).wt z b = (netW n L (y : Int) (-1)).wt z b := rfl
      rw [he] at g4
      omega
theorem far_self {n : Nat} {L : List Ar} {x : Nat} {dx : List Int} (hx : Fix (netW n L (x : Int) (-1)) dx) (hn : x < n) : dAt dx x = 0 := hx.st x ⟨rfl, by omega⟩ hn
theorem far_arc {n : Nat} {L : List Ar} {x y : Nat} {dx : List Int} (hx : Fix (netW n L (x : Int) (-1)) dx) (hok : NetOk n L) (hw : ∀ a ∈ L, a.w ≤ 65535) (hn : x < n) {a : Ar} (ha : findN L (x : Int) (y : Int) = some a) : 0 ≤ dAt dx y ∧ dAt dx y ≤ a.w := by
  obtain ⟨h1, h2, h3⟩ := findN_inv ha
  have hr := netW_rl (fr := (x : Int)) (wo := -1) hok hw h1 (e := y) (b := x) h3 h2 (by omega)
  have hs := far_self hx hn
  have := hx.shut y x hr (by omega)
  rw [netW_wt hok.sort h1 h3 h2, hs] at this
  omega
theorem arcsL_w (n : Int) (T : List T3) : ∀ a ∈ arcsR n T, a.w ≤ 65535 := by
  intro b hb
  unfold arcsR at hb
  split at hb
  · obtain ⟨x, _, hx⟩ := List.mem_flatMap.1 hb
    unfold arcT at hx
    split at hx
    · cases hx
    · rw [List.mem_singleton] at hx
      subst hx
      have g6 := Int.emod_lt_of_pos x.2.2 (b := 20) (by omega)
      simp only; omega
  · cases hb
theorem mem_putAll (A : List Ar) : ∀ (L : List Ar) (b : Ar), b ∈ A.foldl putN L → b ∈ L ∨ b ∈ A := by
  induction A with
  | nil => intro L b hb; exact .inl hb
  | cons a A ih =>
    intro L b hb
    rcases ih (putN L a) b hb with h | h
    · unfold putN at h
      split at h
      · rcases mem_newN.1 h with rfl | ⟨h, _⟩
        · exact .inr List.mem_cons_self
        · exact .inl h
      · exact .inl h
    · exact .inr (List.mem_cons_of_mem _ h)
theorem net14 (n : Nat) (T : List T3) : ∀ a ∈ putAllN (arcsR (n : Int) T), a.w ≤ 65535 := fun a ha => arcsL_w (n : Int) T a ((mem_putAll _ [] a ha).elim (fun h => by cases h) id)
set_option maxHeartbeats 16000000 in
theorem wfar_all (w : World) (n : Nat) (h0 : 1 ≤ n) (h40 : n ≤ 40) (a : Option Addr) (ln c : Nat) (T : List T3) (hT : T.length = ln) (hr : Rd w 3 (.slice a ln c) ln (T.flatMap c3T)) (hln : ln ≤ 120) (av bv cv : Int) :
    Calls Try.prog 8 #[.int .i64 (n : Int), .slice a ln c, .int .i64 av, .int .i64 bv, .int .i64 cv] w fun e w' => e = .returned (.bool true) ∧ Mod (fun _ => False) w w' := by
  have y0 : decide ((n : Int) < 1) = false := by simp; omega
  have y1 : decide ((40 : Int) < (n : Int)) = false := by simp; omega
  have y2 : decide ((120 : Int) < (ln : Int)) = false := by simp; omega
  have y2n : decide (120 < ln) = false := by simp; omega
  have HMD := Lib.hid (made14_any w n (by omega) a ln c T hT hr (by omega))
  have HW := Lib.hid (net14 n T)
  obtain ⟨L, hL⟩ : ∃ L, putAllN (arcsR (n : Int) T) = L := ⟨_, rfl⟩
  rw [hL] at HMD HW
  have hn0 : (0 : Int) < (n : Int) := by omega
  have hn1 : (n : Int) ≤ 4611686018427387904 := by omega
  obtain ⟨x, hx⟩ := Int.eq_ofNat_of_zero_le (Int.emod_nonneg av (b := (n : Int)) (by omega))
  obtain ⟨y, hy⟩ := Int.eq_ofNat_of_zero_le (Int.emod_nonneg bv (b := (n : Int)) (by omega))
  obtain ⟨z, hz⟩ := Int.eq_ofNat_of_zero_le (Int.emod_nonneg cv (b := (n : Int)) (by omega))
  have hxn : x < n := by have := Int.emod_lt_of_pos av hn0; omega
  have hyn : y < n := by have := Int.emod_lt_of_pos bv hn0; omega
  have hzn : z < n := by have := Int.emod_lt_of_pos cv hn0; omega
  obtain ⟨dx, hdx⟩ := netW_ex n (by omega) L (x : Int) (-1)
  obtain ⟨dy, hdy⟩ := netW_ex n (by omega) L (y : Int) (-1)
  have HDX := Lib.hid hdx
  have HDY := Lib.hid hdy
  have tx := netW_top (by omega) hdx y
  have ty := netW_top (by omega) hdy z
  have HTRI := Lib.hid (far_tri hdx hdy)
  have hself := far_self hdx hxn
  have HXY := Lib.hid (And.intro hx (And.intro hy hz))
  obtain ⟨p, hp⟩ : ∃ r, farV dx y = r := ⟨_, rfl⟩
  obtain ⟨ok, hok⟩ : ∃ r, farB dx y = r := ⟨_, rfl⟩
  obtain ⟨q, hq⟩ : ∃ r, farV dy z = r := ⟨_, rfl⟩
  obtain ⟨is, his⟩ : ∃ r, farB dy z = r := ⟨_, rfl⟩
  obtain ⟨r, hr2⟩ : ∃ r, farV dx z = r := ⟨_, rfl⟩
  obtain ⟨may, hmay⟩ : ∃ r, farB dx z = r := ⟨_, rfl⟩
  have hs : farV dx x = 0 := by unfold farV; rw [hself]; rfl
  have hcan : farB dx x = true := by unfold farB; rw [hself]; rfl
  have k1 : ok = false → p = 0 := fun h => by rw [← hok] at h; unfold farB at h; rw [← hp]; unfold farV; exact if_neg (of_decide_eq_false h)
  have k2 : ok = true → is = true → may = true ∧ r ≤ p + q ∧ 0 ≤ p + q ∧ p + q ≤ 100000000 := fun h h' => by
    rw [← hok] at h; rw [← his] at h'
    unfold farB at h h'
    have g1 := of_decide_eq_true h
    have g2 := of_decide_eq_true h'
    have g3 := HTRI.out g1 (dAt dy z).toNat z (by omega) g2
    refine ⟨by rw [← hmay]; unfold farB; exact decide_eq_true g3.1, ?_⟩
    rw [← hr2, ← hp, ← hq]; unfold farV
    rw [if_pos g1, if_pos g2, if_pos g3.1]
    omega
  have k3 : NetOk n L → ∀ b, findN L (x : Int) (y : Int) = some b → ok = true ∧ p ≤ b.w := fun hk b hb => by
    have g := far_arc hdx hk HW.out hxn hb
    rw [← hok, ← hp]; unfold farB farV
    exact ⟨decide_eq_true g.1, by rw [if_pos g.1]; exact g.2⟩
  have HP := Lib.hid (And.intro hp (And.intro hok (And.intro hq (And.intro his (And.intro hr2 (And.intro hmay (And.intro hs hcan)))))))
  have HK := Lib.hid (And.intro k1 (And.intro k2 k3))
  clear k1 k2 k3 hp hok hq his hr2 hmay hs hcan hself tx ty hdx hdy hx hy hz hL hT hr hxn hyn hzn
  go_enter Try.func8, Try.ntmps8
  go_wp2_with fail
  refine HMD.out.mono ?_
  rintro e w1 ⟨tp, F, m, rfl, hnt, _, _, _, hm1⟩
  have HN := Lib.hid hnt
  have HM1 := Lib.hid hm1
  clear hnt hm1 HMD y0 y1 y2 y2n
  go_wp2_with fail
  refine (round_any av n _ hn0 hn1).mono ?_
  rintro e wr ⟨rfl, rfl⟩
  rw [HXY.out.1]
  go_wp2_with fail
  refine (round_any bv n _ hn0 hn1).mono ?_
  rintro e wr ⟨rfl, rfl⟩
  rw [HXY.out.2.1]
  go_wp2_with fail
  refine (round_any cv n _ hn0 hn1).mono ?_
  rintro e wr ⟨rfl, rfl⟩
  rw [HXY.out.2.2]
  go_wp2_with fail
  refine (wfarN HN.out HW.out x y dx HDX.out HP.out.1 HP.out.2.1).mono ?_
  rintro e w2 ⟨rfl, hm⟩
  have HM2 := Lib.hid hm
  clear hm
  go_wp2_with fail
  refine (wfarN (HN.out.later HM2.out) HW.out y z dy HDY.out HP.out.2.2.1 HP.out.2.2.2.1).mono ?_
  rintro e w3 ⟨rfl, hm⟩
  have HM3 := Lib.hid (HM2.out.of2 hm)
  clear hm HM2
  go_wp2_with fail
  refine (wfarN (HN.out.later HM3.out) HW.out x z dx HDX.out HP.out.2.2.2.2.1 HP.out.2.2.2.2.2.1).mono ?_
  rintro e w4 ⟨rfl, hm⟩
  have HM4 := Lib.hid (HM3.out.of2 hm)
  clear hm HM3
  go_wp2_with fail
  refine (wfarN (HN.out.later HM4.out) HW.out x x dx HDX.out HP.out.2.2.2.2.2.2.1 HP.out.2.2.2.2.2.2.2).mono ?_
  rintro e w5 ⟨rfl, hm⟩
  have HM5 := Lib.hid (HM4.out.of2 hm)
  clear hm HM4
  go_wp2_with fail
  refine (nt_arc (HN.out.later HM5.out) (x : Int) (y : Int)).mono ?_
  rintro e w6 ⟨rfl, hm⟩
  have HM6 := Lib.hid (HM1.out.of2 (HM5.out.of2 hm))
  clear hm HM5
  have HK3 := Lib.hid (HK.out.2.2 HN.out.ok)
  have fin : ∀ wx, Mod (fun _ => False) w wx → Calls Try.prog 30 #[] wx fun e w' => e = .returned (.bool true) ∧ Mod (fun _ => False) w w' := fun wx hm => (awake14_any wx).mono fun e w' hh => ⟨hh.1, hm.of2 hh.2⟩
  have HFIN := Lib.hid fin
  clear fin
  cases hfa : findN L (x : Int) (y : Int) with
  | none =>
    have HA := Lib.hid hfa
    unfold arcV
    clear hfa
    have HMA : Hid (Mod (fun _ => False) w (w6.alloc (.cells #[.int .i64 0, .int .i64 0, .int .i64 0, .int .i64 0] 32))) := Lib.hid (HM6.out.of2 (Mod.alloc _ _ _))
    cases ok
    · skip
      have hp0 := HK.out.1 rfl
      subst hp0
      go_wp2_with fail
      refine (HFIN.out _ HMA.out).mono ?_
      rintro e w9 ⟨rfl, hm9⟩
      go_wp2_with fail
      go_ret
      exact ⟨rfl, hm9⟩
    · cases is
      · skip
        go_wp2_with fail
        refine (HFIN.out _ HMA.out).mono ?_
        rintro e w9 ⟨rfl, hm9⟩
        go_wp2_with fail
        go_ret
        exact ⟨rfl, hm9⟩
      · skip
        obtain ⟨rfl, g1, g2, g3⟩ := HK.out.2.1 rfl rfl
        have u2 : decide (r ≤ p + q) = true := decide_eq_true g1
        have u3 : IntKind.i64.wrap (p + q) = p + q := IntWalk.i64_in _ (by omega)
        clear g1 g2 g3
        go_wp2_with fail
        refine (HFIN.out _ HMA.out).mono ?_
        rintro e w9 ⟨rfl, hm9⟩
        go_wp2_with fail
        go_ret
        exact ⟨rfl, hm9⟩
  | some b =>
    obtain ⟨b1, b2, b3, b4⟩ := b
    obtain ⟨hok1, hpb⟩ := HK3.out _ hfa
    simp only at hpb
    unfold arcV arV
    clear hfa
    have HMA : Hid (Mod (fun _ => False) w (w6.alloc (.cells #[.int .i64 b1, .int .i64 b2, .int .i64 b3, .int .i64 b4] 32))) := Lib.hid (HM6.out.of2 (Mod.alloc _ _ _))
    subst hok1
    have u1 : decide (p ≤ b3) = true := decide_eq_true hpb
    clear hpb
    cases is
    · skip
      go_wp2_with fail
      refine (HFIN.out _ HMA.out).mono ?_
      rintro e w9 ⟨rfl, hm9⟩
      go_wp2_with fail
      go_ret
      exact ⟨rfl, hm9⟩
    · skip
      obtain ⟨rfl, g1, g2, g3⟩ := HK.out.2.1 rfl rfl
      have u2 : decide (r ≤ p + q) = true := decide_eq_true g1
      have u3 : IntKind.i64.wrap (p + q) = p + q := IntWalk.i64_in _ (by omega)
      clear g1 g2 g3
      go_wp2_with fail
      refine (HFIN.out _ HMA.out).mono ?_
      rintro e w9 ⟨rfl, hm9⟩
      go_wp2_with fail
      go_ret
      exact ⟨rfl, hm9⟩
set_option maxHeartbeats 8000000 in
theorem wfar_law (w : World) (nv : Int) (_ : (Lit.int .i64 nv).wf = true) (a : Option Addr) (ln c : Nat) (T : List T3) (ok : (encSlice enc3).ok w (.slice a ln c, T)) (av : Int) (_ : (Lit.int .i64 av).wf = true) (bv : Int) (_ : (Lit.int .i64 bv).wf = true) (cv : Int) (_ : (Lit.int .i64 cv).wf = true) :
    Calls Try.prog 8 #[.int .i64 nv, .slice a ln c, .int .i64 av, .int .i64 bv, .int .i64 cv] w fun e w' => e = .returned (.bool true) ∧ Below w.heap.size w w' := by
  obtain ⟨hT, hr⟩ := ok_t3 ok
  suffices h : Calls Try.prog 8 #[.int .i64 nv, .slice a ln c, .int .i64 av, .int .i64 bv, .int .i64 cv] w fun e w' => e = .returned (.bool true) ∧ Mod (fun _ => False) w w' from
    h.mono fun e w' h => ⟨h.1, h.2.below (Nat.le_refl _) (fun _ e => e.elim)⟩
  by_cases hno : ¬ (1 ≤ nv ∧ nv ≤ 40 ∧ ln ≤ 120)
  case pos =>
    clear hr hT ok
    have hend : ∀ (b0 b1 b2 : Bool), decide (nv < 1) = b0 → decide (40 < nv) = b1 → decide (120 < (ln : Int)) = b2 → (b0 || b1 || b2) = true →
        Calls Try.prog 8 #[.int .i64 nv, .slice a ln c, .int .i64 av, .int .i64 bv, .int .i64 cv] w fun e w' => e = .returned (.bool true) ∧ Mod (fun _ => False) w w' := by
      intro b0 b1 b2 hc0 hc1 hc2 hbb
      clear hno
      cases b0
      · skip
        cases b1
        · skip
          cases b2
          · cases hbb
          · clear hbb 
            go_enter Try.func8, Try.ntmps8
            go_wp2_with fail
            refine (awake14_any _).mono ?_
            rintro e w9 ⟨rfl, hm9⟩
            go_wp2_with fail
            go_ret
            exact ⟨rfl, hm9⟩
        · clear hbb hc2
          go_enter Try.func8, Try.ntmps8
          go_wp2_with fail
          refine (awake14_any _).mono ?_
          rintro e w9 ⟨rfl, hm9⟩
          go_wp2_with fail
          go_ret
          exact ⟨rfl, hm9⟩
      · clear hbb hc1 hc2
        go_enter Try.func8, Try.ntmps8
        go_wp2_with fail
        refine (awake14_any _).mono ?_
        rintro e w9 ⟨rfl, hm9⟩
        go_wp2_with fail
        go_ret
        exact ⟨rfl, hm9⟩
    refine hend _ _ _ rfl rfl rfl ?_
    simp only [Bool.or_eq_true, decide_eq_true_eq]
    omega
  case neg =>
    have hyes := Decidable.not_not.1 hno
    obtain ⟨n, rfl⟩ := Int.eq_ofNat_of_zero_le (show 0 ≤ nv by omega)
    exact wfar_all w n (by omega) (by omega) a ln c T hT hr (by omega) av bv cv
end Go.Proofs.Ytnklgeekjkchbaa
