/- ShutsAlone walked. -/
import Derived.Test.YthlpednakhjmhaaAwake10
import Derived.Test.YthlpednakhjmhaaAloneP
import Derived.Test.YthlpednakhjmhaaRegion2
import Derived.Deep.DeepCutAuto
import Derived.Deep.CutBlock
namespace Go.Proofs.Ythlpednakhjmhaa
open Go.RowKit Mile
set_option maxRecDepth 100000
/-- Behind what is done with an edge. -/
def AlCut (w0 : World) (p : Nat) (us : List Int) (ee uu : Nat) (wx : World) : Prop := SO wx p 6 (us.set ee (uu : Int)) ∧ Mod (fun k => k = p) w0 wx
/-- What each operation of the statement leaves. -/
def al_r11_0_F (a : Option Addr) (m : Nat) (c : Nat) (ee : Nat) (uu : Nat) (j : Nat) (x : Int) (y : Int) (eb : Nat) (eo : Nat) : List (Value → World → Prop) :=
  [IsV (.slice a m c),
   IsV (.int .i64 (j : Int)),
   IsV (.pointer (some ⟨eb, eo, none⟩)),
   IsV (.pointer (some ⟨eb, eo, none⟩)),
   IsV (.int .i64 x),
   IsV (.int .i64 (ee : Int)),
   IsV (.slice a m c),
   IsV (.int .i64 (j : Int)),
   IsV (.pointer (some ⟨eb, eo, none⟩)),
   IsV (.pointer (some ⟨eb, (eo + 1), none⟩)),
   IsV (.int .i64 y),
   IsV (.int .i64 (uu : Int)),
   IsV (.int .i64 (ee : Int)),
   IsV (.int .i64 (uu : Int))]
def al_r11_0_D : List (List Nat) := [[], [], [0, 1], [2], [3], [4], [], [], [6, 7], [8], [9], [10], [5], [11]]

/-- What each operation of the statement leaves. -/
def al_r28_1_F (kk : Nat) (mine : Int) (al : Option Addr) (n3 : Nat) (cl : Nat) (q : Nat) (q1 : Nat) (tq : Nat) (vq : Int) (gb : Nat) (go_ : Nat) (tp : Nat) (hb : Nat) (ho : Nat) : List (Value → World → Prop) :=
  [IsV (.int .i64 (q : Int)),
   IsV (.bool true),
   IsV (.bool true),
   IsV (.slice al n3 cl),
   IsV (.int .i64 (q : Int)),
   IsV (.int .i64 (q1 : Int)),
   IsV (.pointer (some ⟨hb, ho, none⟩)),
   IsV (.pointer (some ⟨hb, ho, none⟩)),
   IsV (.int .i64 (tp : Int)),
   IsV (.slice al n3 cl),
   IsV (.int .i64 (q : Int)),
   IsV (.pointer (some ⟨gb, go_, none⟩)),
   IsV (.pointer (some ⟨gb, go_, none⟩)),
   IsV (.int .i64 (tq : Int)),
   IsV (.bool false),
   IsV (.bool false),
   IsV (.bool false),
   IsV (.slice al n3 cl),
   IsV (.int .i64 (q : Int)),
   IsV (.pointer (some ⟨gb, go_, none⟩)),
   IsV (.pointer (some ⟨gb, go_, none⟩)),
   IsV (.int .i64 (tq : Int)),
   IsV (.int .i64 (kk : Int)),
   IsV (.bool true),
   IsV (.bool true),
   IsV (.slice al n3 cl),
   IsV (.int .i64 (q : Int)),
   IsV (.pointer (some ⟨gb, go_, none⟩)),
   IsV (.pointer (some ⟨gb, go_ + 1, none⟩)),
   IsV (.int .i64 vq),
   IsV (.int .i64 mine),
   IsV (.bool false),
   IsV (.bool false),
   IsV (.bool false)]
def al_r28_1_D : List (List Nat) := [[], [0], [1], [2], [2], [2, 4], [2, 3, 5], [2, 6], [2, 7], [2], [2], [2, 9, 10], [2, 11], [2, 12], [2, 8, 13], [2, 14], [15], [16], [16], [16, 17, 18], [16, 19], [16, 20], [16], [16, 21, 22], [16, 23], [24], [24], [24, 25, 26], [24, 27], [24, 28], [24], [24, 29, 30], [16, 24, 31], [16, 32]]

/-- What each operation of the statement leaves. -/
def al_r28_2_F (kk : Nat) (al : Option Addr) (n3 : Nat) (cl : Nat) (q : Nat) (q1 : Nat) (tq : Nat) (gb : Nat) (go_ : Nat) (tp : Nat) (hb : Nat) (ho : Nat) : List (Value → World → Prop) :=
  [IsV (.int .i64 (q : Int)),
   IsV (.bool true),
   IsV (.bool true),
   IsV (.slice al n3 cl),
   IsV (.int .i64 (q : Int)),
   IsV (.int .i64 (q1 : Int)),
   IsV (.pointer (some ⟨hb, ho, none⟩)),
   IsV (.pointer (some ⟨hb, ho, none⟩)),
   IsV (.int .i64 (tp : Int)),
   IsV (.slice al n3 cl),
   IsV (.int .i64 (q : Int)),
   IsV (.pointer (some ⟨gb, go_, none⟩)),
   IsV (.pointer (some ⟨gb, go_, none⟩)),
   IsV (.int .i64 (tq : Int)),
   IsV (.bool false),
   IsV (.bool false),
   IsV (.bool false),
   IsV (.slice al n3 cl),
   IsV (.int .i64 (q : Int)),
   IsV (.pointer (some ⟨gb, go_, none⟩)),
   IsV (.pointer (some ⟨gb, go_, none⟩)),
   IsV (.int .i64 (tq : Int)),
   IsV (.int .i64 (kk : Int)),
   IsV (.bool false),
   IsV (.bool false),
   IsV (undef),
   IsV (undef),
   IsV (undef),
   IsV (undef),
   IsV (undef),
   IsV (undef),
   IsV (undef),
   IsV (.bool false),
   IsV (.bool false)]
def al_r28_2_D : List (List Nat) := [[], [0], [1], [2], [2], [2, 4], [2, 3, 5], [2, 6], [2, 7], [2], [2], [2, 9, 10], [2, 11], [2, 12], [2, 8, 13], [2, 14], [15], [16], [16], [16, 17, 18], [16, 19], [16, 20], [16], [16, 21, 22], [16, 23], [24], [24], [24], [24], [24], [24], [24], [16, 24, 31], [16, 32]]

/-- What each operation of the statement leaves. -/
def al_r28_3_F (kk : Nat) (mine : Int) (al : Option Addr) (n3 : Nat) (cl : Nat) (q : Nat) (tq : Nat) (vq : Int) (gb : Nat) (go_ : Nat) : List (Value → World → Prop) :=
  [IsV (.int .i64 (q : Int)),
   IsV (.bool false),
   IsV (.bool false),
   IsV (undef),
   IsV (undef),
   IsV (undef),
   IsV (undef),
   IsV (undef),
   IsV (undef),
   IsV (undef),
   IsV (undef),
   IsV (undef),
   IsV (undef),
   IsV (undef),
   IsV (undef),
   IsV (.bool false),
   IsV (.bool false),
   IsV (.slice al n3 cl),
   IsV (.int .i64 (q : Int)),
   IsV (.pointer (some ⟨gb, go_, none⟩)),
   IsV (.pointer (some ⟨gb, go_, none⟩)),
   IsV (.int .i64 (tq : Int)),
   IsV (.int .i64 (kk : Int)),
   IsV (.bool true),
   IsV (.bool true),
   IsV (.slice al n3 cl),
   IsV (.int .i64 (q : Int)),
   IsV (.pointer (some ⟨gb, go_, none⟩)),
   IsV (.pointer (some ⟨gb, go_ + 1, none⟩)),
   IsV (.int .i64 vq),
   IsV (.int .i64 mine),
   IsV (.bool false),
   IsV (.bool false),
   IsV (.bool false)]
def al_r28_3_D : List (List Nat) := [[], [0], [1], [2], [2], [2], [2], [2], [2], [2], [2], [2], [2], [2], [2], [2, 14], [15], [16], [16], [16, 17, 18], [16, 19], [16, 20], [16], [16, 21, 22], [16, 23], [24], [24], [24, 25, 26], [24, 27], [24, 28], [24], [24, 29, 30], [16, 24, 31], [16, 32]]

/-- What each operation of the statement leaves. -/
def al_r28_4_F (kk : Nat) (al : Option Addr) (n3 : Nat) (cl : Nat) (q : Nat) (tq : Nat) (gb : Nat) (go_ : Nat) : List (Value → World → Prop) :=
  [IsV (.int .i64 (q : Int)),
   IsV (.bool false),
   IsV (.bool false),
   IsV (undef),
   IsV (undef),
   IsV (undef),
   IsV (undef),
   IsV (undef),
   IsV (undef),
   IsV (undef),
   IsV (undef),
   IsV (undef),
   IsV (undef),
   IsV (undef),
   IsV (undef),
   IsV (.bool false),
   IsV (.bool false),
   IsV (.slice al n3 cl),
   IsV (.int .i64 (q : Int)),
   IsV (.pointer (some ⟨gb, go_, none⟩)),
   IsV (.pointer (some ⟨gb, go_, none⟩)),
   IsV (.int .i64 (tq : Int)),
   IsV (.int .i64 (kk : Int)),
   IsV (.bool false),
   IsV (.bool false),
   IsV (undef),
   IsV (undef),
   IsV (undef),
   IsV (undef),
   IsV (undef),
   IsV (undef),
   IsV (undef),
   IsV (.bool false),
   IsV (.bool false)]
def al_r28_4_D : List (List Nat) := [[], [0], [1], [2], [2], [2], [2], [2], [2], [2], [2], [2], [2], [2], [2], [2, 14], [15], [16], [16], [16, 17, 18], [16, 19], [16, 20], [16], [16, 21, 22], [16, 23], [24], [24], [24], [24], [24], [24], [24], [16, 24, 31], [16, 32]]

set_option maxHeartbeats 64000000 in
theorem alone_all (w : World) (a : Option Addr) (m c : Nat) (l : List (Int × Int)) (hn : l.length = m) (hr : Rd w 2 (.slice a m c) m (l.flatMap c2s)) (at_ : Int) :
    Calls Try.prog 5 #[.slice a m c, .int .i64 at_] w fun e w' => e = .returned (.bool true) ∧ Mod (fun _ => False) w w' := by
  obtain ⟨iP, hiP, hzP, hsP, hbP⟩ := info_parts infoP
  obtain ⟨iS, hiS, hzS, hsS, hbS⟩ := info_parts infoSh
  have HN := Lib.hid hn
  clear hn
  by_cases hlen0 : m ≤ 40
  case neg =>
    have HS : Hid (Ev (Mod (fun _ => False) w) w) := Lib.hid (Ev.mod w)
    have z0 : decide (40 < (m : Int)) = true := by simp; omega
    have z1 : decide (40 < m) = true := by simp; omega
    go_enter Try.func5, Try.ntmps5
    go_wp2_with fail
    refine (awake10_any _).mono ?_
    rintro e wq1 ⟨rfl, hm⟩
    replace HS := Lib.hid (HS.out.step hm)
    clear hm
    go_wp2_with fail
    go_ret
    exact ⟨rfl, HS.out.now⟩
  have y0 : decide (40 < (m : Int)) = false := by simp; omega
  go_enter Try.func5, Try.ntmps5
  go_wp2_with fail
  refine (snew_as 6 (by omega) w).mono ?_
  rintro e wq0 ⟨p, rfl, hpb, hso, hm0⟩
  have HM0 := Lib.hid hm0
  have HPB := Lib.hid hpb
  have HSO := Lib.hid hso
  clear hm0 hpb hso y0
  have HS : Hid (EvP p (Mod (fun k => k = p) wq0) wq0) := Lib.hid (EvP.mod p wq0)
  have hr0 := hr.keep HM0.out (fun _ _ e => e)
  replace HS := Lib.hid ((EvP.rdA hr0 (fun k hk e => hr.lt hk (by rw [e]; exact HPB.out))).and HS.out)
  clear hr0 hr
  go_wp2_with fail
  refine (round_any at_ 6 _ (by omega) (by omega)).mono ?_
  rintro e w' ⟨rfl, rfl⟩
  have hr0 := Int.emod_nonneg at_ (b := 6) (by omega)
  have hr1 := Int.emod_lt_of_pos at_ (b := 6) (by omega)
  obtain ⟨kk, hr2⟩ := Int.eq_ofNat_of_zero_le hr0
  rw [hr2] at hr1 ⊢
  have hk6 : kk < 6 := by omega
  clear hr0 hr1 hr2
  go_wp2_with fail
  replace HS := Lib.hid ((EvP.mod p wq0).and HS.out)
  obtain ⟨us0, hus0⟩ : ∃ us, List.replicate 512 (0 : Int) = us := ⟨_, rfl⟩
  have hlow : Low us0 := by rw [← hus0]; exact Low.zero 512
  have hz0 : us0.getD kk 0 = 0 := by rw [← hus0]; exact getD_zero 512 kk
  rw [hus0] at HSO
  have HLOW := Lib.hid hlow
  have HZ0 := Lib.hid hz0
  clear hus0 hlow hz0
  go_loopw [7, 8] (fun mv i wr => ∃ (j : Nat) (us : List Int) (m0 : Int), j ≤ m ∧ i = .int .i64 j ∧ mv = .int .i64 m0 ∧ us.getD kk 0 = m0 ∧ Low us ∧ SO wr p 6 us ∧ Mod (fun k => k = p) wq0 wr) (fun _ i _ => m - (intOf i).toNat)
  case atStart => exact ⟨0, us0, 0, by omega, rfl, rfl, HZ0.out, HLOW.out, HSO.out, Mod.refl _ _⟩
  case round =>
    obtain ⟨j, us, m0, hj, rfl, rfl, hm7, hlow, hso, hmr⟩ := hrel
    have HM7 := Lib.hid hm7
    clear hm7
    obtain ⟨wo, hwo⟩ : ∃ x : World, x = wr := ⟨_, rfl⟩
    subst hwo
    clear HSO HLOW
    have HSO := Lib.hid hso
    have HLOW := Lib.hid hlow
    clear hso hlow
    replace HS := Lib.hid (HS.out.step hmr)
    clear hmr
    by_cases hlt : j < m
    case neg =>
      obtain rfl : j = m := by omega
      have z0 : decide ((j : Int) < (j : Int)) = false := by simp
      go_wp2_with fail
      refine (awake10_any _).mono ?_
      rintro e wq2 ⟨rfl, hmm⟩
      have HSO1 := Lib.hid (HSO.out.keep hmm (fun e => e))
      clear HSO
      have HSO := HSO1
      clear HSO1
      replace HS := Lib.hid (HS.out.step (Mod.up hmm))
      clear hmm
      go_wp2_with fail
      go_ret
      exact ⟨rfl, HM0.out.old ((HS.out.now).2.2) (fun i hi => by rw [hi]; exact HPB.out)⟩
    case pos =>
      have hjl : j < l.length := by rw [HN.out]; exact hlt
      have z0 : decide ((j : Int) < (m : Int)) = true := by simp; omega
      obtain ⟨x, HX0⟩ : ∃ qz, (l[j]).1 = qz := ⟨_, rfl⟩
      have HX := Lib.hid HX0
      clear HX0
      obtain ⟨y, HY0⟩ : ∃ qz, (l[j]).2 = qz := ⟨_, rfl⟩
      have HY := Lib.hid HY0
      clear HY0
      obtain ⟨eb, eo, hpl, e0, e1⟩ := rd2s ((HS.out.now).2.1) j hjl
      rw [HX.out] at e0
      rw [HY.out] at e1
      have hix := fun wx => run_indexS (P := Try.prog) wx 47 50 iP 2 Try.underlying47 hiP hsP a m c j hlt (((HS.out.now).2.1).some_ (by omega))
      rw [hpl] at hix
      have HIe := Lib.hid hix
      clear hix hpl
      have hbp : eb ≠ p ∨ True := .inr trivial
      clear hbp
      have hcell : EvP p (fun W => W.cell? ⟨eb, eo, none⟩ = some (.int .i64 x) ∧ W.cell? ⟨eb, eo + 1, none⟩ = some (.int .i64 y)) wo := fun W mW => by
        obtain ⟨eb2, eo2, hpl2, f0, f1⟩ := rd2s ((HS.out.at mW).2.1) j hjl
        have hq := HIe.out W
        rw [run_indexS (P := Try.prog) W 47 50 iP 2 Try.underlying47 hiP hsP a m c j hlt (((HS.out.at mW).2.1).some_ (by omega)), hpl2] at hq
        simp only [Result.ok.injEq, Value.pointer.injEq, Option.some.injEq, Addr.mk.injEq, and_true] at hq
        obtain ⟨rfl, rfl⟩ := hq
        rw [HX.out] at f0
        rw [HY.out] at f1
        exact ⟨f0, f1⟩
      replace HS := Lib.hid ((hcell).and HS.out)
      clear hcell e0 e1
      obtain ⟨ee, hee⟩ := Int.eq_ofNat_of_zero_le (Int.emod_nonneg x (b := 6) (by omega))
      have he6 : ee < 6 := by have := Int.emod_lt_of_pos x (b := 6) (by omega); omega
      obtain ⟨uu, huu⟩ := Int.eq_ofNat_of_zero_le (Int.emod_nonneg y (b := 30) (by omega))
      have hu30 : uu < 30 := by have := Int.emod_lt_of_pos y (b := 30) (by omega); omega
      have HEE := Lib.hid hee
      have HUU := Lib.hid huu
      clear hee huu
      go_upto_region 11 with fail
      have HSd := Lib.hid HS.out.drew
      refine wp_region_inv3 (act := ?actal_r11_0) (Mod (fun _ => False)) (fun i => (al_r11_0_F a m c ee uu j x y eb eo).getD i (fun _ _ => True)) (fun i => al_r11_0_D.getD i []) (by kernel_rfl) (by kernel_rfl) (by kernel_rfl) (by kernel_rfl) (fun _ => Mod.refl _ _)
        (fun _ _ _ h k => h.trans k (fun _ _ e => e) (fun _ _ e => e)) ?hactal_r11_0 (stable_list ?_) ?_ ?_
      case hactal_r11_0 => intro vs; simp only [putAll, Nat.zero_add, Nat.reduceAdd, Act.put, List.setIfInBounds_toArray, List.set_cons_succ, List.set_cons_zero]; exact rfl
      · unfold al_r11_0_F
        exact stable_cons (stable_val _) <| stable_cons (stable_val _) <| stable_cons (stable_val _) <| stable_cons (stable_val _) <| stable_cons (stable_val _) <| stable_cons (stable_val _) <| stable_cons (stable_val _) <| stable_cons (stable_val _) <| stable_cons (stable_val _) <| stable_cons (stable_val _) <| stable_cons (stable_val _) <| stable_cons (stable_val _) <| stable_cons (stable_val _) <| stable_cons (stable_val _) <| stable_nil
      · refine opsOkA_cons ?_ ?_
        · intro K vs W hR hD hK
          clear hD
          try dsimp only at hK ⊢
          simp only [Act.put, List.setIfInBounds_toArray, List.set_cons_succ, List.set_cons_zero] at hK
          go_wp2
          exact hK _ _ rfl (Mod.refl _ _)
        refine opsOkA_cons ?_ ?_
        · intro K vs W hR hD hK
          clear hD
          try dsimp only at hK ⊢
          simp only [Act.put, List.setIfInBounds_toArray, List.set_cons_succ, List.set_cons_zero] at hK
          go_wp2
          exact hK _ _ rfl (Mod.refl _ _)
        refine opsOkA_cons ?_ ?_
        · intro K vs W hR hD hK
          have dq0 : vs 0 = .slice a m c := hD 0 (by decide)
          have dq1 : vs 1 = .int .i64 (j : Int) := hD 1 (by decide)
          clear hD
          try dsimp only at hK ⊢
          simp only [Act.put, List.setIfInBounds_toArray, List.set_cons_succ, List.set_cons_zero] at hK
          generalize vs 0 = vq0 at hK dq0 ⊢
          subst vq0
          generalize vs 1 = vq1 at hK dq1 ⊢
          subst vq1
          have hix := HIe.out
          go_wp2_with fail
          exact hK _ _ rfl (Mod.refl _ _)
        refine opsOkA_cons ?_ ?_
        · intro K vs W hR hD hK
          have dq2 : vs 2 = .pointer (some ⟨eb, eo, none⟩) := hD 2 (by decide)
          clear hD
          try dsimp only at hK ⊢
          simp only [Act.put, List.setIfInBounds_toArray, List.set_cons_succ, List.set_cons_zero] at hK
          generalize vs 2 = vq2 at hK dq2 ⊢
          subst vq2
          go_wp2_with fail
          exact hK _ _ rfl (Mod.refl _ _)
        refine opsOkA_cons ?_ ?_
        · intro K vs W hR hD hK
          have dq3 : vs 3 = .pointer (some ⟨eb, eo, none⟩) := hD 3 (by decide)
          clear hD
          try dsimp only at hK ⊢
          simp only [Act.put, List.setIfInBounds_toArray, List.set_cons_succ, List.set_cons_zero] at hK
          generalize vs 3 = vq3 at hK dq3 ⊢
          subst vq3
          have c0 := ((HSd.out.at ((Mod.up hR))).1).1
          go_wp2
          exact hK _ _ rfl (Mod.refl _ _)
        refine opsOkA_cons ?_ ?_
        · intro K vs W hR hD hK
          have dq4 : vs 4 = .int .i64 x := hD 4 (by decide)
          clear hD
          try dsimp only at hK ⊢
          simp only [Act.put, List.setIfInBounds_toArray, List.set_cons_succ, List.set_cons_zero] at hK
          generalize vs 4 = vq4 at hK dq4 ⊢
          subst vq4
          go_wp2_with (go_at_call 23; refine (round_any x 6 W (by omega) (by omega)).mono ?_; rintro e' w' ⟨rfl, rfl⟩; rw [HEE.out])
          exact hK _ _ rfl (Mod.refl _ _)
        refine opsOkA_cons ?_ ?_
        · intro K vs W hR hD hK
          clear hD
          try dsimp only at hK ⊢
          simp only [Act.put, List.setIfInBounds_toArray, List.set_cons_succ, List.set_cons_zero] at hK
          go_wp2
          exact hK _ _ rfl (Mod.refl _ _)
        refine opsOkA_cons ?_ ?_
        · intro K vs W hR hD hK
          clear hD
          try dsimp only at hK ⊢
          simp only [Act.put, List.setIfInBounds_toArray, List.set_cons_succ, List.set_cons_zero] at hK
          go_wp2
          exact hK _ _ rfl (Mod.refl _ _)
        refine opsOkA_cons ?_ ?_
        · intro K vs W hR hD hK
          have dq6 : vs 6 = .slice a m c := hD 6 (by decide)
          have dq7 : vs 7 = .int .i64 (j : Int) := hD 7 (by decide)
          clear hD
          try dsimp only at hK ⊢
          simp only [Act.put, List.setIfInBounds_toArray, List.set_cons_succ, List.set_cons_zero] at hK
          generalize vs 6 = vq6 at hK dq6 ⊢
          subst vq6
          generalize vs 7 = vq7 at hK dq7 ⊢
          subst vq7
          have hix := HIe.out
          go_wp2_with fail
          exact hK _ _ rfl (Mod.refl _ _)
        refine opsOkA_cons ?_ ?_
        · intro K vs W hR hD hK
          have dq8 : vs 8 = .pointer (some ⟨eb, eo, none⟩) := hD 8 (by decide)
          clear hD
          try dsimp only at hK ⊢
          simp only [Act.put, List.setIfInBounds_toArray, List.set_cons_succ, List.set_cons_zero] at hK
          generalize vs 8 = vq8 at hK dq8 ⊢
          subst vq8
          go_wp2_with fail
          exact hK _ _ rfl (Mod.refl _ _)
        refine opsOkA_cons ?_ ?_
        · intro K vs W hR hD hK
          have dq9 : vs 9 = .pointer (some ⟨eb, (eo + 1), none⟩) := hD 9 (by decide)
          clear hD
          try dsimp only at hK ⊢
          simp only [Act.put, List.setIfInBounds_toArray, List.set_cons_succ, List.set_cons_zero] at hK
          generalize vs 9 = vq9 at hK dq9 ⊢
          subst vq9
          have c0 := ((HSd.out.at ((Mod.up hR))).1).2
          go_wp2
          exact hK _ _ rfl (Mod.refl _ _)
        refine opsOkA_cons ?_ ?_
        · intro K vs W hR hD hK
          have dq10 : vs 10 = .int .i64 y := hD 10 (by decide)
          clear hD
          try dsimp only at hK ⊢
          simp only [Act.put, List.setIfInBounds_toArray, List.set_cons_succ, List.set_cons_zero] at hK
          generalize vs 10 = vq10 at hK dq10 ⊢
          subst vq10
          go_wp2_with (go_at_call 23; refine (round_any y 30 W (by omega) (by omega)).mono ?_; rintro e' w' ⟨rfl, rfl⟩; rw [HUU.out])
          exact hK _ _ rfl (Mod.refl _ _)
        refine opsOkA_cons ?_ ?_
        · intro K vs W hR hD hK
          have dq5 : vs 5 = .int .i64 (ee : Int) := hD 5 (by decide)
          clear hD
          try dsimp only at hK ⊢
          simp only [Act.put, List.setIfInBounds_toArray, List.set_cons_succ, List.set_cons_zero] at hK
          generalize vs 5 = vq5 at hK dq5 ⊢
          subst vq5
          go_wp2
          exact hK _ _ rfl (Mod.refl _ _)
        refine opsOkA_cons ?_ ?_
        · intro K vs W hR hD hK
          have dq11 : vs 11 = .int .i64 (uu : Int) := hD 11 (by decide)
          clear hD
          try dsimp only at hK ⊢
          simp only [Act.put, List.setIfInBounds_toArray, List.set_cons_succ, List.set_cons_zero] at hK
          generalize vs 11 = vq11 at hK dq11 ⊢
          subst vq11
          go_wp2
          exact hK _ _ rfl (Mod.refl _ _)
        exact opsOkA_nil
      · intro vs wq3 hR hF
        have dq12 : vs 12 = .int .i64 (ee : Int) := hF 12 (by decide)
        have dq13 : vs 13 = .int .i64 (uu : Int) := hF 13 (by decide)
        clear hF
        try dsimp only
        generalize vs 12 = vq12 at dq12 ⊢
        subst dq12
        generalize vs 13 = vq13 at dq13 ⊢
        subst dq13
        replace HS := Lib.hid (HSd.out.step (Mod.up hR))
        have HSO1 := Lib.hid (HSO.out.keep (F := fun _ => False) ((Mod.drew _ _).of2 hR) (fun e => e))
        clear HSO
        have HSO := HSO1
        clear HSO1
        clear HSd hR
        have hel : ee < us.length := by rw [HSO.out.len]; omega
        obtain ⟨cu, HCU0⟩ : ∃ qz, us[ee] = qz := ⟨_, rfl⟩
        have HCU := Lib.hid HCU0
        clear HCU0
        have hlo := HLOW.out ee
        rw [show us.getD ee 0 = cu by simp [List.getD, hel, HCU.out]] at hlo
        have hc0 : 0 ≤ cu := hlo.1
        clear hlo
        go_wp2_with fail
        refine (closed_any p 6 us _ HSO.out (ee : Int)).mono ?_
        rintro e wq4 ⟨rfl, hmm⟩
        have HSO1 := Lib.hid (HSO.out.keep hmm (fun e => e))
        clear HSO
        have HSO := HSO1
        clear HSO1
        replace HS := Lib.hid (HS.out.step (Mod.up hmm))
        clear hmm
        rw [closedB_at us 6 ee hel he6, HCU.out]
        replace HS := Lib.hid ((EvP.mod p wq4).and HS.out)
        go_upto_if 49 with fail
        go_cut [11, 50] (fun _ _ wx => AlCut wq4 p us ee uu wx)
        case first =>
          by_cases hu0 : uu = 0
          case pos =>
            subst hu0
            by_cases hcz : cu = 0
            case pos =>
              have zw : (cu != 0) = false := by simp [hcz]
              rw [zw]
              go_wp2_with fail
              refine (open_as p 6 us _ (HSO.out.keep (Mod.alloc (fun _ => False) _ _) (fun e => e)) _ _ _ [(ee : Int)] (xr_lit HSO.out.blk.lt 3 [(ee : Int)] 1 _ rfl rfl (by omega)) (by omega) (by unfold hasB; simp only [List.all_cons, List.all_nil, Bool.and_true, Bool.and_self]; exact decide_eq_true ⟨by omega, by omega⟩) [] (by rw [turn_open us ee hel, HCU.out, if_pos hcz]; exact srtI_nil) 0 rfl (us.set ee 0) rfl).mono ?_
              rintro e wq5 ⟨xa, xc, rfl, hrr, hsn, hmm⟩
              clear HSO
              have HSO := Lib.hid hsn
              replace HS := Lib.hid (HS.out.step ((Mod.up (Mod.alloc (fun _ => False) _ _)).ofP hmm))
              clear hmm hsn
              clear hrr
              go_wp2_with fail
              go_meet
              exact ⟨HSO.out, (HS.out.now).1⟩
            case neg =>
              have zw : (cu != 0) = true := by simp [hcz]
              rw [zw]
              go_wp2_with fail
              refine (open_as p 6 us _ (HSO.out.keep (Mod.alloc (fun _ => False) _ _) (fun e => e)) _ _ _ [(ee : Int)] (xr_lit HSO.out.blk.lt 3 [(ee : Int)] 1 _ rfl rfl (by omega)) (by omega) (by unfold hasB; simp only [List.all_cons, List.all_nil, Bool.and_true, Bool.and_self]; exact decide_eq_true ⟨by omega, by omega⟩) [(ee : Int)] (by rw [turn_open us ee hel, HCU.out, if_neg hcz]; exact srtI_one _) 1 rfl (us.set ee 0) rfl).mono ?_
              rintro e wq6 ⟨xa, xc, rfl, hrr, hsn, hmm⟩
              clear HSO
              have HSO := Lib.hid hsn
              replace HS := Lib.hid (HS.out.step ((Mod.up (Mod.alloc (fun _ => False) _ _)).ofP hmm))
              clear hmm hsn
              clear hrr
              go_wp2_with fail
              go_meet
              exact ⟨HSO.out, (HS.out.now).1⟩
          case neg =>
            have zu : ((uu : Int) == 0) = false := beq_eq_false_iff_ne.2 (by omega)
            by_cases hcz : cu = 0
            case pos =>
              have zw : (cu != 0) = false := by simp [hcz]
              rw [zw]
              go_wp2_with fail
              refine (close_as p 6 us _ (HSO.out.keep (Mod.alloc (fun _ => False) _ _) (fun e => e)) _ _ _ [(ee : Int), (ee : Int)] (xr_lit HSO.out.blk.lt 3 [(ee : Int), (ee : Int)] 2 _ rfl rfl (by omega)) (by omega) (by unfold hasB; simp only [List.all_cons, List.all_nil, Bool.and_true, Bool.and_self]; exact decide_eq_true ⟨by omega, by omega⟩) (uu : Int) (by omega) (by omega) [(ee : Int)] (by rw [turn_close us ee hel _ (by omega), HCU.out, if_pos hcz]; exact srtI_one _) 1 rfl (us.set ee (uu : Int)) (putU_close us ee (uu : Int))).mono ?_
              rintro e wq7 ⟨xa, xc, rfl, hrr, hsn, hmm⟩
              clear HSO
              have HSO := Lib.hid hsn
              replace HS := Lib.hid (HS.out.step ((Mod.up (Mod.alloc (fun _ => False) _ _)).ofP hmm))
              clear hmm hsn
              clear hrr
              go_wp2_with fail
              go_meet
              exact ⟨HSO.out, (HS.out.now).1⟩
            case neg =>
              have zw : (cu != 0) = true := by simp [hcz]
              rw [zw]
              go_wp2_with fail
              refine (close_as p 6 us _ (HSO.out.keep (Mod.alloc (fun _ => False) _ _) (fun e => e)) _ _ _ [(ee : Int), (ee : Int)] (xr_lit HSO.out.blk.lt 3 [(ee : Int), (ee : Int)] 2 _ rfl rfl (by omega)) (by omega) (by unfold hasB; simp only [List.all_cons, List.all_nil, Bool.and_true, Bool.and_self]; exact decide_eq_true ⟨by omega, by omega⟩) (uu : Int) (by omega) (by omega) [] (by rw [turn_close us ee hel _ (by omega), HCU.out, if_neg hcz]; exact srtI_nil) 0 rfl (us.set ee (uu : Int)) (putU_close us ee (uu : Int))).mono ?_
              rintro e wq8 ⟨xa, xc, rfl, hrr, hsn, hmm⟩
              clear HSO
              have HSO := Lib.hid hsn
              replace HS := Lib.hid (HS.out.step ((Mod.up (Mod.alloc (fun _ => False) _ _)).ofP hmm))
              clear hmm hsn
              clear hrr
              go_wp2_with fail
              go_meet
              exact ⟨HSO.out, (HS.out.now).1⟩
        case rest =>
          obtain ⟨hso, hmc⟩ := hcut
          clear HSO
          have HSO := Lib.hid hso
          clear hso
          replace HS := Lib.hid (HS.out.step hmc)
          clear hmc
          obtain ⟨us2, hus2⟩ : ∃ x, us.set ee (uu : Int) = x := ⟨_, rfl⟩
          rw [hus2] at HSO
          have HUS := Lib.hid hus2
          clear hus2
          have HLOW2 : Hid (Low us2) := Lib.hid (by rw [← HUS.out]; exact HLOW.out.set ee _ (by omega) (by omega))
          obtain ⟨mine, hmine⟩ : ∃ x, us2.getD kk 0 = x := ⟨_, rfl⟩
          have hml := HLOW2.out kk
          rw [hmine] at hml
          have hm0 : 0 ≤ mine := hml.1
          have HMI := Lib.hid hmine
          clear hmine hml
          have hkl : kk < us2.length := by rw [HSO.out.len]; omega
          have HCK : Hid (closedB us2 6 (kk : Int) = (mine != 0)) := Lib.hid (by rw [closedB_at us2 6 kk hkl hk6, ← HMI.out]; simp [List.getD, hkl])
          go_upto_if 86 with fail
          go_cut [7] (fun mv wx => mv = .int .i64 mine ∧ wc = wx)
          case first =>
            by_cases hek : ee = kk
            case pos =>
              subst hek
              have hmu : mine = (uu : Int) := by rw [← HMI.out, ← HUS.out]; exact getD_set_self hel _
              have zq : ((ee : Int) == (ee : Int)) = true := by simp
              go_wp2_with fail
              go_meet
              exact ⟨by rw [hmu], rfl⟩
            case neg =>
              have zq : ((ee : Int) == (kk : Int)) = false := beq_eq_false_iff_ne.2 (by omega)
              have hmu : mine = m0 := by rw [← HMI.out, ← HUS.out, ← HM7.out]; exact getD_set_other hek _
              go_wp2_with fail
              go_meet
              exact ⟨by rw [hmu], rfl⟩
          case rest =>
            obtain ⟨hmv, hwc⟩ := hcut
            subst hwc
            subst hmv
            have zc : (mine != 0) = decide (0 < mine) := ne_pos (by omega)
            go_wp2_with fail
            refine (closed_any p 6 us2 _ HSO.out (kk : Int)).mono ?_
            rintro e wq9 ⟨rfl, hmm⟩
            have HSO1 := Lib.hid (HSO.out.keep hmm (fun e => e))
            clear HSO
            have HSO := HSO1
            clear HSO1
            replace HS := Lib.hid (HS.out.step (Mod.up hmm))
            clear hmm
            rw [HCK.out]
            rw [zc]
            clear zc
            go_wp2_with fail
            refine (all_any p 6 us2 _ HSO.out).mono ?_
            rintro e wq10 ⟨v, rfl, hoa, hmm⟩
            obtain ⟨al, cl, rfl⟩ := own_form hoa
            have hlo : ∀ k, (Value.slice al (allK us2 6).length cl).ownBlock = some k → k = p → (allK us2 6).flatMap c2s = [] := fun k hk e => by have h1 := (hoa.lt k hk).1; have h2 := HSO.out.blk.lt; omega
            have hrd := Rd.ofOwn hoa
            clear hoa
            have HSO1 := Lib.hid (HSO.out.keep hmm (fun e => e))
            clear HSO
            have HSO := HSO1
            clear HSO1
            replace HS := Lib.hid (HS.out.step (Mod.up hmm))
            replace HS := Lib.hid ((EvP.rdA hrd hlo).and HS.out)
            clear hmm hrd hlo
            obtain ⟨L, hL⟩ : ∃ L, allK us2 6 = L := ⟨_, rfl⟩
            have hLn : L.length ≤ 6 := by rw [← hL]; exact allK_len us2 6
            have hLa : ∀ (i : Nat) (h : i < L.length), ∃ t : Nat, L[i] = ((t : Int), us2.getD t 0) ∧ t < 6 := by subst hL; exact allK_at us2 6
            have hLr : ∀ (i : Nat) (h : i + 1 < L.length), (L[i]'(by omega)).1 < (L[i + 1]).1 := by subst hL; exact allK_rise us2 6
            rw [hL] at HS ⊢
            obtain ⟨n3, hn3⟩ : ∃ n, L.length = n := ⟨_, rfl⟩
            rw [hn3] at HS hLn ⊢
            have HN3 := Lib.hid hn3
            have HLA := Lib.hid hLa
            have HLR := Lib.hid hLr
            clear hL hn3 hLa hLr
            go_wp2_with fail
            replace HS := Lib.hid ((EvP.mod p wq10).and HS.out)
            go_loopw [17] (fun i wr => ∃ q : Nat, q ≤ n3 ∧ i = .int .i64 q ∧ SO wr p 6 us2 ∧ Mod (fun k => k = p) wq10 wr) (fun i _ => n3 - (intOf i).toNat)
            case atStart => exact ⟨0, by omega, rfl, HSO.out, Mod.refl _ _⟩
            case round =>
              obtain ⟨q, hq, rfl, hso, hmr⟩ := hrel
              obtain ⟨wi, hwi⟩ : ∃ x : World, x = wr := ⟨_, rfl⟩
              subst hwi
              clear HSO
              have HSO := Lib.hid hso
              clear hso
              replace HS := Lib.hid (HS.out.step hmr)
              clear hmr
              by_cases hlq : q < n3
              case neg =>
                obtain rfl : q = n3 := by omega
                have z3 : decide ((q : Int) < (q : Int)) = false := by simp
                go_wp2_with fail
                go_roundw
                case rel => exact ⟨j + 1, us2, _, hlt, by go_num, rfl, HMI.out, HLOW2.out, HSO.out, (HS.out.now).2.2.2.2.1⟩
                case measure => simp [intOf]; omega
              case pos =>
                have z3 : decide ((q : Int) < (n3 : Int)) = true := by simp; omega
                have hql : q < L.length := by rw [HN3.out]; exact hlq
                obtain ⟨tq, htq, htn⟩ := HLA.out q hql
                obtain ⟨vq, hvq⟩ : ∃ x, us2.getD tq 0 = x := ⟨_, rfl⟩
                rw [hvq] at htq
                have HVQ := Lib.hid hvq
                have HTQ := Lib.hid htq
                clear hvq htq
                obtain ⟨gb, go_, hpl, _, _⟩ := rd2s ((HS.out.now).2.1) q hql
                have hix := fun wx => run_indexS (P := Try.prog) wx 43 53 iS 2 Try.underlying43 hiS hsS al n3 cl q hlq (((HS.out.now).2.1).some_ (by omega))
                rw [hpl] at hix
                have HIgb := Lib.hid hix
                clear hix hpl
                have hcell : EvP p (fun W => W.cell? ⟨gb, go_, none⟩ = some (.int .i64 (tq : Int)) ∧ W.cell? ⟨gb, go_ + 1, none⟩ = some (.int .i64 vq)) wi := fun W mW => by
                  obtain ⟨b2, o2, hpl2, f0, f1⟩ := rd2s ((HS.out.at mW).2.1) q hql
                  have hq := HIgb.out W
                  rw [run_indexS (P := Try.prog) W 43 53 iS 2 Try.underlying43 hiS hsS al n3 cl q hlq (((HS.out.at mW).2.1).some_ (by omega)), hpl2] at hq
                  simp only [Result.ok.injEq, Value.pointer.injEq, Option.some.injEq, Addr.mk.injEq, and_true] at hq
                  obtain ⟨rfl, rfl⟩ := hq
                  rw [HTQ.out] at f0 f1
                  exact ⟨f0, f1⟩
                replace HS := Lib.hid ((hcell).and HS.out)
                clear hcell
                by_cases hqz : 0 < q
                case pos =>
                  obtain ⟨q1, hq1⟩ : ∃ q1, q = q1 + 1 := ⟨q - 1, by omega⟩
                  have hq1l : q1 < L.length := by omega
                  have hq1n : q1 < n3 := by omega
                  obtain ⟨tp, htp, _⟩ := HLA.out q1 hq1l
                  have hris : ((L[q1]).1 : Int) < (tq : Int) := by have h := HLR.out q1 (by omega); have h2 : L[q1 + 1]'(by omega) = L[q] := (by simp only [hq1]); rw [h2, HTQ.out] at h; exact h
                  rw [htp] at hris
                  have hgeq : decide (tq ≤ tp) = false := by simp at hris ⊢; omega
                  obtain ⟨vp, hvp⟩ : ∃ x, us2.getD tp 0 = x := ⟨_, rfl⟩
                  rw [hvp] at htp
                  have HTP := Lib.hid htp
                  have HQ1 : Hid ((q : Int) - 1 = (q1 : Int)) := Lib.hid (by omega)
                  clear htp hvp hq1 hris
                  obtain ⟨hb, ho, hpl, _, _⟩ := rd2s ((HS.out.now).2.2.1) q1 hq1l
                  have hix := fun wx => run_indexS (P := Try.prog) wx 43 53 iS 2 Try.underlying43 hiS hsS al n3 cl q1 hq1n (((HS.out.now).2.2.1).some_ (by omega))
                  rw [hpl] at hix
                  have HIhb := Lib.hid hix
                  clear hix hpl
                  have hcell : EvP p (fun W => W.cell? ⟨hb, ho, none⟩ = some (.int .i64 (tp : Int)) ∧ W.cell? ⟨hb, ho + 1, none⟩ = some (.int .i64 vp)) wi := fun W mW => by
                    obtain ⟨b2, o2, hpl2, f0, f1⟩ := rd2s ((HS.out.at mW).2.2.1) q1 hq1l
                    have hq := HIhb.out W
                    rw [run_indexS (P := Try.prog) W 43 53 iS 2 Try.underlying43 hiS hsS al n3 cl q1 hq1n (((HS.out.at mW).2.2.1).some_ (by omega)), hpl2] at hq
                    simp only [Result.ok.injEq, Value.pointer.injEq, Option.some.injEq, Addr.mk.injEq, and_true] at hq
                    obtain ⟨rfl, rfl⟩ := hq
                    rw [HTP.out] at f0 f1
                    exact ⟨f0, f1⟩
                  replace HS := Lib.hid ((hcell).and HS.out)
                  clear hcell
                  by_cases htk : tq = kk
                  case pos =>
                    have zt : ((tq : Int) == (kk : Int)) = true := by simp [htk]
                    have zv : (vq != mine) = false := by have h1 := HVQ.out; rw [htk, HMI.out] at h1; simp [h1]
                    have HTK := Lib.hid htk
                    clear htk
                    have ZT := Lib.hid zt
                    clear zt
                    have ZV := Lib.hid zv
                    clear zv
                    go_upto_region 28 with fail
                    have HSd := Lib.hid HS.out.drew
                    refine wp_region_inv3 (act := ?actal_r28_1) (Mod (fun _ => False)) (fun i => (al_r28_1_F kk mine al n3 cl q q1 tq vq gb go_ tp hb ho).getD i (fun _ _ => True)) (fun i => al_r28_1_D.getD i []) (by kernel_rfl) (by kernel_rfl) (by kernel_rfl) (by kernel_rfl) (fun _ => Mod.refl _ _)
                      (fun _ _ _ h k => h.trans k (fun _ _ e => e) (fun _ _ e => e)) ?hactal_r28_1 (stable_list ?_) ?_ ?_
                    case hactal_r28_1 => intro vs; simp only [putAll, Nat.zero_add, Nat.reduceAdd, Act.put, List.setIfInBounds_toArray, List.set_cons_succ, List.set_cons_zero]; exact rfl
                    · unfold al_r28_1_F
                      exact stable_cons (stable_val _) <| stable_cons (stable_val _) <| stable_cons (stable_val _) <| stable_cons (stable_val _) <| stable_cons (stable_val _) <| stable_cons (stable_val _) <| stable_cons (stable_val _) <| stable_cons (stable_val _) <| stable_cons (stable_val _) <| stable_cons (stable_val _) <| stable_cons (stable_val _) <| stable_cons (stable_val _) <| stable_cons (stable_val _) <| stable_cons (stable_val _) <| stable_cons (stable_val _) <| stable_cons (stable_val _) <| stable_cons (stable_val _) <| stable_cons (stable_val _) <| stable_cons (stable_val _) <| stable_cons (stable_val _) <| stable_cons (stable_val _) <| stable_cons (stable_val _) <| stable_cons (stable_val _) <| stable_cons (stable_val _) <| stable_cons (stable_val _) <| stable_cons (stable_val _) <| stable_cons (stable_val _) <| stable_cons (stable_val _) <| stable_cons (stable_val _) <| stable_cons (stable_val _) <| stable_cons (stable_val _) <| stable_cons (stable_val _) <| stable_cons (stable_val _) <| stable_cons (stable_val _) <| stable_nil
                    · refine opsOkA_cons ?_ ?_
                      · intro K vs W hR hD hK
                        clear hD
                        try dsimp only at hK ⊢
                        simp only [Act.put, List.setIfInBounds_toArray, List.set_cons_succ, List.set_cons_zero] at hK
                        go_wp2
                        exact hK _ _ rfl (Mod.refl _ _)
                      refine opsOkA_cons ?_ ?_
                      · intro K vs W hR hD hK
                        have dq0 : vs 0 = .int .i64 (q : Int) := hD 0 (by decide)
                        clear hD
                        try dsimp only at hK ⊢
                        simp only [Act.put, List.setIfInBounds_toArray, List.set_cons_succ, List.set_cons_zero] at hK
                        generalize vs 0 = vq0 at hK dq0 ⊢
                        subst vq0
                        have zz : decide ((0 : Int) < (q : Int)) = true := by simp; omega
                        go_wp2
                        exact hK _ _ rfl (Mod.refl _ _)
                      refine opsOkA_cons ?_ ?_
                      · intro K vs W hR hD hK
                        have dq1 : vs 1 = .bool true := hD 1 (by decide)
                        clear hD
                        try dsimp only at hK ⊢
                        simp only [Act.put, List.setIfInBounds_toArray, List.set_cons_succ, List.set_cons_zero] at hK
                        generalize vs 1 = vq1 at hK dq1 ⊢
                        subst vq1
                        go_wp2
                        exact hK _ _ rfl (Mod.refl _ _)
                      refine opsOkA_cons ?_ ?_
                      · intro K vs W hR hD hK
                        have dq2 : vs 2 = .bool true := hD 2 (by decide)
                        clear hD
                        try dsimp only at hK ⊢
                        simp only [Act.put, List.setIfInBounds_toArray, List.set_cons_succ, List.set_cons_zero] at hK
                        generalize vs 2 = vq2 at hK dq2 ⊢
                        subst vq2
                        go_wp2
                        exact hK _ _ rfl (Mod.refl _ _)
                      refine opsOkA_cons ?_ ?_
                      · intro K vs W hR hD hK
                        have dq2 : vs 2 = .bool true := hD 2 (by decide)
                        clear hD
                        try dsimp only at hK ⊢
                        simp only [Act.put, List.setIfInBounds_toArray, List.set_cons_succ, List.set_cons_zero] at hK
                        generalize vs 2 = vq2 at hK dq2 ⊢
                        subst vq2
                        go_wp2
                        exact hK _ _ rfl (Mod.refl _ _)
                      refine opsOkA_cons ?_ ?_
                      · intro K vs W hR hD hK
                        have dq2 : vs 2 = .bool true := hD 2 (by decide)
                        have dq4 : vs 4 = .int .i64 (q : Int) := hD 4 (by decide)
                        clear hD
                        try dsimp only at hK ⊢
                        simp only [Act.put, List.setIfInBounds_toArray, List.set_cons_succ, List.set_cons_zero] at hK
                        generalize vs 2 = vq2 at hK dq2 ⊢
                        subst vq2
                        generalize vs 4 = vq4 at hK dq4 ⊢
                        subst vq4
                        have zq1 := HQ1.out
                        go_wp2
                        exact hK _ _ rfl (Mod.refl _ _)
                      refine opsOkA_cons ?_ ?_
                      · intro K vs W hR hD hK
                        have dq2 : vs 2 = .bool true := hD 2 (by decide)
                        have dq3 : vs 3 = .slice al n3 cl := hD 3 (by decide)
                        have dq5 : vs 5 = .int .i64 (q1 : Int) := hD 5 (by decide)
                        clear hD
                        try dsimp only at hK ⊢
                        simp only [Act.put, List.setIfInBounds_toArray, List.set_cons_succ, List.set_cons_zero] at hK
                        generalize vs 2 = vq2 at hK dq2 ⊢
                        subst vq2
                        generalize vs 3 = vq3 at hK dq3 ⊢
                        subst vq3
                        generalize vs 5 = vq5 at hK dq5 ⊢
                        subst vq5
                        have hix := HIhb.out
                        go_wp2_with fail
                        exact hK _ _ rfl (Mod.refl _ _)
                      refine opsOkA_cons ?_ ?_
                      · intro K vs W hR hD hK
                        have dq2 : vs 2 = .bool true := hD 2 (by decide)
                        have dq6 : vs 6 = .pointer (some ⟨hb, ho, none⟩) := hD 6 (by decide)
                        clear hD
                        try dsimp only at hK ⊢
                        simp only [Act.put, List.setIfInBounds_toArray, List.set_cons_succ, List.set_cons_zero] at hK
                        generalize vs 2 = vq2 at hK dq2 ⊢
                        subst vq2
                        generalize vs 6 = vq6 at hK dq6 ⊢
                        subst vq6
                        go_wp2
                        exact hK _ _ rfl (Mod.refl _ _)
                      refine opsOkA_cons ?_ ?_
                      · intro K vs W hR hD hK
                        have dq2 : vs 2 = .bool true := hD 2 (by decide)
                        have dq7 : vs 7 = .pointer (some ⟨hb, ho, none⟩) := hD 7 (by decide)
                        clear hD
                        try dsimp only at hK ⊢
                        simp only [Act.put, List.setIfInBounds_toArray, List.set_cons_succ, List.set_cons_zero] at hK
                        generalize vs 2 = vq2 at hK dq2 ⊢
                        subst vq2
                        generalize vs 7 = vq7 at hK dq7 ⊢
                        subst vq7
                        have c0 := ((HSd.out.at ((Mod.up hR))).1).1
                        go_wp2
                        exact hK _ _ rfl (Mod.refl _ _)
                      refine opsOkA_cons ?_ ?_
                      · intro K vs W hR hD hK
                        have dq2 : vs 2 = .bool true := hD 2 (by decide)
                        clear hD
                        try dsimp only at hK ⊢
                        simp only [Act.put, List.setIfInBounds_toArray, List.set_cons_succ, List.set_cons_zero] at hK
                        generalize vs 2 = vq2 at hK dq2 ⊢
                        subst vq2
                        go_wp2
                        exact hK _ _ rfl (Mod.refl _ _)
                      refine opsOkA_cons ?_ ?_
                      · intro K vs W hR hD hK
                        have dq2 : vs 2 = .bool true := hD 2 (by decide)
                        clear hD
                        try dsimp only at hK ⊢
                        simp only [Act.put, List.setIfInBounds_toArray, List.set_cons_succ, List.set_cons_zero] at hK
                        generalize vs 2 = vq2 at hK dq2 ⊢
                        subst vq2
                        go_wp2
                        exact hK _ _ rfl (Mod.refl _ _)
                      refine opsOkA_cons ?_ ?_
                      · intro K vs W hR hD hK
                        have dq2 : vs 2 = .bool true := hD 2 (by decide)
                        have dq9 : vs 9 = .slice al n3 cl := hD 9 (by decide)
                        have dq10 : vs 10 = .int .i64 (q : Int) := hD 10 (by decide)
                        clear hD
                        try dsimp only at hK ⊢
                        simp only [Act.put, List.setIfInBounds_toArray, List.set_cons_succ, List.set_cons_zero] at hK
                        generalize vs 2 = vq2 at hK dq2 ⊢
                        subst vq2
                        generalize vs 9 = vq9 at hK dq9 ⊢
                        subst vq9
                        generalize vs 10 = vq10 at hK dq10 ⊢
                        subst vq10
                        have hix := HIgb.out
                        go_wp2_with fail
                        exact hK _ _ rfl (Mod.refl _ _)
                      refine opsOkA_cons ?_ ?_
                      · intro K vs W hR hD hK
                        have dq2 : vs 2 = .bool true := hD 2 (by decide)
                        have dq11 : vs 11 = .pointer (some ⟨gb, go_, none⟩) := hD 11 (by decide)
                        clear hD
                        try dsimp only at hK ⊢
                        simp only [Act.put, List.setIfInBounds_toArray, List.set_cons_succ, List.set_cons_zero] at hK
                        generalize vs 2 = vq2 at hK dq2 ⊢
                        subst vq2
                        generalize vs 11 = vq11 at hK dq11 ⊢
                        subst vq11
                        go_wp2
                        exact hK _ _ rfl (Mod.refl _ _)
                      refine opsOkA_cons ?_ ?_
                      · intro K vs W hR hD hK
                        have dq2 : vs 2 = .bool true := hD 2 (by decide)
                        have dq12 : vs 12 = .pointer (some ⟨gb, go_, none⟩) := hD 12 (by decide)
                        clear hD
                        try dsimp only at hK ⊢
                        simp only [Act.put, List.setIfInBounds_toArray, List.set_cons_succ, List.set_cons_zero] at hK
                        generalize vs 2 = vq2 at hK dq2 ⊢
                        subst vq2
                        generalize vs 12 = vq12 at hK dq12 ⊢
                        subst vq12
                        have c0 := ((HSd.out.at ((Mod.up hR))).2.1).1
                        go_wp2
                        exact hK _ _ rfl (Mod.refl _ _)
                      refine opsOkA_cons ?_ ?_
                      · intro K vs W hR hD hK
                        have dq2 : vs 2 = .bool true := hD 2 (by decide)
                        have dq8 : vs 8 = .int .i64 (tp : Int) := hD 8 (by decide)
                        have dq13 : vs 13 = .int .i64 (tq : Int) := hD 13 (by decide)
                        clear hD
                        try dsimp only at hK ⊢
                        simp only [Act.put, List.setIfInBounds_toArray, List.set_cons_succ, List.set_cons_zero] at hK
                        generalize vs 2 = vq2 at hK dq2 ⊢
                        subst vq2
                        generalize vs 8 = vq8 at hK dq8 ⊢
                        subst vq8
                        generalize vs 13 = vq13 at hK dq13 ⊢
                        subst vq13
                        have zg := hgeq
                        go_wp2
                        exact hK _ _ rfl (Mod.refl _ _)
                      refine opsOkA_cons ?_ ?_
                      · intro K vs W hR hD hK
                        have dq2 : vs 2 = .bool true := hD 2 (by decide)
                        have dq14 : vs 14 = .bool false := hD 14 (by decide)
                        clear hD
                        try dsimp only at hK ⊢
                        simp only [Act.put, List.setIfInBounds_toArray, List.set_cons_succ, List.set_cons_zero] at hK
                        generalize vs 2 = vq2 at hK dq2 ⊢
                        subst vq2
                        generalize vs 14 = vq14 at hK dq14 ⊢
                        subst vq14
                        go_wp2
                        exact hK _ _ rfl (Mod.refl _ _)
                      refine opsOkA_cons ?_ ?_
                      · intro K vs W hR hD hK
                        have dq15 : vs 15 = .bool false := hD 15 (by decide)
                        clear hD
                        try dsimp only at hK ⊢
                        simp only [Act.put, List.setIfInBounds_toArray, List.set_cons_succ, List.set_cons_zero] at hK
                        generalize vs 15 = vq15 at hK dq15 ⊢
                        subst vq15
                        go_wp2
                        exact hK _ _ rfl (Mod.refl _ _)
                      refine opsOkA_cons ?_ ?_
                      · intro K vs W hR hD hK
                        have dq16 : vs 16 = .bool false := hD 16 (by decide)
                        clear hD
                        try dsimp only at hK ⊢
                        simp only [Act.put, List.setIfInBounds_toArray, List.set_cons_succ, List.set_cons_zero] at hK
                        generalize vs 16 = vq16 at hK dq16 ⊢
                        subst vq16
                        go_wp2
                        exact hK _ _ rfl (Mod.refl _ _)
                      refine opsOkA_cons ?_ ?_
                      · intro K vs W hR hD hK
                        have dq16 : vs 16 = .bool false := hD 16 (by decide)
                        clear hD
                        try dsimp only at hK ⊢
                        simp only [Act.put, List.setIfInBounds_toArray, List.set_cons_succ, List.set_cons_zero] at hK
                        generalize vs 16 = vq16 at hK dq16 ⊢
                        subst vq16
                        go_wp2
                        exact hK _ _ rfl (Mod.refl _ _)
                      refine opsOkA_cons ?_ ?_
                      · intro K vs W hR hD hK
                        have dq16 : vs 16 = .bool false := hD 16 (by decide)
                        have dq17 : vs 17 = .slice al n3 cl := hD 17 (by decide)
                        have dq18 : vs 18 = .int .i64 (q : Int) := hD 18 (by decide)
                        clear hD
                        try dsimp only at hK ⊢
                        simp only [Act.put, List.setIfInBounds_toArray, List.set_cons_succ, List.set_cons_zero] at hK
                        generalize vs 16 = vq16 at hK dq16 ⊢
                        subst vq16
                        generalize vs 17 = vq17 at hK dq17 ⊢
                        subst vq17
                        generalize vs 18 = vq18 at hK dq18 ⊢
                        subst vq18
                        have hix := HIgb.out
                        go_wp2_with fail
                        exact hK _ _ rfl (Mod.refl _ _)
                      refine opsOkA_cons ?_ ?_
                      · intro K vs W hR hD hK
                        have dq16 : vs 16 = .bool false := hD 16 (by decide)
                        have dq19 : vs 19 = .pointer (some ⟨gb, go_, none⟩) := hD 19 (by decide)
                        clear hD
                        try dsimp only at hK ⊢
                        simp only [Act.put, List.setIfInBounds_toArray, List.set_cons_succ, List.set_cons_zero] at hK
                        generalize vs 16 = vq16 at hK dq16 ⊢
                        subst vq16
                        generalize vs 19 = vq19 at hK dq19 ⊢
                        subst vq19
                        go_wp2
                        exact hK _ _ rfl (Mod.refl _ _)
                      refine opsOkA_cons ?_ ?_
                      · intro K vs W hR hD hK
                        have dq16 : vs 16 = .bool false := hD 16 (by decide)
                        have dq20 : vs 20 = .pointer (some ⟨gb, go_, none⟩) := hD 20 (by decide)
                        clear hD
                        try dsimp only at hK ⊢
                        simp only [Act.put, List.setIfInBounds_toArray, List.set_cons_succ, List.set_cons_zero] at hK
                        generalize vs 16 = vq16 at hK dq16 ⊢
                        subst vq16
                        generalize vs 20 = vq20 at hK dq20 ⊢
                        subst vq20
                        have c0 := ((HSd.out.at ((Mod.up hR))).2.1).1
                        go_wp2
                        exact hK _ _ rfl (Mod.refl _ _)
                      refine opsOkA_cons ?_ ?_
                      · intro K vs W hR hD hK
                        have dq16 : vs 16 = .bool false := hD 16 (by decide)
                        clear hD
                        try dsimp only at hK ⊢
                        simp only [Act.put, List.setIfInBounds_toArray, List.set_cons_succ, List.set_cons_zero] at hK
                        generalize vs 16 = vq16 at hK dq16 ⊢
                        subst vq16
                        go_wp2
                        exact hK _ _ rfl (Mod.refl _ _)
                      refine opsOkA_cons ?_ ?_
                      · intro K vs W hR hD hK
                        have dq16 : vs 16 = .bool false := hD 16 (by decide)
                        have dq21 : vs 21 = .int .i64 (tq : Int) := hD 21 (by decide)
                        have dq22 : vs 22 = .int .i64 (kk : Int) := hD 22 (by decide)
                        clear hD
                        try dsimp only at hK ⊢
                        simp only [Act.put, List.setIfInBounds_toArray, List.set_cons_succ, List.set_cons_zero] at hK
                        generalize vs 16 = vq16 at hK dq16 ⊢
                        subst vq16
                        generalize vs 21 = vq21 at hK dq21 ⊢
                        subst vq21
                        generalize vs 22 = vq22 at hK dq22 ⊢
                        subst vq22
                        have zt := ZT.out
                        go_wp2
                        exact hK _ _ rfl (Mod.refl _ _)
                      refine opsOkA_cons ?_ ?_
                      · intro K vs W hR hD hK
                        have dq16 : vs 16 = .bool false := hD 16 (by decide)
                        have dq23 : vs 23 = .bool true := hD 23 (by decide)
                        clear hD
                        try dsimp only at hK ⊢
                        simp only [Act.put, List.setIfInBounds_toArray, List.set_cons_succ, List.set_cons_zero] at hK
                        generalize vs 16 = vq16 at hK dq16 ⊢
                        subst vq16
                        generalize vs 23 = vq23 at hK dq23 ⊢
                        subst vq23
                        go_wp2
                        exact hK _ _ rfl (Mod.refl _ _)
                      refine opsOkA_cons ?_ ?_
                      · intro K vs W hR hD hK
                        have dq24 : vs 24 = .bool true := hD 24 (by decide)
                        clear hD
                        try dsimp only at hK ⊢
                        simp only [Act.put, List.setIfInBounds_toArray, List.set_cons_succ, List.set_cons_zero] at hK
                        generalize vs 24 = vq24 at hK dq24 ⊢
                        subst vq24
                        go_wp2
                        exact hK _ _ rfl (Mod.refl _ _)
                      refine opsOkA_cons ?_ ?_
                      · intro K vs W hR hD hK
                        have dq24 : vs 24 = .bool true := hD 24 (by decide)
                        clear hD
                        try dsimp only at hK ⊢
                        simp only [Act.put, List.setIfInBounds_toArray, List.set_cons_succ, List.set_cons_zero] at hK
                        generalize vs 24 = vq24 at hK dq24 ⊢
                        subst vq24
                        go_wp2
                        exact hK _ _ rfl (Mod.refl _ _)
                      refine opsOkA_cons ?_ ?_
                      · intro K vs W hR hD hK
                        have dq24 : vs 24 = .bool true := hD 24 (by decide)
                        have dq25 : vs 25 = .slice al n3 cl := hD 25 (by decide)
                        have dq26 : vs 26 = .int .i64 (q : Int) := hD 26 (by decide)
                        clear hD
                        try dsimp only at hK ⊢
                        simp only [Act.put, List.setIfInBounds_toArray, List.set_cons_succ, List.set_cons_zero] at hK
                        generalize vs 24 = vq24 at hK dq24 ⊢
                        subst vq24
                        generalize vs 25 = vq25 at hK dq25 ⊢
                        subst vq25
                        generalize vs 26 = vq26 at hK dq26 ⊢
                        subst vq26
                        have hix := HIgb.out
                        go_wp2_with fail
                        exact hK _ _ rfl (Mod.refl _ _)
                      refine opsOkA_cons ?_ ?_
                      · intro K vs W hR hD hK
                        have dq24 : vs 24 = .bool true := hD 24 (by decide)
                        have dq27 : vs 27 = .pointer (some ⟨gb, go_, none⟩) := hD 27 (by decide)
                        clear hD
                        try dsimp only at hK ⊢
                        simp only [Act.put, List.setIfInBounds_toArray, List.set_cons_succ, List.set_cons_zero] at hK
                        generalize vs 24 = vq24 at hK dq24 ⊢
                        subst vq24
                        generalize vs 27 = vq27 at hK dq27 ⊢
                        subst vq27
                        go_wp2
                        exact hK _ _ rfl (Mod.refl _ _)
                      refine opsOkA_cons ?_ ?_
                      · intro K vs W hR hD hK
                        have dq24 : vs 24 = .bool true := hD 24 (by decide)
                        have dq28 : vs 28 = .pointer (some ⟨gb, go_ + 1, none⟩) := hD 28 (by decide)
                        clear hD
                        try dsimp only at hK ⊢
                        simp only [Act.put, List.setIfInBounds_toArray, List.set_cons_succ, List.set_cons_zero] at hK
                        generalize vs 24 = vq24 at hK dq24 ⊢
                        subst vq24
                        generalize vs 28 = vq28 at hK dq28 ⊢
                        subst vq28
                        have c0 := ((HSd.out.at ((Mod.up hR))).2.1).2
                        go_wp2
                        exact hK _ _ rfl (Mod.refl _ _)
                      refine opsOkA_cons ?_ ?_
                      · intro K vs W hR hD hK
                        have dq24 : vs 24 = .bool true := hD 24 (by decide)
                        clear hD
                        try dsimp only at hK ⊢
                        simp only [Act.put, List.setIfInBounds_toArray, List.set_cons_succ, List.set_cons_zero] at hK
                        generalize vs 24 = vq24 at hK dq24 ⊢
                        subst vq24
                        go_wp2
                        exact hK _ _ rfl (Mod.refl _ _)
                      refine opsOkA_cons ?_ ?_
                      · intro K vs W hR hD hK
                        have dq24 : vs 24 = .bool true := hD 24 (by decide)
                        have dq29 : vs 29 = .int .i64 vq := hD 29 (by decide)
                        have dq30 : vs 30 = .int .i64 mine := hD 30 (by decide)
                        clear hD
                        try dsimp only at hK ⊢
                        simp only [Act.put, List.setIfInBounds_toArray, List.set_cons_succ, List.set_cons_zero] at hK
                        generalize vs 24 = vq24 at hK dq24 ⊢
                        subst vq24
                        generalize vs 29 = vq29 at hK dq29 ⊢
                        subst vq29
                        generalize vs 30 = vq30 at hK dq30 ⊢
                        subst vq30
                        have zv := ZV.out
                        go_wp2
                        exact hK _ _ rfl (Mod.refl _ _)
                      refine opsOkA_cons ?_ ?_
                      · intro K vs W hR hD hK
                        have dq16 : vs 16 = .bool false := hD 16 (by decide)
                        have dq24 : vs 24 = .bool true := hD 24 (by decide)
                        have dq31 : vs 31 = .bool false := hD 31 (by decide)
                        clear hD
                        try dsimp only at hK ⊢
                        simp only [Act.put, List.setIfInBounds_toArray, List.set_cons_succ, List.set_cons_zero] at hK
                        generalize vs 16 = vq16 at hK dq16 ⊢
                        subst vq16
                        generalize vs 24 = vq24 at hK dq24 ⊢
                        subst vq24
                        generalize vs 31 = vq31 at hK dq31 ⊢
                        subst vq31
                        go_wp2
                        exact hK _ _ rfl (Mod.refl _ _)
                      refine opsOkA_cons ?_ ?_
                      · intro K vs W hR hD hK
                        have dq16 : vs 16 = .bool false := hD 16 (by decide)
                        have dq32 : vs 32 = .bool false := hD 32 (by decide)
                        clear hD
                        try dsimp only at hK ⊢
                        simp only [Act.put, List.setIfInBounds_toArray, List.set_cons_succ, List.set_cons_zero] at hK
                        generalize vs 16 = vq16 at hK dq16 ⊢
                        subst vq16
                        generalize vs 32 = vq32 at hK dq32 ⊢
                        subst vq32
                        go_wp2
                        exact hK _ _ rfl (Mod.refl _ _)
                      exact opsOkA_nil
                    · intro vs wq11 hR hF
                      have dq33 : vs 33 = .bool false := hF 33 (by decide)
                      clear hF
                      try dsimp only
                      generalize vs 33 = vq33 at dq33 ⊢
                      subst dq33
                      replace HS := Lib.hid (HSd.out.step (Mod.up hR))
                      have HSO1 := Lib.hid (HSO.out.keep (F := fun _ => False) ((Mod.drew _ _).of2 hR) (fun e => e))
                      clear HSO
                      have HSO := HSO1
                      clear HSO1
                      clear HSd hR
                      go_wp2_with fail
                      go_roundw
                      case rel => exact ⟨q + 1, hlq, by go_num, HSO.out, (HS.out.now).2.2.1⟩
                      case measure => simp [intOf]; omega
                  case neg =>
                    have zt : ((tq : Int) == (kk : Int)) = false := beq_eq_false_iff_ne.2 (by omega)
                    have ZT := Lib.hid zt
                    clear zt
                    go_upto_region 28 with fail
                    have HSd := Lib.hid HS.out.drew
                    refine wp_region_inv3 (act := ?actal_r28_2) (Mod (fun _ => False)) (fun i => (al_r28_2_F kk al n3 cl q q1 tq gb go_ tp hb ho).getD i (fun _ _ => True)) (fun i => al_r28_2_D.getD i []) (by kernel_rfl) (by kernel_rfl) (by kernel_rfl) (by kernel_rfl) (fun _ => Mod.refl _ _)
                      (fun _ _ _ h k => h.trans k (fun _ _ e => e) (fun _ _ e => e)) ?hactal_r28_2 (stable_list ?_) ?_ ?_
                    case hactal_r28_2 => intro vs; simp only [putAll, Nat.zero_add, Nat.reduceAdd, Act.put, List.setIfInBounds_toArray, List.set_cons_succ, List.set_cons_zero]; exact rfl
                    · unfold al_r28_2_F
                      exact stable_cons (stable_val _) <| stable_cons (stable_val _) <| stable_cons (stable_val _) <| stable_cons (stable_val _) <| stable_cons (stable_val _) <| stable_cons (stable_val _) <| stable_cons (stable_val _) <| stable_cons (stable_val _) <| stable_cons (stable_val _) <| stable_cons (stable_val _) <| stable_cons (stable_val _) <| stable_cons (stable_val _) <| stable_cons (stable_val _) <| stable_cons (stable_val _) <| stable_cons (stable_val _) <| stable_cons (stable_val _) <| stable_cons (stable_val _) <| stable_cons (stable_val _) <| stable_cons (stable_val _) <| stable_cons (stable_val _) <| stable_cons (stable_val _) <| stable_cons (stable_val _) <| stable_cons (stable_val _) <| stable_cons (stable_val _) <| stable_cons (stable_val _) <| stable_cons (stable_val _) <| stable_cons (stable_val _) <| stable_cons (stable_val _) <| stable_cons (stable_val _) <| stable_cons (stable_val _) <| stable_cons (stable_val _) <| stable_cons (stable_val _) <| stable_cons (stable_val _) <| stable_cons (stable_val _) <| stable_nil
                    · refine opsOkA_cons ?_ ?_
                      · intro K vs W hR hD hK
                        clear hD
                        try dsimp only at hK ⊢
                        simp only [Act.put, List.setIfInBounds_toArray, List.set_cons_succ, List.set_cons_zero] at hK
                        go_wp2
                        exact hK _ _ rfl (Mod.refl _ _)
                      refine opsOkA_cons ?_ ?_
                      · intro K vs W hR hD hK
                        have dq0 : vs 0 = .int .i64 (q : Int) := hD 0 (by decide)
                        clear hD
                        try dsimp only at hK ⊢
                        simp only [Act.put, List.setIfInBounds_toArray, List.set_cons_succ, List.set_cons_zero] at hK
                        generalize vs 0 = vq0 at hK dq0 ⊢
                        subst vq0
                        have zz : decide ((0 : Int) < (q : Int)) = true := by simp; omega
                        go_wp2
                        exact hK _ _ rfl (Mod.refl _ _)
                      refine opsOkA_cons ?_ ?_
                      · intro K vs W hR hD hK
                        have dq1 : vs 1 = .bool true := hD 1 (by decide)
                        clear hD
                        try dsimp only at hK ⊢
                        simp only [Act.put, List.setIfInBounds_toArray, List.set_cons_succ, List.set_cons_zero] at hK
                        generalize vs 1 = vq1 at hK dq1 ⊢
                        subst vq1
                        go_wp2
                        exact hK _ _ rfl (Mod.refl _ _)
                      refine opsOkA_cons ?_ ?_
                      · intro K vs W hR hD hK
                        have dq2 : vs 2 = .bool true := hD 2 (by decide)
                        clear hD
                        try dsimp only at hK ⊢
                        simp only [Act.put, List.setIfInBounds_toArray, List.set_cons_succ, List.set_cons_zero] at hK
                        generalize vs 2 = vq2 at hK dq2 ⊢
                        subst vq2
                        go_wp2
                        exact hK _ _ rfl (Mod.refl _ _)
                      refine opsOkA_cons ?_ ?_
                      · intro K vs W hR hD hK
                        have dq2 : vs 2 = .bool true := hD 2 (by decide)
                        clear hD
                        try dsimp only at hK ⊢
                        simp only [Act.put, List.setIfInBounds_toArray, List.set_cons_succ, List.set_cons_zero] at hK
                        generalize vs 2 = vq2 at hK dq2 ⊢
                        subst vq2
                        go_wp2
                        exact hK _ _ rfl (Mod.refl _ _)
                      refine opsOkA_cons ?_ ?_
                      · intro K vs W hR hD hK
                        have dq2 : vs 2 = .bool true := hD 2 (by decide)
                        have dq4 : vs 4 = .int .i64 (q : Int) := hD 4 (by decide)
                        clear hD
                        try dsimp only at hK ⊢
                        simp only [Act.put, List.setIfInBounds_toArray, List.set_cons_succ, List.set_cons_zero] at hK
                        generalize vs 2 = vq2 at hK dq2 ⊢
                        subst vq2
                        generalize vs 4 = vq4 at hK dq4 ⊢
                        subst vq4
                        have zq1 := HQ1.out
                        go_wp2
                        exact hK _ _ rfl (Mod.refl _ _)
                      refine opsOkA_cons ?_ ?_
                      · intro K vs W hR hD hK
                        have dq2 : vs 2 = .bool true := hD 2 (by decide)
                        have dq3 : vs 3 = .slice al n3 cl := hD 3 (by decide)
                        have dq5 : vs 5 = .int .i64 (q1 : Int) := hD 5 (by decide)
                        clear hD
                        try dsimp only at hK ⊢
                        simp only [Act.put, List.setIfInBounds_toArray, List.set_cons_succ, List.set_cons_zero] at hK
                        generalize vs 2 = vq2 at hK dq2 ⊢
                        subst vq2
                        generalize vs 3 = vq3 at hK dq3 ⊢
                        subst vq3
                        generalize vs 5 = vq5 at hK dq5 ⊢
                        subst vq5
                        have hix := HIhb.out
                        go_wp2_with fail
                        exact hK _ _ rfl (Mod.refl _ _)
                      refine opsOkA_cons ?_ ?_
                      · intro K vs W hR hD hK
                        have dq2 : vs 2 = .bool true := hD 2 (by decide)
                        have dq6 : vs 6 = .pointer (some ⟨hb, ho, none⟩) := hD 6 (by decide)
                        clear hD
                        try dsimp only at hK ⊢
                        simp only [Act.put, List.setIfInBounds_toArray, List.set_cons_succ, List.set_cons_zero] at hK
                        generalize vs 2 = vq2 at hK dq2 ⊢
                        subst vq2
                        generalize vs 6 = vq6 at hK dq6 ⊢
                        subst vq6
                        go_wp2
                        exact hK _ _ rfl (Mod.refl _ _)
                      refine opsOkA_cons ?_ ?_
                      · intro K vs W hR hD hK
                        have dq2 : vs 2 = .bool true := hD 2 (by decide)
                        have dq7 : vs 7 = .pointer (some ⟨hb, ho, none⟩) := hD 7 (by decide)
                        clear hD
                        try dsimp only at hK ⊢
                        simp only [Act.put, List.setIfInBounds_toArray, List.set_cons_succ, List.set_cons_zero] at hK
                        generalize vs 2 = vq2 at hK dq2 ⊢
                        subst vq2
                        generalize vs 7 = vq7 at hK dq7 ⊢
                        subst vq7
                        have c0 := ((HSd.out.at ((Mod.up hR))).1).1
                        go_wp2
                        exact hK _ _ rfl (Mod.refl _ _)
                      refine opsOkA_cons ?_ ?_
                      · intro K vs W hR hD hK
                        have dq2 : vs 2 = .bool true := hD 2 (by decide)
                        clear hD
                        try dsimp only at hK ⊢
                        simp only [Act.put, List.setIfInBounds_toArray, List.set_cons_succ, List.set_cons_zero] at hK
                        generalize vs 2 = vq2 at hK dq2 ⊢
                        subst vq2
                        go_wp2
                        exact hK _ _ rfl (Mod.refl _ _)
                      refine opsOkA_cons ?_ ?_
                      · intro K vs W hR hD hK
                        have dq2 : vs 2 = .bool true := hD 2 (by decide)
                        clear hD
                        try dsimp only at hK ⊢
                        simp only [Act.put, List.setIfInBounds_toArray, List.set_cons_succ, List.set_cons_zero] at hK
                        generalize vs 2 = vq2 at hK dq2 ⊢
                        subst vq2
                        go_wp2
                        exact hK _ _ rfl (Mod.refl _ _)
                      refine opsOkA_cons ?_ ?_
                      · intro K vs W hR hD hK
                        have dq2 : vs 2 = .bool true := hD 2 (by decide)
                        have dq9 : vs 9 = .slice al n3 cl := hD 9 (by decide)
                        have dq10 : vs 10 = .int .i64 (q : Int) := hD 10 (by decide)
                        clear hD
                        try dsimp only at hK ⊢
                        simp only [Act.put, List.setIfInBounds_toArray, List.set_cons_succ, List.set_cons_zero] at hK
                        generalize vs 2 = vq2 at hK dq2 ⊢
                        subst vq2
                        generalize vs 9 = vq9 at hK dq9 ⊢
                        subst vq9
                        generalize vs 10 = vq10 at hK dq10 ⊢
                        subst vq10
                        have hix := HIgb.out
                        go_wp2_with fail
                        exact hK _ _ rfl (Mod.refl _ _)
                      refine opsOkA_cons ?_ ?_
                      · intro K vs W hR hD hK
                        have dq2 : vs 2 = .bool true := hD 2 (by decide)
                        have dq11 : vs 11 = .pointer (some ⟨gb, go_, none⟩) := hD 11 (by decide)
                        clear hD
                        try dsimp only at hK ⊢
                        simp only [Act.put, List.setIfInBounds_toArray, List.set_cons_succ, List.set_cons_zero] at hK
                        generalize vs 2 = vq2 at hK dq2 ⊢
                        subst vq2
                        generalize vs 11 = vq11 at hK dq11 ⊢
                        subst vq11
                        go_wp2
                        exact hK _ _ rfl (Mod.refl _ _)
                      refine opsOkA_cons ?_ ?_
                      · intro K vs W hR hD hK
                        have dq2 : vs 2 = .bool true := hD 2 (by decide)
                        have dq12 : vs 12 = .pointer (some ⟨gb, go_, none⟩) := hD 12 (by decide)
                        clear hD
                        try dsimp only at hK ⊢
                        simp only [Act.put, List.setIfInBounds_toArray, List.set_cons_succ, List.set_cons_zero] at hK
                        generalize vs 2 = vq2 at hK dq2 ⊢
                        subst vq2
                        generalize vs 12 = vq12 at hK dq12 ⊢
                        subst vq12
                        have c0 := ((HSd.out.at ((Mod.up hR))).2.1).1
                        go_wp2
                        exact hK _ _ rfl (Mod.refl _ _)
                      refine opsOkA_cons ?_ ?_
                      · intro K vs W hR hD hK
                        have dq2 : vs 2 = .bool true := hD 2 (by decide)
                        have dq8 : vs 8 = .int .i64 (tp : Int) := hD 8 (by decide)
                        have dq13 : vs 13 = .int .i64 (tq : Int) := hD 13 (by decide)
                        clear hD
                        try dsimp only at hK ⊢
                        simp only [Act.put, List.setIfInBounds_toArray, List.set_cons_succ, List.set_cons_zero] at hK
                        generalize vs 2 = vq2 at hK dq2 ⊢
                        subst vq2
                        generalize vs 8 = vq8 at hK dq8 ⊢
                        subst vq8
                        generalize vs 13 = vq13 at hK dq13 ⊢
                        subst vq13
                        have zg := hgeq
                        go_wp2
                        exact hK _ _ rfl (Mod.refl _ _)
                      refine opsOkA_cons ?_ ?_
                      · intro K vs W hR hD hK
                        have dq2 : vs 2 = .bool true := hD 2 (by decide)
                        have dq14 : vs 14 = .bool false := hD 14 (by decide)
                        clear hD
                        try dsimp only at hK ⊢
                        simp only [Act.put, List.setIfInBounds_toArray, List.set_cons_succ, List.set_cons_zero] at hK
                        generalize vs 2 = vq2 at hK dq2 ⊢
                        subst vq2
                        generalize vs 14 = vq14 at hK dq14 ⊢
                        subst vq14
                        go_wp2
                        exact hK _ _ rfl (Mod.refl _ _)
                      refine opsOkA_cons ?_ ?_
                      · intro K vs W hR hD hK
                        have dq15 : vs 15 = .bool false := hD 15 (by decide)
                        clear hD
                        try dsimp only at hK ⊢
                        simp only [Act.put, List.setIfInBounds_toArray, List.set_cons_succ, List.set_cons_zero] at hK
                        generalize vs 15 = vq15 at hK dq15 ⊢
                        subst vq15
                        go_wp2
                        exact hK _ _ rfl (Mod.refl _ _)
                      refine opsOkA_cons ?_ ?_
                      · intro K vs W hR hD hK
                        have dq16 : vs 16 = .bool false := hD 16 (by decide)
                        clear hD
                        try dsimp only at hK ⊢
                        simp only [Act.put, List.setIfInBounds_toArray, List.set_cons_succ, List.set_cons_zero] at hK
                        generalize vs 16 = vq16 at hK dq16 ⊢
                        subst vq16
                        go_wp2
                        exact hK _ _ rfl (Mod.refl _ _)
                      refine opsOkA_cons ?_ ?_
                      · intro K vs W hR hD hK
                        have dq16 : vs 16 = .bool false := hD 16 (by decide)
                        clear hD
                        try dsimp only at hK ⊢
                        simp only [Act.put, List.setIfInBounds_toArray, List.set_cons_succ, List.set_cons_zero] at hK
                        generalize vs 16 = vq16 at hK dq16 ⊢
                        subst vq16
                        go_wp2
                        exact hK _ _ rfl (Mod.refl _ _)
                      refine opsOkA_cons ?_ ?_
                      · intro K vs W hR hD hK
                        have dq16 : vs 16 = .bool false := hD 16 (by decide)
                        have dq17 : vs 17 = .slice al n3 cl := hD 17 (by decide)
                        have dq18 : vs 18 = .int .i64 (q : Int) := hD 18 (by decide)
                        clear hD
                        try dsimp only at hK ⊢
                        simp only [Act.put, List.setIfInBounds_toArray, List.set_cons_succ, List.set_cons_zero] at hK
                        generalize vs 16 = vq16 at hK dq16 ⊢
                        subst vq16
                        generalize vs 17 = vq17 at hK dq17 ⊢
                        subst vq17
                        generalize vs 18 = vq18 at hK dq18 ⊢
                        subst vq18
                        have hix := HIgb.out
                        go_wp2_with fail
                        exact hK _ _ rfl (Mod.refl _ _)
                      refine opsOkA_cons ?_ ?_
                      · intro K vs W hR hD hK
                        have dq16 : vs 16 = .bool false := hD 16 (by decide)
                        have dq19 : vs 19 = .pointer (some ⟨gb, go_, none⟩) := hD 19 (by decide)
                        clear hD
                        try dsimp only at hK ⊢
                        simp only [Act.put, List.setIfInBounds_toArray, List.set_cons_succ, List.set_cons_zero] at hK
                        generalize vs 16 = vq16 at hK dq16 ⊢
                        subst vq16
                        generalize vs 19 = vq19 at hK dq19 ⊢
                        subst vq19
                        go_wp2
                        exact hK _ _ rfl (Mod.refl _ _)
                      refine opsOkA_cons ?_ ?_
                      · intro K vs W hR hD hK
                        have dq16 : vs 16 = .bool false := hD 16 (by decide)
                        have dq20 : vs 20 = .pointer (some ⟨gb, go_, none⟩) := hD 20 (by decide)
                        clear hD
                        try dsimp only at hK ⊢
                        simp only [Act.put, List.setIfInBounds_toArray, List.set_cons_succ, List.set_cons_zero] at hK
                        generalize vs 16 = vq16 at hK dq16 ⊢
                        subst vq16
                        generalize vs 20 = vq20 at hK dq20 ⊢
                        subst vq20
                        have c0 := ((HSd.out.at ((Mod.up hR))).2.1).1
                        go_wp2
                        exact hK _ _ rfl (Mod.refl _ _)
                      refine opsOkA_cons ?_ ?_
                      · intro K vs W hR hD hK
                        have dq16 : vs 16 = .bool false := hD 16 (by decide)
                        clear hD
                        try dsimp only at hK ⊢
                        simp only [Act.put, List.setIfInBounds_toArray, List.set_cons_succ, List.set_cons_zero] at hK
                        generalize vs 16 = vq16 at hK dq16 ⊢
                        subst vq16
                        go_wp2
                        exact hK _ _ rfl (Mod.refl _ _)
                      refine opsOkA_cons ?_ ?_
                      · intro K vs W hR hD hK
                        have dq16 : vs 16 = .bool false := hD 16 (by decide)
                        have dq21 : vs 21 = .int .i64 (tq : Int) := hD 21 (by decide)
                        have dq22 : vs 22 = .int .i64 (kk : Int) := hD 22 (by decide)
                        clear hD
                        try dsimp only at hK ⊢
                        simp only [Act.put, List.setIfInBounds_toArray, List.set_cons_succ, List.set_cons_zero] at hK
                        generalize vs 16 = vq16 at hK dq16 ⊢
                        subst vq16
                        generalize vs 21 = vq21 at hK dq21 ⊢
                        subst vq21
                        generalize vs 22 = vq22 at hK dq22 ⊢
                        subst vq22
                        have zt := ZT.out
                        go_wp2
                        exact hK _ _ rfl (Mod.refl _ _)
                      refine opsOkA_cons ?_ ?_
                      · intro K vs W hR hD hK
                        have dq16 : vs 16 = .bool false := hD 16 (by decide)
                        have dq23 : vs 23 = .bool false := hD 23 (by decide)
                        clear hD
                        try dsimp only at hK ⊢
                        simp only [Act.put, List.setIfInBounds_toArray, List.set_cons_succ, List.set_cons_zero] at hK
                        generalize vs 16 = vq16 at hK dq16 ⊢
                        subst vq16
                        generalize vs 23 = vq23 at hK dq23 ⊢
                        subst vq23
                        go_wp2
                        exact hK _ _ rfl (Mod.refl _ _)
                      refine opsOkA_cons ?_ ?_
                      · intro K vs W hR hD hK
                        have dq24 : vs 24 = .bool false := hD 24 (by decide)
                        clear hD
                        try dsimp only at hK ⊢
                        simp only [Act.put, List.setIfInBounds_toArray, List.set_cons_succ, List.set_cons_zero] at hK
                        generalize vs 24 = vq24 at hK dq24 ⊢
                        subst vq24
                        go_wp2
                        exact hK _ _ rfl (Mod.refl _ _)
                      refine opsOkA_cons ?_ ?_
                      · intro K vs W hR hD hK
                        have dq24 : vs 24 = .bool false := hD 24 (by decide)
                        clear hD
                        try dsimp only at hK ⊢
                        simp only [Act.put, List.setIfInBounds_toArray, List.set_cons_succ, List.set_cons_zero] at hK
                        generalize vs 24 = vq24 at hK dq24 ⊢
                        subst vq24
                        go_wp2
                        exact hK _ _ rfl (Mod.refl _ _)
                      refine opsOkA_cons ?_ ?_
                      · intro K vs W hR hD hK
                        have dq24 : vs 24 = .bool false := hD 24 (by decide)
                        clear hD
                        try dsimp only at hK ⊢
                        simp only [Act.put, List.setIfInBounds_toArray, List.set_cons_succ, List.set_cons_zero] at hK
                        generalize vs 24 = vq24 at hK dq24 ⊢
                        subst vq24
                        go_wp2_with fail
                        exact hK _ _ rfl (Mod.refl _ _)
                      refine opsOkA_cons ?_ ?_
                      · intro K vs W hR hD hK
                        have dq24 : vs 24 = .bool false := hD 24 (by decide)
                        clear hD
                        try dsimp only at hK ⊢
                        simp only [Act.put, List.setIfInBounds_toArray, List.set_cons_succ, List.set_cons_zero] at hK
                        generalize vs 24 = vq24 at hK dq24 ⊢
                        subst vq24
                        go_wp2
                        exact hK _ _ rfl (Mod.refl _ _)
                      refine opsOkA_cons ?_ ?_
                      · intro K vs W hR hD hK
                        have dq24 : vs 24 = .bool false := hD 24 (by decide)
                        clear hD
                        try dsimp only at hK ⊢
                        simp only [Act.put, List.setIfInBounds_toArray, List.set_cons_succ, List.set_cons_zero] at hK
                        generalize vs 24 = vq24 at hK dq24 ⊢
                        subst vq24
                        go_wp2
                        exact hK _ _ rfl (Mod.refl _ _)
                      refine opsOkA_cons ?_ ?_
                      · intro K vs W hR hD hK
                        have dq24 : vs 24 = .bool false := hD 24 (by decide)
                        clear hD
                        try dsimp only at hK ⊢
                        simp only [Act.put, List.setIfInBounds_toArray, List.set_cons_succ, List.set_cons_zero] at hK
                        generalize vs 24 = vq24 at hK dq24 ⊢
                        subst vq24
                        go_wp2
                        exact hK _ _ rfl (Mod.refl _ _)
                      refine opsOkA_cons ?_ ?_
                      · intro K vs W hR hD hK
                        have dq24 : vs 24 = .bool false := hD 24 (by decide)
                        clear hD
                        try dsimp only at hK ⊢
                        simp only [Act.put, List.setIfInBounds_toArray, List.set_cons_succ, List.set_cons_zero] at hK
                        generalize vs 24 = vq24 at hK dq24 ⊢
                        subst vq24
                        go_wp2
                        exact hK _ _ rfl (Mod.refl _ _)
                      refine opsOkA_cons ?_ ?_
                      · intro K vs W hR hD hK
                        have dq16 : vs 16 = .bool false := hD 16 (by decide)
                        have dq24 : vs 24 = .bool false := hD 24 (by decide)
                        have dq31 : vs 31 = undef := hD 31 (by decide)
                        clear hD
                        try dsimp only at hK ⊢
                        simp only [Act.put, List.setIfInBounds_toArray, List.set_cons_succ, List.set_cons_zero] at hK
                        generalize vs 16 = vq16 at hK dq16 ⊢
                        subst vq16
                        generalize vs 24 = vq24 at hK dq24 ⊢
                        subst vq24
                        generalize vs 31 = vq31 at hK dq31 ⊢
                        subst vq31
                        go_wp2
                        exact hK _ _ rfl (Mod.refl _ _)
                      refine opsOkA_cons ?_ ?_
                      · intro K vs W hR hD hK
                        have dq16 : vs 16 = .bool false := hD 16 (by decide)
                        have dq32 : vs 32 = .bool false := hD 32 (by decide)
                        clear hD
                        try dsimp only at hK ⊢
                        simp only [Act.put, List.setIfInBounds_toArray, List.set_cons_succ, List.set_cons_zero] at hK
                        generalize vs 16 = vq16 at hK dq16 ⊢
                        subst vq16
                        generalize vs 32 = vq32 at hK dq32 ⊢
                        subst vq32
                        go_wp2
                        exact hK _ _ rfl (Mod.refl _ _)
                      exact opsOkA_nil
                    · intro vs wq12 hR hF
                      have dq33 : vs 33 = .bool false := hF 33 (by decide)
                      clear hF
                      try dsimp only
                      generalize vs 33 = vq33 at dq33 ⊢
                      subst dq33
                      replace HS := Lib.hid (HSd.out.step (Mod.up hR))
                      have HSO1 := Lib.hid (HSO.out.keep (F := fun _ => False) ((Mod.drew _ _).of2 hR) (fun e => e))
                      clear HSO
                      have HSO := HSO1
                      clear HSO1
                      clear HSd hR
                      go_wp2_with fail
                      go_roundw
                      case rel => exact ⟨q + 1, hlq, by go_num, HSO.out, (HS.out.now).2.2.1⟩
                      case measure => simp [intOf]; omega
                case neg =>
                  by_cases htk : tq = kk
                  case pos =>
                    have zt : ((tq : Int) == (kk : Int)) = true := by simp [htk]
                    have zv : (vq != mine) = false := by have h1 := HVQ.out; rw [htk, HMI.out] at h1; simp [h1]
                    have HTK := Lib.hid htk
                    clear htk
                    have ZT := Lib.hid zt
                    clear zt
                    have ZV := Lib.hid zv
                    clear zv
                    go_upto_region 28 with fail
                    have HSd := Lib.hid HS.out.drew
                    refine wp_region_inv3 (act := ?actal_r28_3) (Mod (fun _ => False)) (fun i => (al_r28_3_F kk mine al n3 cl q tq vq gb go_).getD i (fun _ _ => True)) (fun i => al_r28_3_D.getD i []) (by kernel_rfl) (by kernel_rfl) (by kernel_rfl) (by kernel_rfl) (fun _ => Mod.refl _ _)
                      (fun _ _ _ h k => h.trans k (fun _ _ e => e) (fun _ _ e => e)) ?hactal_r28_3 (stable_list ?_) ?_ ?_
                    case hactal_r28_3 => intro vs; simp only [putAll, Nat.zero_add, Nat.reduceAdd, Act.put, List.setIfInBounds_toArray, List.set_cons_succ, List.set_cons_zero]; exact rfl
                    · unfold al_r28_3_F
                      exact stable_cons (stable_val _) <| stable_cons (stable_val _) <| stable_cons (stable_val _) <| stable_cons (stable_val _) <| stable_cons (stable_val _) <| stable_cons (stable_val _) <| stable_cons (stable_val _) <| stable_cons (stable_val _) <| stable_cons (stable_val _) <| stable_cons (stable_val _) <| stable_cons (stable_val _) <| stable_cons (stable_val _) <| stable_cons (stable_val _) <| stable_cons (stable_val _) <| stable_cons (stable_val _) <| stable_cons (stable_val _) <| stable_cons (stable_val _) <| stable_cons (stable_val _) <| stable_cons (stable_val _) <| stable_cons (stable_val _) <| stable_cons (stable_val _) <| stable_cons (stable_val _) <| stable_cons (stable_val _) <| stable_cons (stable_val _) <| stable_cons (stable_val _) <| stable_cons (stable_val _) <| stable_cons (stable_val _) <| stable_cons (stable_val _) <| stable_cons (stable_val _) <| stable_cons (stable_val _) <| stable_cons (stable_val _) <| stable_cons (stable_val _) <| stable_cons (stable_val _) <| stable_cons (stable_val _) <| stable_nil
                    · refine opsOkA_cons ?_ ?_
                      · intro K vs W hR hD hK
                        clear hD
                        try dsimp only at hK ⊢
                        simp only [Act.put, List.setIfInBounds_toArray, List.set_cons_succ, List.set_cons_zero] at hK
                        go_wp2
                        exact hK _ _ rfl (Mod.refl _ _)
                      refine opsOkA_cons ?_ ?_
                      · intro K vs W hR hD hK
                        have dq0 : vs 0 = .int .i64 (q : Int) := hD 0 (by decide)
                        clear hD
                        try dsimp only at hK ⊢
                        simp only [Act.put, List.setIfInBounds_toArray, List.set_cons_succ, List.set_cons_zero] at hK
                        generalize vs 0 = vq0 at hK dq0 ⊢
                        subst vq0
                        have zz : decide ((0 : Int) < (q : Int)) = false := by simp; omega
                        go_wp2
                        exact hK _ _ rfl (Mod.refl _ _)
                      refine opsOkA_cons ?_ ?_
                      · intro K vs W hR hD hK
                        have dq1 : vs 1 = .bool false := hD 1 (by decide)
                        clear hD
                        try dsimp only at hK ⊢
                        simp only [Act.put, List.setIfInBounds_toArray, List.set_cons_succ, List.set_cons_zero] at hK
                        generalize vs 1 = vq1 at hK dq1 ⊢
                        subst vq1
                        go_wp2
                        exact hK _ _ rfl (Mod.refl _ _)
                      refine opsOkA_cons ?_ ?_
                      · intro K vs W hR hD hK
                        have dq2 : vs 2 = .bool false := hD 2 (by decide)
                        clear hD
                        try dsimp only at hK ⊢
                        simp only [Act.put, List.setIfInBounds_toArray, List.set_cons_succ, List.set_cons_zero] at hK
                        generalize vs 2 = vq2 at hK dq2 ⊢
                        subst vq2
                        go_wp2
                        exact hK _ _ rfl (Mod.refl _ _)
                      refine opsOkA_cons ?_ ?_
                      · intro K vs W hR hD hK
                        have dq2 : vs 2 = .bool false := hD 2 (by decide)
                        clear hD
                        try dsimp only at hK ⊢
                        simp only [Act.put, List.setIfInBounds_toArray, List.set_cons_succ, List.set_cons_zero] at hK
                        generalize vs 2 = vq2 at hK dq2 ⊢
                        subst vq2
                        go_wp2
                        exact hK _ _ rfl (Mod.refl _ _)
                      refine opsOkA_cons ?_ ?_
                      · intro K vs W hR hD hK
                        have dq2 : vs 2 = .bool false := hD 2 (by decide)
                        clear hD
                        try dsimp only at hK ⊢
                        simp only [Act.put, List.setIfInBounds_toArray, List.set_cons_succ, List.set_cons_zero] at hK
                        generalize vs 2 = vq2 at hK dq2 ⊢
                        subst vq2
                        go_wp2
                        exact hK _ _ rfl (Mod.refl _ _)
                      refine opsOkA_cons ?_ ?_
                      · intro K vs W hR hD hK
                        have dq2 : vs 2 = .bool false := hD 2 (by decide)
                        clear hD
                        try dsimp only at hK ⊢
                        simp only [Act.put, List.setIfInBounds_toArray, List.set_cons_succ, List.set_cons_zero] at hK
                        generalize vs 2 = vq2 at hK dq2 ⊢
                        subst vq2
                        go_wp2_with fail
                        exact hK _ _ rfl (Mod.refl _ _)
                      refine opsOkA_cons ?_ ?_
                      · intro K vs W hR hD hK
                        have dq2 : vs 2 = .bool false := hD 2 (by decide)
                        clear hD
                        try dsimp only at hK ⊢
                        simp only [Act.put, List.setIfInBounds_toArray, List.set_cons_succ, List.set_cons_zero] at hK
                        generalize vs 2 = vq2 at hK dq2 ⊢
                        subst vq2
                        go_wp2
                        exact hK _ _ rfl (Mod.refl _ _)
                      refine opsOkA_cons ?_ ?_
                      · intro K vs W hR hD hK
                        have dq2 : vs 2 = .bool false := hD 2 (by decide)
                        clear hD
                        try dsimp only at hK ⊢
                        simp only [Act.put, List.setIfInBounds_toArray, List.set_cons_succ, List.set_cons_zero] at hK
                        generalize vs 2 = vq2 at hK dq2 ⊢
                        subst vq2
                        go_wp2
                        exact hK _ _ rfl (Mod.refl _ _)
                      refine opsOkA_cons ?_ ?_
                      · intro K vs W hR hD hK
                        have dq2 : vs 2 = .bool false := hD 2 (by decide)
                        clear hD
                        try dsimp only at hK ⊢
                        simp only [Act.put, List.setIfInBounds_toArray, List.set_cons_succ, List.set_cons_zero] at hK
                        generalize vs 2 = vq2 at hK dq2 ⊢
                        subst vq2
                        go_wp2
                        exact hK _ _ rfl (Mod.refl _ _)
                      refine opsOkA_cons ?_ ?_
                      · intro K vs W hR hD hK
                        have dq2 : vs 2 = .bool false := hD 2 (by decide)
                        clear hD
                        try dsimp only at hK ⊢
                        simp only [Act.put, List.setIfInBounds_toArray, List.set_cons_succ, List.set_cons_zero] at hK
                        generalize vs 2 = vq2 at hK dq2 ⊢
                        subst vq2
                        go_wp2
                        exact hK _ _ rfl (Mod.refl _ _)
                      refine opsOkA_cons ?_ ?_
                      · intro K vs W hR hD hK
                        have dq2 : vs 2 = .bool false := hD 2 (by decide)
                        clear hD
                        try dsimp only at hK ⊢
                        simp only [Act.put, List.setIfInBounds_toArray, List.set_cons_succ, List.set_cons_zero] at hK
                        generalize vs 2 = vq2 at hK dq2 ⊢
                        subst vq2
                        go_wp2_with fail
                        exact hK _ _ rfl (Mod.refl _ _)
                      refine opsOkA_cons ?_ ?_
                      · intro K vs W hR hD hK
                        have dq2 : vs 2 = .bool false := hD 2 (by decide)
                        clear hD
                        try dsimp only at hK ⊢
                        simp only [Act.put, List.setIfInBounds_toArray, List.set_cons_succ, List.set_cons_zero] at hK
                        generalize vs 2 = vq2 at hK dq2 ⊢
                        subst vq2
                        go_wp2
                        exact hK _ _ rfl (Mod.refl _ _)
                      refine opsOkA_cons ?_ ?_
                      · intro K vs W hR hD hK
                        have dq2 : vs 2 = .bool false := hD 2 (by decide)
                        clear hD
                        try dsimp only at hK ⊢
                        simp only [Act.put, List.setIfInBounds_toArray, List.set_cons_succ, List.set_cons_zero] at hK
                        generalize vs 2 = vq2 at hK dq2 ⊢
                        subst vq2
                        go_wp2
                        exact hK _ _ rfl (Mod.refl _ _)
                      refine opsOkA_cons ?_ ?_
                      · intro K vs W hR hD hK
                        have dq2 : vs 2 = .bool false := hD 2 (by decide)
                        clear hD
                        try dsimp only at hK ⊢
                        simp only [Act.put, List.setIfInBounds_toArray, List.set_cons_succ, List.set_cons_zero] at hK
                        generalize vs 2 = vq2 at hK dq2 ⊢
                        subst vq2
                        go_wp2
                        exact hK _ _ rfl (Mod.refl _ _)
                      refine opsOkA_cons ?_ ?_
                      · intro K vs W hR hD hK
                        have dq2 : vs 2 = .bool false := hD 2 (by decide)
                        have dq14 : vs 14 = undef := hD 14 (by decide)
                        clear hD
                        try dsimp only at hK ⊢
                        simp only [Act.put, List.setIfInBounds_toArray, List.set_cons_succ, List.set_cons_zero] at hK
                        generalize vs 2 = vq2 at hK dq2 ⊢
                        subst vq2
                        generalize vs 14 = vq14 at hK dq14 ⊢
                        subst vq14
                        go_wp2
                        exact hK _ _ rfl (Mod.refl _ _)
                      refine opsOkA_cons ?_ ?_
                      · intro K vs W hR hD hK
                        have dq15 : vs 15 = .bool false := hD 15 (by decide)
                        clear hD
                        try dsimp only at hK ⊢
                        simp only [Act.put, List.setIfInBounds_toArray, List.set_cons_succ, List.set_cons_zero] at hK
                        generalize vs 15 = vq15 at hK dq15 ⊢
                        subst vq15
                        go_wp2
                        exact hK _ _ rfl (Mod.refl _ _)
                      refine opsOkA_cons ?_ ?_
                      · intro K vs W hR hD hK
                        have dq16 : vs 16 = .bool false := hD 16 (by decide)
                        clear hD
                        try dsimp only at hK ⊢
                        simp only [Act.put, List.setIfInBounds_toArray, List.set_cons_succ, List.set_cons_zero] at hK
                        generalize vs 16 = vq16 at hK dq16 ⊢
                        subst vq16
                        go_wp2
                        exact hK _ _ rfl (Mod.refl _ _)
                      refine opsOkA_cons ?_ ?_
                      · intro K vs W hR hD hK
                        have dq16 : vs 16 = .bool false := hD 16 (by decide)
                        clear hD
                        try dsimp only at hK ⊢
                        simp only [Act.put, List.setIfInBounds_toArray, List.set_cons_succ, List.set_cons_zero] at hK
                        generalize vs 16 = vq16 at hK dq16 ⊢
                        subst vq16
                        go_wp2
                        exact hK _ _ rfl (Mod.refl _ _)
                      refine opsOkA_cons ?_ ?_
                      · intro K vs W hR hD hK
                        have dq16 : vs 16 = .bool false := hD 16 (by decide)
                        have dq17 : vs 17 = .slice al n3 cl := hD 17 (by decide)
                        have dq18 : vs 18 = .int .i64 (q : Int) := hD 18 (by decide)
                        clear hD
                        try dsimp only at hK ⊢
                        simp only [Act.put, List.setIfInBounds_toArray, List.set_cons_succ, List.set_cons_zero] at hK
                        generalize vs 16 = vq16 at hK dq16 ⊢
                        subst vq16
                        generalize vs 17 = vq17 at hK dq17 ⊢
                        subst vq17
                        generalize vs 18 = vq18 at hK dq18 ⊢
                        subst vq18
                        have hix := HIgb.out
                        go_wp2_with fail
                        exact hK _ _ rfl (Mod.refl _ _)
                      refine opsOkA_cons ?_ ?_
                      · intro K vs W hR hD hK
                        have dq16 : vs 16 = .bool false := hD 16 (by decide)
                        have dq19 : vs 19 = .pointer (some ⟨gb, go_, none⟩) := hD 19 (by decide)
                        clear hD
                        try dsimp only at hK ⊢
                        simp only [Act.put, List.setIfInBounds_toArray, List.set_cons_succ, List.set_cons_zero] at hK
                        generalize vs 16 = vq16 at hK dq16 ⊢
                        subst vq16
                        generalize vs 19 = vq19 at hK dq19 ⊢
                        subst vq19
                        go_wp2
                        exact hK _ _ rfl (Mod.refl _ _)
                      refine opsOkA_cons ?_ ?_
                      · intro K vs W hR hD hK
                        have dq16 : vs 16 = .bool false := hD 16 (by decide)
                        have dq20 : vs 20 = .pointer (some ⟨gb, go_, none⟩) := hD 20 (by decide)
                        clear hD
                        try dsimp only at hK ⊢
                        simp only [Act.put, List.setIfInBounds_toArray, List.set_cons_succ, List.set_cons_zero] at hK
                        generalize vs 16 = vq16 at hK dq16 ⊢
                        subst vq16
                        generalize vs 20 = vq20 at hK dq20 ⊢
                        subst vq20
                        have c0 := ((HSd.out.at ((Mod.up hR))).1).1
                        go_wp2
                        exact hK _ _ rfl (Mod.refl _ _)
                      refine opsOkA_cons ?_ ?_
                      · intro K vs W hR hD hK
                        have dq16 : vs 16 = .bool false := hD 16 (by decide)
                        clear hD
                        try dsimp only at hK ⊢
                        simp only [Act.put, List.setIfInBounds_toArray, List.set_cons_succ, List.set_cons_zero] at hK
                        generalize vs 16 = vq16 at hK dq16 ⊢
                        subst vq16
                        go_wp2
                        exact hK _ _ rfl (Mod.refl _ _)
                      refine opsOkA_cons ?_ ?_
                      · intro K vs W hR hD hK
                        have dq16 : vs 16 = .bool false := hD 16 (by decide)
                        have dq21 : vs 21 = .int .i64 (tq : Int) := hD 21 (by decide)
                        have dq22 : vs 22 = .int .i64 (kk : Int) := hD 22 (by decide)
                        clear hD
                        try dsimp only at hK ⊢
                        simp only [Act.put, List.setIfInBounds_toArray, List.set_cons_succ, List.set_cons_zero] at hK
                        generalize vs 16 = vq16 at hK dq16 ⊢
                        subst vq16
                        generalize vs 21 = vq21 at hK dq21 ⊢
                        subst vq21
                        generalize vs 22 = vq22 at hK dq22 ⊢
                        subst vq22
                        have zt := ZT.out
                        go_wp2
                        exact hK _ _ rfl (Mod.refl _ _)
                      refine opsOkA_cons ?_ ?_
                      · intro K vs W hR hD hK
                        have dq16 : vs 16 = .bool false := hD 16 (by decide)
                        have dq23 : vs 23 = .bool true := hD 23 (by decide)
                        clear hD
                        try dsimp only at hK ⊢
                        simp only [Act.put, List.setIfInBounds_toArray, List.set_cons_succ, List.set_cons_zero] at hK
                        generalize vs 16 = vq16 at hK dq16 ⊢
                        subst vq16
                        generalize vs 23 = vq23 at hK dq23 ⊢
                        subst vq23
                        go_wp2
                        exact hK _ _ rfl (Mod.refl _ _)
                      refine opsOkA_cons ?_ ?_
                      · intro K vs W hR hD hK
                        have dq24 : vs 24 = .bool true := hD 24 (by decide)
                        clear hD
                        try dsimp only at hK ⊢
                        simp only [Act.put, List.setIfInBounds_toArray, List.set_cons_succ, List.set_cons_zero] at hK
                        generalize vs 24 = vq24 at hK dq24 ⊢
                        subst vq24
                        go_wp2
                        exact hK _ _ rfl (Mod.refl _ _)
                      refine opsOkA_cons ?_ ?_
                      · intro K vs W hR hD hK
                        have dq24 : vs 24 = .bool true := hD 24 (by decide)
                        clear hD
                        try dsimp only at hK ⊢
                        simp only [Act.put, List.setIfInBounds_toArray, List.set_cons_succ, List.set_cons_zero] at hK
                        generalize vs 24 = vq24 at hK dq24 ⊢
                        subst vq24
                        go_wp2
                        exact hK _ _ rfl (Mod.refl _ _)
                      refine opsOkA_cons ?_ ?_
                      · intro K vs W hR hD hK
                        have dq24 : vs 24 = .bool true := hD 24 (by decide)
                        have dq25 : vs 25 = .slice al n3 cl := hD 25 (by decide)
                        have dq26 : vs 26 = .int .i64 (q : Int) := hD 26 (by decide)
                        clear hD
                        try dsimp only at hK ⊢
                        simp only [Act.put, List.setIfInBounds_toArray, List.set_cons_succ, List.set_cons_zero] at hK
                        generalize vs 24 = vq24 at hK dq24 ⊢
                        subst vq24
                        generalize vs 25 = vq25 at hK dq25 ⊢
                        subst vq25
                        generalize vs 26 = vq26 at hK dq26 ⊢
                        subst vq26
                        have hix := HIgb.out
                        go_wp2_with fail
                        exact hK _ _ rfl (Mod.refl _ _)
                      refine opsOkA_cons ?_ ?_
                      · intro K vs W hR hD hK
                        have dq24 : vs 24 = .bool true := hD 24 (by decide)
                        have dq27 : vs 27 = .pointer (some ⟨gb, go_, none⟩) := hD 27 (by decide)
                        clear hD
                        try dsimp only at hK ⊢
                        simp only [Act.put, List.setIfInBounds_toArray, List.set_cons_succ, List.set_cons_zero] at hK
                        generalize vs 24 = vq24 at hK dq24 ⊢
                        subst vq24
                        generalize vs 27 = vq27 at hK dq27 ⊢
                        subst vq27
                        go_wp2
                        exact hK _ _ rfl (Mod.refl _ _)
                      refine opsOkA_cons ?_ ?_
                      · intro K vs W hR hD hK
                        have dq24 : vs 24 = .bool true := hD 24 (by decide)
                        have dq28 : vs 28 = .pointer (some ⟨gb, go_ + 1, none⟩) := hD 28 (by decide)
                        clear hD
                        try dsimp only at hK ⊢
                        simp only [Act.put, List.setIfInBounds_toArray, List.set_cons_succ, List.set_cons_zero] at hK
                        generalize vs 24 = vq24 at hK dq24 ⊢
                        subst vq24
                        generalize vs 28 = vq28 at hK dq28 ⊢
                        subst vq28
                        have c0 := ((HSd.out.at ((Mod.up hR))).1).2
                        go_wp2
                        exact hK _ _ rfl (Mod.refl _ _)
                      refine opsOkA_cons ?_ ?_
                      · intro K vs W hR hD hK
                        have dq24 : vs 24 = .bool true := hD 24 (by decide)
                        clear hD
                        try dsimp only at hK ⊢
                        simp only [Act.put, List.setIfInBounds_toArray, List.set_cons_succ, List.set_cons_zero] at hK
                        generalize vs 24 = vq24 at hK dq24 ⊢
                        subst vq24
                        go_wp2
                        exact hK _ _ rfl (Mod.refl _ _)
                      refine opsOkA_cons ?_ ?_
                      · intro K vs W hR hD hK
                        have dq24 : vs 24 = .bool true := hD 24 (by decide)
                        have dq29 : vs 29 = .int .i64 vq := hD 29 (by decide)
                        have dq30 : vs 30 = .int .i64 mine := hD 30 (by decide)
                        clear hD
                        try dsimp only at hK ⊢
                        simp only [Act.put, List.setIfInBounds_toArray, List.set_cons_succ, List.set_cons_zero] at hK
                        generalize vs 24 = vq24 at hK dq24 ⊢
                        subst vq24
                        generalize vs 29 = vq29 at hK dq29 ⊢
                        subst vq29
                        generalize vs 30 = vq30 at hK dq30 ⊢
                        subst vq30
                        have zv := ZV.out
                        go_wp2
                        exact hK _ _ rfl (Mod.refl _ _)
                      refine opsOkA_cons ?_ ?_
                      · intro K vs W hR hD hK
                        have dq16 : vs 16 = .bool false := hD 16 (by decide)
                        have dq24 : vs 24 = .bool true := hD 24 (by decide)
                        have dq31 : vs 31 = .bool false := hD 31 (by decide)
                        clear hD
                        try dsimp only at hK ⊢
                        simp only [Act.put, List.setIfInBounds_toArray, List.set_cons_succ, List.set_cons_zero] at hK
                        generalize vs 16 = vq16 at hK dq16 ⊢
                        subst vq16
                        generalize vs 24 = vq24 at hK dq24 ⊢
                        subst vq24
                        generalize vs 31 = vq31 at hK dq31 ⊢
                        subst vq31
                        go_wp2
                        exact hK _ _ rfl (Mod.refl _ _)
                      refine opsOkA_cons ?_ ?_
                      · intro K vs W hR hD hK
                        have dq16 : vs 16 = .bool false := hD 16 (by decide)
                        have dq32 : vs 32 = .bool false := hD 32 (by decide)
                        clear hD
                        try dsimp only at hK ⊢
                        simp only [Act.put, List.setIfInBounds_toArray, List.set_cons_succ, List.set_cons_zero] at hK
                        generalize vs 16 = vq16 at hK dq16 ⊢
                        subst vq16
                        generalize vs 32 = vq32 at hK dq32 ⊢
                        subst vq32
                        go_wp2
                        exact hK _ _ rfl (Mod.refl _ _)
                      exact opsOkA_nil
                    · intro vs wq13 hR hF
                      have dq33 : vs 33 = .bool false := hF 33 (by decide)
                      clear hF
                      try dsimp only
                      generalize vs 33 = vq33 at dq33 ⊢
                      subst dq33
                      replace HS := Lib.hid (HSd.out.step (Mod.up hR))
                      have HSO1 := Lib.hid (HSO.out.keep (F := fun _ => False) ((Mod.drew _ _).of2 hR) (fun e => e))
                      clear HSO
                      have HSO := HSO1
                      clear HSO1
                      clear HSd hR
                      go_wp2_with fail
                      go_roundw
                      case rel => exact ⟨q + 1, hlq, by go_num, HSO.out, (HS.out.now).2.1⟩
                      case measure => simp [intOf]; omega
                  case neg =>
                    have zt : ((tq : Int) == (kk : Int)) = false := beq_eq_false_iff_ne.2 (by omega)
                    have ZT := Lib.hid zt
                    clear zt
                    go_upto_region 28 with fail
                    have HSd := Lib.hid HS.out.drew
                    refine wp_region_inv3 (act := ?actal_r28_4) (Mod (fun _ => False)) (fun i => (al_r28_4_F kk al n3 cl q tq gb go_).getD i (fun _ _ => True)) (fun i => al_r28_4_D.getD i []) (by kernel_rfl) (by kernel_rfl) (by kernel_rfl) (by kernel_rfl) (fun _ => Mod.refl _ _)
                      (fun _ _ _ h k => h.trans k (fun _ _ e => e) (fun _ _ e => e)) ?hactal_r28_4 (stable_list ?_) ?_ ?_
                    case hactal_r28_4 => intro vs; simp only [putAll, Nat.zero_add, Nat.reduceAdd, Act.put, List.setIfInBounds_toArray, List.set_cons_succ, List.set_cons_zero]; exact rfl
                    · unfold al_r28_4_F
                      exact stable_cons (stable_val _) <| stable_cons (stable_val _) <| stable_cons (stable_val _) <| stable_cons (stable_val _) <| stable_cons (stable_val _) <| stable_cons (stable_val _) <| stable_cons (stable_val _) <| stable_cons (stable_val _) <| stable_cons (stable_val _) <| stable_cons (stable_val _) <| stable_cons (stable_val _) <| stable_cons (stable_val _) <| stable_cons (stable_val _) <| stable_cons (stable_val _) <| stable_cons (stable_val _) <| stable_cons (stable_val _) <| stable_cons (stable_val _) <| stable_cons (stable_val _) <| stable_cons (stable_val _) <| stable_cons (stable_val _) <| stable_cons (stable_val _) <| stable_cons (stable_val _) <| stable_cons (stable_val _) <| stable_cons (stable_val _) <| stable_cons (stable_val _) <| stable_cons (stable_val _) <| stable_cons (stable_val _) <| stable_cons (stable_val _) <| stable_cons (stable_val _) <| stable_cons (stable_val _) <| stable_cons (stable_val _) <| stable_cons (stable_val _) <| stable_cons (stable_val _) <| stable_cons (stable_val _) <| stable_nil
                    · refine opsOkA_cons ?_ ?_
                      · intro K vs W hR hD hK
                        clear hD
                        try dsimp only at hK ⊢
                        simp only [Act.put, List.setIfInBounds_toArray, List.set_cons_succ, List.set_cons_zero] at hK
                        go_wp2
                        exact hK _ _ rfl (Mod.refl _ _)
                      refine opsOkA_cons ?_ ?_
                      · intro K vs W hR hD hK
                        have dq0 : vs 0 = .int .i64 (q : Int) := hD 0 (by decide)
                        clear hD
                        try dsimp only at hK ⊢
                        simp only [Act.put, List.setIfInBounds_toArray, List.set_cons_succ, List.set_cons_zero] at hK
                        generalize vs 0 = vq0 at hK dq0 ⊢
                        subst vq0
                        have zz : decide ((0 : Int) < (q : Int)) = false := by simp; omega
                        go_wp2
                        exact hK _ _ rfl (Mod.refl _ _)
                      refine opsOkA_cons ?_ ?_
                      · intro K vs W hR hD hK
                        have dq1 : vs 1 = .bool false := hD 1 (by decide)
                        clear hD
                        try dsimp only at hK ⊢
                        simp only [Act.put, List.setIfInBounds_toArray, List.set_cons_succ, List.set_cons_zero] at hK
                        generalize vs 1 = vq1 at hK dq1 ⊢
                        subst vq1
                        go_wp2
                        exact hK _ _ rfl (Mod.refl _ _)
                      refine opsOkA_cons ?_ ?_
                      · intro K vs W hR hD hK
                        have dq2 : vs 2 = .bool false := hD 2 (by decide)
                        clear hD
                        try dsimp only at hK ⊢
                        simp only [Act.put, List.setIfInBounds_toArray, List.set_cons_succ, List.set_cons_zero] at hK
                        generalize vs 2 = vq2 at hK dq2 ⊢
                        subst vq2
                        go_wp2
                        exact hK _ _ rfl (Mod.refl _ _)
                      refine opsOkA_cons ?_ ?_
                      · intro K vs W hR hD hK
                        have dq2 : vs 2 = .bool false := hD 2 (by decide)
                        clear hD
                        try dsimp only at hK ⊢
                        simp only [Act.put, List.setIfInBounds_toArray, List.set_cons_succ, List.set_cons_zero] at hK
                        generalize vs 2 = vq2 at hK dq2 ⊢
                        subst vq2
                        go_wp2
                        exact hK _ _ rfl (Mod.refl _ _)
                      refine opsOkA_cons ?_ ?_
                      · intro K vs W hR hD hK
                        have dq2 : vs 2 = .bool false := hD 2 (by decide)
                        clear hD
                        try dsimp only at hK ⊢
                        simp only [Act.put, List.setIfInBounds_toArray, List.set_cons_succ, List.set_cons_zero] at hK
                        generalize vs 2 = vq2 at hK dq2 ⊢
                        subst vq2
                        go_wp2
                        exact hK _ _ rfl (Mod.refl _ _)
                      refine opsOkA_cons ?_ ?_
                      · intro K vs W hR hD hK
                        have dq2 : vs 2 = .bool false := hD 2 (by decide)
                        clear hD
                        try dsimp only at hK ⊢
                        simp only [Act.put, List.setIfInBounds_toArray, List.set_cons_succ, List.set_cons_zero] at hK
                        generalize vs 2 = vq2 at hK dq2 ⊢
                        subst vq2
                        go_wp2_with fail
                        exact hK _ _ rfl (Mod.refl _ _)
                      refine opsOkA_cons ?_ ?_
                      · intro K vs W hR hD hK
                        have dq2 : vs 2 = .bool false := hD 2 (by decide)
                        clear hD
                        try dsimp only at hK ⊢
                        simp only [Act.put, List.setIfInBounds_toArray, List.set_cons_succ, List.set_cons_zero] at hK
                        generalize vs 2 = vq2 at hK dq2 ⊢
                        subst vq2
                        go_wp2
                        exact hK _ _ rfl (Mod.refl _ _)
                      refine opsOkA_cons ?_ ?_
                      · intro K vs W hR hD hK
                        have dq2 : vs 2 = .bool false := hD 2 (by decide)
                        clear hD
                        try dsimp only at hK ⊢
                        simp only [Act.put, List.setIfInBounds_toArray, List.set_cons_succ, List.set_cons_zero] at hK
                        generalize vs 2 = vq2 at hK dq2 ⊢
                        subst vq2
                        go_wp2
                        exact hK _ _ rfl (Mod.refl _ _)
                      refine opsOkA_cons ?_ ?_
                      · intro K vs W hR hD hK
                        have dq2 : vs 2 = .bool false := hD 2 (by decide)
                        clear hD
                        try dsimp only at hK ⊢
                        simp only [Act.put, List.setIfInBounds_toArray, List.set_cons_succ, List.set_cons_zero] at hK
                        generalize vs 2 = vq2 at hK dq2 ⊢
                        subst vq2
                        go_wp2
                        exact hK _ _ rfl (Mod.refl _ _)
                      refine opsOkA_cons ?_ ?_
                      · intro K vs W hR hD hK
                        have dq2 : vs 2 = .bool false := hD 2 (by decide)
                        clear hD
                        try dsimp only at hK ⊢
                        simp only [Act.put, List.setIfInBounds_toArray, List.set_cons_succ, List.set_cons_zero] at hK
                        generalize vs 2 = vq2 at hK dq2 ⊢
                        subst vq2
                        go_wp2
                        exact hK _ _ rfl (Mod.refl _ _)
                      refine opsOkA_cons ?_ ?_
                      · intro K vs W hR hD hK
                        have dq2 : vs 2 = .bool false := hD 2 (by decide)
                        clear hD
                        try dsimp only at hK ⊢
                        simp only [Act.put, List.setIfInBounds_toArray, List.set_cons_succ, List.set_cons_zero] at hK
                        generalize vs 2 = vq2 at hK dq2 ⊢
                        subst vq2
                        go_wp2_with fail
                        exact hK _ _ rfl (Mod.refl _ _)
                      refine opsOkA_cons ?_ ?_
                      · intro K vs W hR hD hK
                        have dq2 : vs 2 = .bool false := hD 2 (by decide)
                        clear hD
                        try dsimp only at hK ⊢
                        simp only [Act.put, List.setIfInBounds_toArray, List.set_cons_succ, List.set_cons_zero] at hK
                        generalize vs 2 = vq2 at hK dq2 ⊢
                        subst vq2
                        go_wp2
                        exact hK _ _ rfl (Mod.refl _ _)
                      refine opsOkA_cons ?_ ?_
                      · intro K vs W hR hD hK
                        have dq2 : vs 2 = .bool false := hD 2 (by decide)
                        clear hD
                        try dsimp only at hK ⊢
                        simp only [Act.put, List.setIfInBounds_toArray, List.set_cons_succ, List.set_cons_zero] at hK
                        generalize vs 2 = vq2 at hK dq2 ⊢
                        subst vq2
                        go_wp2
                        exact hK _ _ rfl (Mod.refl _ _)
                      refine opsOkA_cons ?_ ?_
                      · intro K vs W hR hD hK
                        have dq2 : vs 2 = .bool false := hD 2 (by decide)
                        clear hD
                        try dsimp only at hK ⊢
                        simp only [Act.put, List.setIfInBounds_toArray, List.set_cons_succ, List.set_cons_zero] at hK
                        generalize vs 2 = vq2 at hK dq2 ⊢
                        subst vq2
                        go_wp2
                        exact hK _ _ rfl (Mod.refl _ _)
                      refine opsOkA_cons ?_ ?_
                      · intro K vs W hR hD hK
                        have dq2 : vs 2 = .bool false := hD 2 (by decide)
                        have dq14 : vs 14 = undef := hD 14 (by decide)
                        clear hD
                        try dsimp only at hK ⊢
                        simp only [Act.put, List.setIfInBounds_toArray, List.set_cons_succ, List.set_cons_zero] at hK
                        generalize vs 2 = vq2 at hK dq2 ⊢
                        subst vq2
                        generalize vs 14 = vq14 at hK dq14 ⊢
                        subst vq14
                        go_wp2
                        exact hK _ _ rfl (Mod.refl _ _)
                      refine opsOkA_cons ?_ ?_
                      · intro K vs W hR hD hK
                        have dq15 : vs 15 = .bool false := hD 15 (by decide)
                        clear hD
                        try dsimp only at hK ⊢
                        simp only [Act.put, List.setIfInBounds_toArray, List.set_cons_succ, List.set_cons_zero] at hK
                        generalize vs 15 = vq15 at hK dq15 ⊢
                        subst vq15
                        go_wp2
                        exact hK _ _ rfl (Mod.refl _ _)
                      refine opsOkA_cons ?_ ?_
                      · intro K vs W hR hD hK
                        have dq16 : vs 16 = .bool false := hD 16 (by decide)
                        clear hD
                        try dsimp only at hK ⊢
                        simp only [Act.put, List.setIfInBounds_toArray, List.set_cons_succ, List.set_cons_zero] at hK
                        generalize vs 16 = vq16 at hK dq16 ⊢
                        subst vq16
                        go_wp2
                        exact hK _ _ rfl (Mod.refl _ _)
                      refine opsOkA_cons ?_ ?_
                      · intro K vs W hR hD hK
                        have dq16 : vs 16 = .bool false := hD 16 (by decide)
                        clear hD
                        try dsimp only at hK ⊢
                        simp only [Act.put, List.setIfInBounds_toArray, List.set_cons_succ, List.set_cons_zero] at hK
                        generalize vs 16 = vq16 at hK dq16 ⊢
                        subst vq16
                        go_wp2
                        exact hK _ _ rfl (Mod.refl _ _)
                      refine opsOkA_cons ?_ ?_
                      · intro K vs W hR hD hK
                        have dq16 : vs 16 = .bool false := hD 16 (by decide)
                        have dq17 : vs 17 = .slice al n3 cl := hD 17 (by decide)
                        have dq18 : vs 18 = .int .i64 (q : Int) := hD 18 (by decide)
                        clear hD
                        try dsimp only at hK ⊢
                        simp only [Act.put, List.setIfInBounds_toArray, List.set_cons_succ, List.set_cons_zero] at hK
                        generalize vs 16 = vq16 at hK dq16 ⊢
                        subst vq16
                        generalize vs 17 = vq17 at hK dq17 ⊢
                        subst vq17
                        generalize vs 18 = vq18 at hK dq18 ⊢
                        subst vq18
                        have hix := HIgb.out
                        go_wp2_with fail
                        exact hK _ _ rfl (Mod.refl _ _)
                      refine opsOkA_cons ?_ ?_
                      · intro K vs W hR hD hK
                        have dq16 : vs 16 = .bool false := hD 16 (by decide)
                        have dq19 : vs 19 = .pointer (some ⟨gb, go_, none⟩) := hD 19 (by decide)
                        clear hD
                        try dsimp only at hK ⊢
                        simp only [Act.put, List.setIfInBounds_toArray, List.set_cons_succ, List.set_cons_zero] at hK
                        generalize vs 16 = vq16 at hK dq16 ⊢
                        subst vq16
                        generalize vs 19 = vq19 at hK dq19 ⊢
                        subst vq19
                        go_wp2
                        exact hK _ _ rfl (Mod.refl _ _)
                      refine opsOkA_cons ?_ ?_
                      · intro K vs W hR hD hK
                        have dq16 : vs 16 = .bool false := hD 16 (by decide)
                        have dq20 : vs 20 = .pointer (some ⟨gb, go_, none⟩) := hD 20 (by decide)
                        clear hD
                        try dsimp only at hK ⊢
                        simp only [Act.put, List.setIfInBounds_toArray, List.set_cons_succ, List.set_cons_zero] at hK
                        generalize vs 16 = vq16 at hK dq16 ⊢
                        subst vq16
                        generalize vs 20 = vq20 at hK dq20 ⊢
                        subst vq20
                        have c0 := ((HSd.out.at ((Mod.up hR))).1).1
                        go_wp2
                        exact hK _ _ rfl (Mod.refl _ _)
                      refine opsOkA_cons ?_ ?_
                      · intro K vs W hR hD hK
                        have dq16 : vs 16 = .bool false := hD 16 (by decide)
                        clear hD
                        try dsimp only at hK ⊢
                        simp only [Act.put, List.setIfInBounds_toArray, List.set_cons_succ, List.set_cons_zero] at hK
                        generalize vs 16 = vq16 at hK dq16 ⊢
                        subst vq16
                        go_wp2
                        exact hK _ _ rfl (Mod.refl _ _)
                      refine opsOkA_cons ?_ ?_
                      · intro K vs W hR hD hK
                        have dq16 : vs 16 = .bool false := hD 16 (by decide)
                        have dq21 : vs 21 = .int .i64 (tq : Int) := hD 21 (by decide)
                        have dq22 : vs 22 = .int .i64 (kk : Int) := hD 22 (by decide)
                        clear hD
                        try dsimp only at hK ⊢
                        simp only [Act.put, List.setIfInBounds_toArray, List.set_cons_succ, List.set_cons_zero] at hK
                        generalize vs 16 = vq16 at hK dq16 ⊢
                        subst vq16
                        generalize vs 21 = vq21 at hK dq21 ⊢
                        subst vq21
                        generalize vs 22 = vq22 at hK dq22 ⊢
                        subst vq22
                        have zt := ZT.out
                        go_wp2
                        exact hK _ _ rfl (Mod.refl _ _)
                      refine opsOkA_cons ?_ ?_
                      · intro K vs W hR hD hK
                        have dq16 : vs 16 = .bool false := hD 16 (by decide)
                        have dq23 : vs 23 = .bool false := hD 23 (by decide)
                        clear hD
                        try dsimp only at hK ⊢
                        simp only [Act.put, List.setIfInBounds_toArray, List.set_cons_succ, List.set_cons_zero] at hK
                        generalize vs 16 = vq16 at hK dq16 ⊢
                        subst vq16
                        generalize vs 23 = vq23 at hK dq23 ⊢
                        subst vq23
                        go_wp2
                        exact hK _ _ rfl (Mod.refl _ _)
                      refine opsOkA_cons ?_ ?_
                      · intro K vs W hR hD hK
                        have dq24 : vs 24 = .bool false := hD 24 (by decide)
                        clear hD
                        try dsimp only at hK ⊢
                        simp only [Act.put, List.setIfInBounds_toArray, List.set_cons_succ, List.set_cons_zero] at hK
                        generalize vs 24 = vq24 at hK dq24 ⊢
                        subst vq24
                        go_wp2
                        exact hK _ _ rfl (Mod.refl _ _)
                      refine opsOkA_cons ?_ ?_
                      · intro K vs W hR hD hK
                        have dq24 : vs 24 = .bool false := hD 24 (by decide)
                        clear hD
                        try dsimp only at hK ⊢
                        simp only [Act.put, List.setIfInBounds_toArray, List.set_cons_succ, List.set_cons_zero] at hK
                        generalize vs 24 = vq24 at hK dq24 ⊢
                        subst vq24
                        go_wp2
                        exact hK _ _ rfl (Mod.refl _ _)
                      refine opsOkA_cons ?_ ?_
                      · intro K vs W hR hD hK
                        have dq24 : vs 24 = .bool false := hD 24 (by decide)
                        clear hD
                        try dsimp only at hK ⊢
                        simp only [Act.put, List.setIfInBounds_toArray, List.set_cons_succ, List.set_cons_zero] at hK
                        generalize vs 24 = vq24 at hK dq24 ⊢
                        subst vq24
                        go_wp2_with fail
                        exact hK _ _ rfl (Mod.refl _ _)
                      refine opsOkA_cons ?_ ?_
                      · intro K vs W hR hD hK
                        have dq24 : vs 24 = .bool false := hD 24 (by decide)
                        clear hD
                        try dsimp only at hK ⊢
                        simp only [Act.put, List.setIfInBounds_toArray, List.set_cons_succ, List.set_cons_zero] at hK
                        generalize vs 24 = vq24 at hK dq24 ⊢
                        subst vq24
                        go_wp2
                        exact hK _ _ rfl (Mod.refl _ _)
                      refine opsOkA_cons ?_ ?_
                      · intro K vs W hR hD hK
                        have dq24 : vs 24 = .bool false := hD 24 (by decide)
                        clear hD
                        try dsimp only at hK ⊢
                        simp only [Act.put, List.setIfInBounds_toArray, List.set_cons_succ, List.set_cons_zero] at hK
                        generalize vs 24 = vq24 at hK dq24 ⊢
                        subst vq24
                        go_wp2
                        exact hK _ _ rfl (Mod.refl _ _)
                      refine opsOkA_cons ?_ ?_
                      · intro K vs W hR hD hK
                        have dq24 : vs 24 = .bool false := hD 24 (by decide)
                        clear hD
                        try dsimp only at hK ⊢
                        simp only [Act.put, List.setIfInBounds_toArray, List.set_cons_succ, List.set_cons_zero] at hK
                        generalize vs 24 = vq24 at hK dq24 ⊢
                        subst vq24
                        go_wp2
                        exact hK _ _ rfl (Mod.refl _ _)
                      refine opsOkA_cons ?_ ?_
                      · intro K vs W hR hD hK
                        have dq24 : vs 24 = .bool false := hD 24 (by decide)
                        clear hD
                        try dsimp only at hK ⊢
                        simp only [Act.put, List.setIfInBounds_toArray, List.set_cons_succ, List.set_cons_zero] at hK
                        generalize vs 24 = vq24 at hK dq24 ⊢
                        subst vq24
                        go_wp2
                        exact hK _ _ rfl (Mod.refl _ _)
                      refine opsOkA_cons ?_ ?_
                      · intro K vs W hR hD hK
                        have dq16 : vs 16 = .bool false := hD 16 (by decide)
                        have dq24 : vs 24 = .bool false := hD 24 (by decide)
                        have dq31 : vs 31 = undef := hD 31 (by decide)
                        clear hD
                        try dsimp only at hK ⊢
                        simp only [Act.put, List.setIfInBounds_toArray, List.set_cons_succ, List.set_cons_zero] at hK
                        generalize vs 16 = vq16 at hK dq16 ⊢
                        subst vq16
                        generalize vs 24 = vq24 at hK dq24 ⊢
                        subst vq24
                        generalize vs 31 = vq31 at hK dq31 ⊢
                        subst vq31
                        go_wp2
                        exact hK _ _ rfl (Mod.refl _ _)
                      refine opsOkA_cons ?_ ?_
                      · intro K vs W hR hD hK
                        have dq16 : vs 16 = .bool false := hD 16 (by decide)
                        have dq32 : vs 32 = .bool false := hD 32 (by decide)
                        clear hD
                        try dsimp only at hK ⊢
                        simp only [Act.put, List.setIfInBounds_toArray, List.set_cons_succ, List.set_cons_zero] at hK
                        generalize vs 16 = vq16 at hK dq16 ⊢
                        subst vq16
                        generalize vs 32 = vq32 at hK dq32 ⊢
                        subst vq32
                        go_wp2
                        exact hK _ _ rfl (Mod.refl _ _)
                      exact opsOkA_nil
                    · intro vs wq14 hR hF
                      have dq33 : vs 33 = .bool false := hF 33 (by decide)
                      clear hF
                      try dsimp only
                      generalize vs 33 = vq33 at dq33 ⊢
                      subst dq33
                      replace HS := Lib.hid (HSd.out.step (Mod.up hR))
                      have HSO1 := Lib.hid (HSO.out.keep (F := fun _ => False) ((Mod.drew _ _).of2 hR) (fun e => e))
                      clear HSO
                      have HSO := HSO1
                      clear HSO1
                      clear HSd hR
                      go_wp2_with fail
                      go_roundw
                      case rel => exact ⟨q + 1, hlq, by go_num, HSO.out, (HS.out.now).2.1⟩
                      case measure => simp [intOf]; omega
theorem alone_law (w : World) (a : Option Addr) (m c : Nat) (l : List (Int × Int)) (ok : (encSlice (encPair (encInt .i64) (encInt .i64))).ok w (.slice a m c, l)) (at_ : Int) (_ : (Lit.int .i64 at_).wf = true) :
    Calls Try.prog 5 #[.slice a m c, .int .i64 at_] w fun e w' => e = .returned (.bool true) ∧ Below w.heap.size w w' := by
  obtain ⟨h1, r1⟩ := ok_pairs ok
  exact (alone_all w a m c l h1 r1 at_).mono fun e w' h => ⟨h.1, h.2.below (Nat.le_refl _) (fun _ e => e.elim)⟩
end Go.Proofs.Ythlpednakhjmhaa
