/- ChannelTries by contract. -/
import Derived.Test.YtdahoecejnnjkaaChTrP
import Derived.Test.YtdahoecejnnjkaaAwake27
import Derived.Test.YtdahoecejnnjkaaRowT
import Derived.Test.YtdahoecejnnjkaaRegion2
import Derived.Test.YtdahoecejnnjkaaOpensBI
namespace Go.Proofs.Ytdahoecejnnjkaa
open Go.RowKit Mile Go.Maps
set_option maxRecDepth 100000
/-- What each operation of the statement leaves. -/
def ct0_r7_0_F (fb : Nat) (fo : Nat) (uc : Nat) (m : Nat) (c0 : Nat) (cg : Nat) (ua : Option Addr) (a0 : Option Addr) (ag : Option Addr) (Y : ByteArray) : List (Value → World → Prop) :=
  [IsV (.int .i64 0),
   IsV (.bool false),
   IsV (.bool false),
   IsV (.slice ag 1 cg),
   IsV (.int .i64 (1 : Int)),
   IsV (.bool ((1 : Int) != 1)),
   IsV (.bool ((1 : Int) != 1)),
   IsV (.bool ((1 : Int) != 1)),
   IsV (.slice ag 1 cg),
   IsV (.pointer (some ⟨fb, fo, none⟩)),
   IsV (.pointer (some ⟨fb, fo + 2, none⟩)),
   IsV (.int .i64 0),
   IsV (.bool false),
   IsV (.bool false),
   IsV (.bool false),
   IsV (.slice ag 1 cg),
   IsV (.pointer (some ⟨fb, fo, none⟩)),
   IsV (.pointer (some ⟨fb, fo + 3, none⟩)),
   IsV (.int .i64 0),
   IsV (.bool false),
   IsV (.bool false),
   IsV (.bool false),
   IsV (.slice ag 1 cg),
   IsV (.pointer (some ⟨fb, fo, none⟩)),
   IsV (.pointer (some ⟨fb, fo + 5, none⟩)),
   IsV (.slice ua m uc),
   IsV (.string Y),
   IsV (.slice a0 m c0),
   IsV (.string Y),
   IsV (.bool false),
   IsV (.bool false)]
def ct0_r7_0_D : List (List Nat) := [[], [0], [1], [2], [2, 3], [2, 4], [2, 5], [6], [7], [7, 8], [7, 9], [7, 10], [7, 11], [7, 12], [13], [14], [14, 15], [14, 16], [14, 17], [14, 18], [14, 19], [20], [21], [21, 22], [21, 23], [21, 24], [21, 25], [21], [21, 27], [21, 26, 28], [21, 29]]

/-- What each operation of the statement leaves. -/
def ct1_r19_0_F (fb : Nat) (fo : Nat) (uc : Nat) (m : Nat) (c0 : Nat) (a : Nat) (ch : Nat) (ua : Option Addr) (a0 : Option Addr) (ah : Option Addr) (Y : ByteArray) : List (Value → World → Prop) :=
  [IsV (.int .i64 0),
   IsV (.bool false),
   IsV (.bool false),
   IsV (.slice ah 1 ch),
   IsV (.int .i64 (1 : Int)),
   IsV (.bool ((1 : Int) != 1)),
   IsV (.bool ((1 : Int) != 1)),
   IsV (.bool ((1 : Int) != 1)),
   IsV (.slice ah 1 ch),
   IsV (.pointer (some ⟨fb, fo, none⟩)),
   IsV (.pointer (some ⟨fb, fo + 2, none⟩)),
   IsV (.int .i64 0),
   IsV (.bool false),
   IsV (.bool false),
   IsV (.bool false),
   IsV (.slice ah 1 ch),
   IsV (.pointer (some ⟨fb, fo, none⟩)),
   IsV (.pointer (some ⟨fb, fo + 3, none⟩)),
   IsV (.int .i64 (((a + 1 : Nat) : Int))),
   IsV (.int .i64 (((a + 1 : Nat) : Int))),
   IsV (.bool false),
   IsV (.bool false),
   IsV (.bool false),
   IsV (.slice ah 1 ch),
   IsV (.pointer (some ⟨fb, fo, none⟩)),
   IsV (.pointer (some ⟨fb, fo + 5, none⟩)),
   IsV (.slice ua m uc),
   IsV (.string Y),
   IsV (.slice a0 m c0),
   IsV (.string Y),
   IsV (.bool false),
   IsV (.bool false),
   IsV (.bool false),
   IsV (.slice ah 1 ch),
   IsV (.pointer (some ⟨fb, fo, none⟩)),
   IsV (.pointer (some ⟨fb, fo + 1, none⟩)),
   IsV (.int .i64 1),
   IsV (.bool false),
   IsV (.bool false),
   IsV (.bool false),
   IsV (.slice ah 1 ch),
   IsV (.pointer (some ⟨fb, fo, none⟩)),
   IsV (.pointer (some ⟨fb, fo, none⟩)),
   IsV (.int .i64 9),
   IsV (.bool false),
   IsV (.bool false)]
def ct1_r19_0_D : List (List Nat) := [[], [0], [1], [2], [2, 3], [2, 4], [2, 5], [6], [7], [7, 8], [7, 9], [7, 10], [7, 11], [7, 12], [13], [14], [14, 15], [14, 16], [14, 17], [14], [14, 18, 19], [14, 20], [21], [22], [22, 23], [22, 24], [22, 25], [22, 26], [22], [22, 28], [22, 27, 29], [22, 30], [31], [32], [32, 33], [32, 34], [32, 35], [32, 36], [32, 37], [38], [39], [39, 40], [39, 41], [39, 42], [39, 43], [39, 44]]

/-- What each operation of the statement leaves. -/
def ct2_r19_0_F (fb : Nat) (fo : Nat) (uc : Nat) (m : Nat) (c0 : Nat) (a : Nat) (ch : Nat) (ua : Option Addr) (a0 : Option Addr) (ah : Option Addr) (Y : ByteArray) : List (Value → World → Prop) :=
  [IsV (.int .i64 0),
   IsV (.bool false),
   IsV (.bool false),
   IsV (.slice ah 1 ch),
   IsV (.int .i64 (1 : Int)),
   IsV (.bool ((1 : Int) != 1)),
   IsV (.bool ((1 : Int) != 1)),
   IsV (.bool ((1 : Int) != 1)),
   IsV (.slice ah 1 ch),
   IsV (.pointer (some ⟨fb, fo, none⟩)),
   IsV (.pointer (some ⟨fb, fo + 2, none⟩)),
   IsV (.int .i64 0),
   IsV (.bool false),
   IsV (.bool false),
   IsV (.bool false),
   IsV (.slice ah 1 ch),
   IsV (.pointer (some ⟨fb, fo, none⟩)),
   IsV (.pointer (some ⟨fb, fo + 3, none⟩)),
   IsV (.int .i64 (a : Int)),
   IsV (.int .i64 (a : Int)),
   IsV (.bool false),
   IsV (.bool false),
   IsV (.bool false),
   IsV (.slice ah 1 ch),
   IsV (.pointer (some ⟨fb, fo, none⟩)),
   IsV (.pointer (some ⟨fb, fo + 5, none⟩)),
   IsV (.slice ua m uc),
   IsV (.string Y),
   IsV (.slice a0 m c0),
   IsV (.string Y),
   IsV (.bool false),
   IsV (.bool false),
   IsV (.bool false),
   IsV (.slice ah 1 ch),
   IsV (.pointer (some ⟨fb, fo, none⟩)),
   IsV (.pointer (some ⟨fb, fo + 1, none⟩)),
   IsV (.int .i64 1),
   IsV (.bool false),
   IsV (.bool false),
   IsV (.bool false),
   IsV (.slice ah 1 ch),
   IsV (.pointer (some ⟨fb, fo, none⟩)),
   IsV (.pointer (some ⟨fb, fo, none⟩)),
   IsV (.int .i64 9),
   IsV (.bool false),
   IsV (.bool false)]
def ct2_r19_0_D : List (List Nat) := [[], [0], [1], [2], [2, 3], [2, 4], [2, 5], [6], [7], [7, 8], [7, 9], [7, 10], [7, 11], [7, 12], [13], [14], [14, 15], [14, 16], [14, 17], [14], [14, 18, 19], [14, 20], [21], [22], [22, 23], [22, 24], [22, 25], [22, 26], [22], [22, 28], [22, 27, 29], [22, 30], [31], [32], [32, 33], [32, 34], [32, 35], [32, 36], [32, 37], [38], [39], [39, 40], [39, 41], [39, 42], [39, 43], [39, 44]]

set_option maxHeartbeats 64000000 in
theorem chtries_all (w : World) (bv tv : Int) (a0 : Option Addr) (m c0 : Nat) (l : List Int) (gv : Int) (hm : l.length = m) (hr : Rd w 1 (.slice a0 m c0) m (l.map (Value.int .u8))) :
    Calls Try.prog 6 #[.int .i64 bv, .int .i64 tv, .slice a0 m c0, .int .i64 gv] w fun e w' => e = .returned (.bool true) ∧ Mod (fun _ => False) w w' := by
  by_cases hno : ¬ (1 ≤ bv ∧ bv ≤ 20 ∧ 0 ≤ tv ∧ tv ≤ 10 ∧ m ≤ 50 ∧ 0 ≤ gv ∧ gv ≤ 5)
  case pos =>
    clear hr hm
    have hend : ∀ (b0 b1 b2 b3 b4 b5 b6 : Bool), decide (bv < 1) = b0 → decide (20 < bv) = b1 → decide (tv < 0) = b2 → decide (10 < tv) = b3 → decide (50 < (m : Int)) = b4 → decide (gv < 0) = b5 → decide (5 < gv) = b6 → (b0 || b1 || b2 || b3 || b4 || b5 || b6) = true →
        Calls Try.prog 6 #[.int .i64 bv, .int .i64 tv, .slice a0 m c0, .int .i64 gv] w fun e w' => e = .returned (.bool true) ∧ Mod (fun _ => False) w w' := by
      intro b0 b1 b2 b3 b4 b5 b6 hc0 hc1 hc2 hc3 hc4 hc5 hc6 hbb
      clear hno
      cases b0
      · skip
        cases b1
        · skip
          cases b2
          · skip
            cases b3
            · skip
              cases b4
              · skip
                cases b5
                · skip
                  cases b6
                  · cases hbb
                  · clear hbb 
                    go_enter Try.func6, Try.ntmps6
                    go_wp2_with fail
                    refine (awake27_any _).mono ?_
                    rintro e w9 ⟨rfl, hm9⟩
                    go_wp2_with fail
                    go_ret
                    exact ⟨rfl, hm9⟩
                · clear hbb hc6
                  go_enter Try.func6, Try.ntmps6
                  go_wp2_with fail
                  refine (awake27_any _).mono ?_
                  rintro e w9 ⟨rfl, hm9⟩
                  go_wp2_with fail
                  go_ret
                  exact ⟨rfl, hm9⟩
              · clear hbb hc5 hc6
                go_enter Try.func6, Try.ntmps6
                go_wp2_with fail
                refine (awake27_any _).mono ?_
                rintro e w9 ⟨rfl, hm9⟩
                go_wp2_with fail
                go_ret
                exact ⟨rfl, hm9⟩
            · clear hbb hc4 hc5 hc6
              go_enter Try.func6, Try.ntmps6
              go_wp2_with fail
              refine (awake27_any _).mono ?_
              rintro e w9 ⟨rfl, hm9⟩
              go_wp2_with fail
              go_ret
              exact ⟨rfl, hm9⟩
          · clear hbb hc3 hc4 hc5 hc6
            go_enter Try.func6, Try.ntmps6
            go_wp2_with fail
            refine (awake27_any _).mono ?_
            rintro e w9 ⟨rfl, hm9⟩
            go_wp2_with fail
            go_ret
            exact ⟨rfl, hm9⟩
        · clear hbb hc2 hc3 hc4 hc5 hc6
          go_enter Try.func6, Try.ntmps6
          go_wp2_with fail
          refine (awake27_any _).mono ?_
          rintro e w9 ⟨rfl, hm9⟩
          go_wp2_with fail
          go_ret
          exact ⟨rfl, hm9⟩
      · clear hbb hc1 hc2 hc3 hc4 hc5 hc6
        go_enter Try.func6, Try.ntmps6
        go_wp2_with fail
        refine (awake27_any _).mono ?_
        rintro e w9 ⟨rfl, hm9⟩
        go_wp2_with fail
        go_ret
        exact ⟨rfl, hm9⟩
    refine hend _ _ _ _ _ _ _ rfl rfl rfl rfl rfl rfl rfl ?_
    simp only [Bool.or_eq_true, decide_eq_true_eq]
    omega
  case neg =>
  obtain ⟨iG, hiG, hzG, hsG, hbG⟩ := info_parts Ch.infoG
  have hyes := Decidable.not_not.1 hno
  clear hno
  obtain ⟨B, rfl⟩ := Int.eq_ofNat_of_zero_le (show 0 ≤ bv by omega)
  obtain ⟨T, rfl⟩ := Int.eq_ofNat_of_zero_le (show 0 ≤ tv by omega)
  obtain ⟨gt, rfl⟩ := Int.eq_ofNat_of_zero_le (show 0 ≤ gv by omega)
  have hB1 : 1 ≤ B := by omega
  have hB2 : B ≤ 20 := by omega
  have hT2 : T ≤ 10 := by omega
  have hM2 : m ≤ 50 := by omega
  have hG2 : gt ≤ 5 := by omega
  clear hyes
  have z0 : decide ((B : Int) < 1) = false := by simp; omega
  have z1 : decide (20 < (B : Int)) = false := by simp; omega
  have z2 : decide ((T : Int) < 0) = false := by simp
  have z3 : decide (10 < (T : Int)) = false := by simp; omega
  have z4 : decide (50 < (m : Int)) = false := by simp; omega
  have z5 : decide ((gt : Int) < 0) = false := by simp
  have z6 : decide (5 < (gt : Int)) = false := by simp; omega
  have HN := Lib.hid hm
  have HRD := Lib.hid hr
  clear hm hr
  have HNEW : Hid (Calls Try.prog 10 #[.agg #[.int .i64 1, .int .i64 ((2 : Nat) : Int), .int .i64 (T : Int), .int .i64 (B : Int), .int .i64 (B : Int), .int .i64 5], .int .i64 9] w _) := Lib.hid (chnew_any w 1 5 9 2 T B B (by unfold fitC; omega) (by omega))
  go_enter Try.func6, Try.ntmps6
  go_wp2_with fail
  refine HNEW.out.mono ?_
  rintro e w1 ⟨p, sp, tp, kp, kr, rfl, hn⟩
  have HC1 := Lib.hid (c1_made hn (Mod.refl (fun _ => False) w))
  clear hn HNEW z0 z1 z2 z3 z4 z5 z6
  go_wp2_with fail
  have hp := c1_push HC1.out rfl ⟨by simp, by simp, by simp, by simp, by simp, by simp⟩ (by simp) 0 (by omega) l (.slice a0 m c0) m HN.out (HRD.out.keep HC1.out.mod (fun _ _ e => e)) (by omega)
  rw [trX_0, trX_0d] at hp
  refine hp.mono ?_
  rintro e w2 ⟨v2, rfl, hv2, hc2, _⟩
  obtain ⟨ag, cg, gl, rfl, hol⟩ := hv2.form 1 rfl
  have HOL := Lib.hid hol
  have HC2 := Lib.hid hc2
  clear hp hv2 hol hc2 HC1
  obtain ⟨fb, fo, fv, hpl, hsn, _, hnc, f0, f1, f2, f3, f4, f5, hbt⟩ := HOL.out.elem 0 _ rfl
  have hix := fun wx => run_indexS (P := Try.prog) wx 36 40 iG 6 Try.underlying36 hiG hsG ag 1 cg 0 (by omega) hsn
  rw [hpl] at hix
  replace hix : ∀ wx, (Instr.indexAt 36 (.slice ag 1 cg) (.int .i64 0)).run Try.prog wx = .ok (.pointer (some ⟨fb, fo, none⟩)) wx := hix
  obtain ⟨ua, un, uc, rfl, hun, hbo⟩ := hbt
  obtain rfl : m = un := by rw [← hun]; exact HN.out.symm
  have hrd := Rd.ofOwn hbo
  have HIX := Lib.hid hix
  clear hbo hix hpl hsn hnc f4 hun
  have HS : Hid (Ev (Mod (fun _ => False) w2) w2) := Lib.hid (Ev.mod w2)
  replace HS := Lib.hid ((Ev.rd hrd).and HS.out)
  replace HS := Lib.hid ((Ev.rd (HRD.out.keep (HC2.out.mod) (fun _ _ e => e))).and HS.out)
  replace HS := Lib.hid ((Ev.cell f0).and HS.out)
  replace HS := Lib.hid ((Ev.cell f1).and HS.out)
  replace HS := Lib.hid ((Ev.cell f2).and HS.out)
  replace HS := Lib.hid ((Ev.cell f3).and HS.out)
  replace HS := Lib.hid ((Ev.cell f5).and HS.out)
  clear f0 f1 f2 f3 f5 hrd
  obtain ⟨Y, hY⟩ : ∃ x, strOf l = x := ⟨_, rfl⟩
  have HY := Lib.hid hY
  clear hY
  go_upto_region 7 with fail
  have HSd := Lib.hid HS.out.drew
  refine wp_region_inv3 (act := ?actct0_r7_0) (Mod (fun _ => False)) (fun i => (ct0_r7_0_F fb fo uc m c0 cg ua a0 ag Y).getD i (fun _ _ => True)) (fun i => ct0_r7_0_D.getD i []) (by kernel_rfl) (by kernel_rfl) (by kernel_rfl) (by kernel_rfl) (fun _ => Mod.refl _ _)
    (fun _ _ _ h k => h.trans k (fun _ _ e => e) (fun _ _ e => e)) ?hactct0_r7_0 (stable_list ?_) ?_ ?_
  case hactct0_r7_0 => intro vs; simp only [putAll, Nat.zero_add, Nat.reduceAdd, Act.put, List.setIfInBounds_toArray, List.set_cons_succ, List.set_cons_zero]; exact rfl
  · unfold ct0_r7_0_F
    exact stable_cons (stable_val _) <| stable_cons (stable_val _) <| stable_cons (stable_val _) <| stable_cons (stable_val _) <| stable_cons (stable_val _) <| stable_cons (stable_val _) <| stable_cons (stable_val _) <| stable_cons (stable_val _) <| stable_cons (stable_val _) <| stable_cons (stable_val _) <| stable_cons (stable_val _) <| stable_cons (stable_val _) <| stable_cons (stable_val _) <| stable_cons (stable_val _) <| stable_cons (stable_val _) <| stable_cons (stable_val _) <| stable_cons (stable_val _) <| stable_cons (stable_val _) <| stable_cons (stable_val _) <| stable_cons (stable_val _) <| stable_cons (stable_val _) <| stable_cons (stable_val _) <| stable_cons (stable_val _) <| stable_cons (stable_val _) <| stable_cons (stable_val _) <| stable_cons (stable_val _) <| stable_cons (stable_val _) <| stable_cons (stable_val _) <| stable_cons (stable_val _) <| stable_cons (stable_val _) <| stable_cons (stable_val _) <| stable_nil
  · refine opsOkA_cons ?_ ?_
    · intro K vs W hR hD hK
      clear hD
      try dsimp only at hK ⊢
      simp only [Act.put, List.setIfInBounds_toArray, List.set_cons_succ, List.set_cons_zero] at hK
      go_wp2
      exact hK _ _ rfl (Mod.refl _ _)
    refine opsOkA_cons ?_ ?_
    · intro K vs W hR hD hK
      have dq0 : vs 0 = .int .i64 0 := hD 0 (by decide)
      clear hD
      try dsimp only at hK ⊢
      simp only [Act.put, List.setIfInBounds_toArray, List.set_cons_succ, List.set_cons_zero] at hK
      generalize vs 0 = vq0 at hK dq0 ⊢
      subst vq0
      go_wp2
      exact hK _ _ rfl (Mod.refl _ _)
    refine opsOkA_cons ?_ ?_
    · intro K vs W hR hD hK
      have dq1 : vs 1 = .bool false := hD 1 (by decide)
      clear hD
      try dsimp only at hK ⊢
      simp only [Act.put, List.setIfInBounds_toArray, List.set_cons_succ, List.set_cons_zero] at hK
      generalize vs 1 = vq1 at hK dq1 ⊢
      subst vq1
      go_wp2
      exact hK _ _ rfl (Mod.refl _ _)
    refine opsOkA_cons ?_ ?_
    · intro K vs W hR hD hK
      have dq2 : vs 2 = .bool false := hD 2 (by decide)
      clear hD
      try dsimp only at hK ⊢
      simp only [Act.put, List.setIfInBounds_toArray, List.set_cons_succ, List.set_cons_zero] at hK
      generalize vs 2 = vq2 at hK dq2 ⊢
      subst vq2
      go_wp2
      exact hK _ _ rfl (Mod.refl _ _)
    refine opsOkA_cons ?_ ?_
    · intro K vs W hR hD hK
      have dq2 : vs 2 = .bool false := hD 2 (by decide)
      have dq3 : vs 3 = .slice ag 1 cg := hD 3 (by decide)
      clear hD
      try dsimp only at hK ⊢
      simp only [Act.put, List.setIfInBounds_toArray, List.set_cons_succ, List.set_cons_zero] at hK
      generalize vs 2 = vq2 at hK dq2 ⊢
      subst vq2
      generalize vs 3 = vq3 at hK dq3 ⊢
      subst vq3
      go_wp2_with fail
      exact hK _ _ rfl (Mod.refl _ _)
    refine opsOkA_cons ?_ ?_
    · intro K vs W hR hD hK
      have dq2 : vs 2 = .bool false := hD 2 (by decide)
      have dq4 : vs 4 = .int .i64 (1 : Int) := hD 4 (by decide)
      clear hD
      try dsimp only at hK ⊢
      simp only [Act.put, List.setIfInBounds_toArray, List.set_cons_succ, List.set_cons_zero] at hK
      generalize vs 2 = vq2 at hK dq2 ⊢
      subst vq2
      generalize vs 4 = vq4 at hK dq4 ⊢
      subst vq4
      go_wp2
      exact hK _ _ rfl (Mod.refl _ _)
    refine opsOkA_cons ?_ ?_
    · intro K vs W hR hD hK
      have dq2 : vs 2 = .bool false := hD 2 (by decide)
      have dq5 : vs 5 = .bool ((1 : Int) != 1) := hD 5 (by decide)
      clear hD
      try dsimp only at hK ⊢
      simp only [Act.put, List.setIfInBounds_toArray, List.set_cons_succ, List.set_cons_zero] at hK
      generalize vs 2 = vq2 at hK dq2 ⊢
      subst vq2
      generalize vs 5 = vq5 at hK dq5 ⊢
      subst vq5
      go_wp2
      exact hK _ _ rfl (Mod.refl _ _)
    refine opsOkA_cons ?_ ?_
    · intro K vs W hR hD hK
      have dq6 : vs 6 = .bool ((1 : Int) != 1) := hD 6 (by decide)
      clear hD
      try dsimp only at hK ⊢
      simp only [Act.put, List.setIfInBounds_toArray, List.set_cons_succ, List.set_cons_zero] at hK
      generalize vs 6 = vq6 at hK dq6 ⊢
      subst vq6
      go_wp2
      exact hK _ _ rfl (Mod.refl _ _)
    refine opsOkA_cons ?_ ?_
    · intro K vs W hR hD hK
      have dq7 : vs 7 = .bool ((1 : Int) != 1) := hD 7 (by decide)
      clear hD
      try dsimp only at hK ⊢
      simp only [Act.put, List.setIfInBounds_toArray, List.set_cons_succ, List.set_cons_zero] at hK
      generalize vs 7 = vq7 at hK dq7 ⊢
      subst vq7
      go_wp2
      exact hK _ _ rfl (Mod.refl _ _)
    refine opsOkA_cons ?_ ?_
    · intro K vs W hR hD hK
      have dq7 : vs 7 = .bool ((1 : Int) != 1) := hD 7 (by decide)
      have dq8 : vs 8 = .slice ag 1 cg := hD 8 (by decide)
      clear hD
      try dsimp only at hK ⊢
      simp only [Act.put, List.setIfInBounds_toArray, List.set_cons_succ, List.set_cons_zero] at hK
      generalize vs 7 = vq7 at hK dq7 ⊢
      subst vq7
      generalize vs 8 = vq8 at hK dq8 ⊢
      subst vq8
      have hix := HIX.out
      go_wp2_with fail
      exact hK _ _ rfl (Mod.refl _ _)
    refine opsOkA_cons ?_ ?_
    · intro K vs W hR hD hK
      have dq7 : vs 7 = .bool ((1 : Int) != 1) := hD 7 (by decide)
      have dq9 : vs 9 = .pointer (some ⟨fb, fo, none⟩) := hD 9 (by decide)
      clear hD
      try dsimp only at hK ⊢
      simp only [Act.put, List.setIfInBounds_toArray, List.set_cons_succ, List.set_cons_zero] at hK
      generalize vs 7 = vq7 at hK dq7 ⊢
      subst vq7
      generalize vs 9 = vq9 at hK dq9 ⊢
      subst vq9
      go_wp2
      exact hK _ _ rfl (Mod.refl _ _)
    refine opsOkA_cons ?_ ?_
    · intro K vs W hR hD hK
      have dq7 : vs 7 = .bool ((1 : Int) != 1) := hD 7 (by decide)
      have dq10 : vs 10 = .pointer (some ⟨fb, fo + 2, none⟩) := hD 10 (by decide)
      clear hD
      try dsimp only at hK ⊢
      simp only [Act.put, List.setIfInBounds_toArray, List.set_cons_succ, List.set_cons_zero] at hK
      generalize vs 7 = vq7 at hK dq7 ⊢
      subst vq7
      generalize vs 10 = vq10 at hK dq10 ⊢
      subst vq10
      have hc := (HSd.out.at (hR)).2.2.1
      go_wp2
      exact hK _ _ rfl (Mod.refl _ _)
    refine opsOkA_cons ?_ ?_
    · intro K vs W hR hD hK
      have dq7 : vs 7 = .bool ((1 : Int) != 1) := hD 7 (by decide)
      have dq11 : vs 11 = .int .i64 0 := hD 11 (by decide)
      clear hD
      try dsimp only at hK ⊢
      simp only [Act.put, List.setIfInBounds_toArray, List.set_cons_succ, List.set_cons_zero] at hK
      generalize vs 7 = vq7 at hK dq7 ⊢
      subst vq7
      generalize vs 11 = vq11 at hK dq11 ⊢
      subst vq11
      go_wp2
      exact hK _ _ rfl (Mod.refl _ _)
    refine opsOkA_cons ?_ ?_
    · intro K vs W hR hD hK
      have dq7 : vs 7 = .bool ((1 : Int) != 1) := hD 7 (by decide)
      have dq12 : vs 12 = .bool false := hD 12 (by decide)
      clear hD
      try dsimp only at hK ⊢
      simp only [Act.put, List.setIfInBounds_toArray, List.set_cons_succ, List.set_cons_zero] at hK
      generalize vs 7 = vq7 at hK dq7 ⊢
      subst vq7
      generalize vs 12 = vq12 at hK dq12 ⊢
      subst vq12
      go_wp2
      exact hK _ _ rfl (Mod.refl _ _)
    refine opsOkA_cons ?_ ?_
    · intro K vs W hR hD hK
      have dq13 : vs 13 = .bool false := hD 13 (by decide)
      clear hD
      try dsimp only at hK ⊢
      simp only [Act.put, List.setIfInBounds_toArray, List.set_cons_succ, List.set_cons_zero] at hK
      generalize vs 13 = vq13 at hK dq13 ⊢
      subst vq13
      go_wp2
      exact hK _ _ rfl (Mod.refl _ _)
    refine opsOkA_cons ?_ ?_
    · intro K vs W hR hD hK
      have dq14 : vs 14 = .bool false := hD 14 (by decide)
      clear hD
      try dsimp only at hK ⊢
      simp only [Act.put, List.setIfInBounds_toArray, List.set_cons_succ, List.set_cons_zero] at hK
      generalize vs 14 = vq14 at hK dq14 ⊢
      subst vq14
      go_wp2
      exact hK _ _ rfl (Mod.refl _ _)
    refine opsOkA_cons ?_ ?_
    · intro K vs W hR hD hK
      have dq14 : vs 14 = .bool false := hD 14 (by decide)
      have dq15 : vs 15 = .slice ag 1 cg := hD 15 (by decide)
      clear hD
      try dsimp only at hK ⊢
      simp only [Act.put, List.setIfInBounds_toArray, List.set_cons_succ, List.set_cons_zero] at hK
      generalize vs 14 = vq14 at hK dq14 ⊢
      subst vq14
      generalize vs 15 = vq15 at hK dq15 ⊢
      subst vq15
      have hix := HIX.out
      go_wp2_with fail
      exact hK _ _ rfl (Mod.refl _ _)
    refine opsOkA_cons ?_ ?_
    · intro K vs W hR hD hK
      have dq14 : vs 14 = .bool false := hD 14 (by decide)
      have dq16 : vs 16 = .pointer (some ⟨fb, fo, none⟩) := hD 16 (by decide)
      clear hD
      try dsimp only at hK ⊢
      simp only [Act.put, List.setIfInBounds_toArray, List.set_cons_succ, List.set_cons_zero] at hK
      generalize vs 14 = vq14 at hK dq14 ⊢
      subst vq14
      generalize vs 16 = vq16 at hK dq16 ⊢
      subst vq16
      go_wp2
      exact hK _ _ rfl (Mod.refl _ _)
    refine opsOkA_cons ?_ ?_
    · intro K vs W hR hD hK
      have dq14 : vs 14 = .bool false := hD 14 (by decide)
      have dq17 : vs 17 = .pointer (some ⟨fb, fo + 3, none⟩) := hD 17 (by decide)
      clear hD
      try dsimp only at hK ⊢
      simp only [Act.put, List.setIfInBounds_toArray, List.set_cons_succ, List.set_cons_zero] at hK
      generalize vs 14 = vq14 at hK dq14 ⊢
      subst vq14
      generalize vs 17 = vq17 at hK dq17 ⊢
      subst vq17
      have hc := (HSd.out.at (hR)).2.1
      go_wp2
      exact hK _ _ rfl (Mod.refl _ _)
    refine opsOkA_cons ?_ ?_
    · intro K vs W hR hD hK
      have dq14 : vs 14 = .bool false := hD 14 (by decide)
      have dq18 : vs 18 = .int .i64 0 := hD 18 (by decide)
      clear hD
      try dsimp only at hK ⊢
      simp only [Act.put, List.setIfInBounds_toArray, List.set_cons_succ, List.set_cons_zero] at hK
      generalize vs 14 = vq14 at hK dq14 ⊢
      subst vq14
      generalize vs 18 = vq18 at hK dq18 ⊢
      subst vq18
      go_wp2
      exact hK _ _ rfl (Mod.refl _ _)
    refine opsOkA_cons ?_ ?_
    · intro K vs W hR hD hK
      have dq14 : vs 14 = .bool false := hD 14 (by decide)
      have dq19 : vs 19 = .bool false := hD 19 (by decide)
      clear hD
      try dsimp only at hK ⊢
      simp only [Act.put, List.setIfInBounds_toArray, List.set_cons_succ, List.set_cons_zero] at hK
      generalize vs 14 = vq14 at hK dq14 ⊢
      subst vq14
      generalize vs 19 = vq19 at hK dq19 ⊢
      subst vq19
      go_wp2
      exact hK _ _ rfl (Mod.refl _ _)
    refine opsOkA_cons ?_ ?_
    · intro K vs W hR hD hK
      have dq20 : vs 20 = .bool false := hD 20 (by decide)
      clear hD
      try dsimp only at hK ⊢
      simp only [Act.put, List.setIfInBounds_toArray, List.set_cons_succ, List.set_cons_zero] at hK
      generalize vs 20 = vq20 at hK dq20 ⊢
      subst vq20
      go_wp2
      exact hK _ _ rfl (Mod.refl _ _)
    refine opsOkA_cons ?_ ?_
    · intro K vs W hR hD hK
      have dq21 : vs 21 = .bool false := hD 21 (by decide)
      clear hD
      try dsimp only at hK ⊢
      simp only [Act.put, List.setIfInBounds_toArray, List.set_cons_succ, List.set_cons_zero] at hK
      generalize vs 21 = vq21 at hK dq21 ⊢
      subst vq21
      go_wp2
      exact hK _ _ rfl (Mod.refl _ _)
    refine opsOkA_cons ?_ ?_
    · intro K vs W hR hD hK
      have dq21 : vs 21 = .bool false := hD 21 (by decide)
      have dq22 : vs 22 = .slice ag 1 cg := hD 22 (by decide)
      clear hD
      try dsimp only at hK ⊢
      simp only [Act.put, List.setIfInBounds_toArray, List.set_cons_succ, List.set_cons_zero] at hK
      generalize vs 21 = vq21 at hK dq21 ⊢
      subst vq21
      generalize vs 22 = vq22 at hK dq22 ⊢
      subst vq22
      have hix := HIX.out
      go_wp2_with fail
      exact hK _ _ rfl (Mod.refl _ _)
    refine opsOkA_cons ?_ ?_
    · intro K vs W hR hD hK
      have dq21 : vs 21 = .bool false := hD 21 (by decide)
      have dq23 : vs 23 = .pointer (some ⟨fb, fo, none⟩) := hD 23 (by decide)
      clear hD
      try dsimp only at hK ⊢
      simp only [Act.put, List.setIfInBounds_toArray, List.set_cons_succ, List.set_cons_zero] at hK
      generalize vs 21 = vq21 at hK dq21 ⊢
      subst vq21
      generalize vs 23 = vq23 at hK dq23 ⊢
      subst vq23
      go_wp2
      exact hK _ _ rfl (Mod.refl _ _)
    refine opsOkA_cons ?_ ?_
    · intro K vs W hR hD hK
      have dq21 : vs 21 = .bool false := hD 21 (by decide)
      have dq24 : vs 24 = .pointer (some ⟨fb, fo + 5, none⟩) := hD 24 (by decide)
      clear hD
      try dsimp only at hK ⊢
      simp only [Act.put, List.setIfInBounds_toArray, List.set_cons_succ, List.set_cons_zero] at hK
      generalize vs 21 = vq21 at hK dq21 ⊢
      subst vq21
      generalize vs 24 = vq24 at hK dq24 ⊢
      subst vq24
      have hc := (HSd.out.at (hR)).1
      go_wp2
      exact hK _ _ rfl (Mod.refl _ _)
    refine opsOkA_cons ?_ ?_
    · intro K vs W hR hD hK
      have dq21 : vs 21 = .bool false := hD 21 (by decide)
      have dq25 : vs 25 = .slice ua m uc := hD 25 (by decide)
      clear hD
      try dsimp only at hK ⊢
      simp only [Act.put, List.setIfInBounds_toArray, List.set_cons_succ, List.set_cons_zero] at hK
      generalize vs 21 = vq21 at hK dq21 ⊢
      subst vq21
      generalize vs 25 = vq25 at hK dq25 ⊢
      subst vq25
      have k1 := run_strS W 38 9 5 Try.underlying38 Try.underlying5 Try.underlying9 ((HSd.out.at (hR)).2.2.2.2.2.2.1)
      rw [HY.out] at k1
      go_wp2
      exact hK _ _ rfl (Mod.refl _ _)
    refine opsOkA_cons ?_ ?_
    · intro K vs W hR hD hK
      have dq21 : vs 21 = .bool false := hD 21 (by decide)
      clear hD
      try dsimp only at hK ⊢
      simp only [Act.put, List.setIfInBounds_toArray, List.set_cons_succ, List.set_cons_zero] at hK
      generalize vs 21 = vq21 at hK dq21 ⊢
      subst vq21
      go_wp2
      exact hK _ _ rfl (Mod.refl _ _)
    refine opsOkA_cons ?_ ?_
    · intro K vs W hR hD hK
      have dq21 : vs 21 = .bool false := hD 21 (by decide)
      have dq27 : vs 27 = .slice a0 m c0 := hD 27 (by decide)
      clear hD
      try dsimp only at hK ⊢
      simp only [Act.put, List.setIfInBounds_toArray, List.set_cons_succ, List.set_cons_zero] at hK
      generalize vs 21 = vq21 at hK dq21 ⊢
      subst vq21
      generalize vs 27 = vq27 at hK dq27 ⊢
      subst vq27
      have k1 := run_strS W 38 9 5 Try.underlying38 Try.underlying5 Try.underlying9 ((HSd.out.at (hR)).2.2.2.2.2.1)
      rw [HY.out] at k1
      go_wp2
      exact hK _ _ rfl (Mod.refl _ _)
    refine opsOkA_cons ?_ ?_
    · intro K vs W hR hD hK
      have dq21 : vs 21 = .bool false := hD 21 (by decide)
      have dq26 : vs 26 = .string Y := hD 26 (by decide)
      have dq28 : vs 28 = .string Y := hD 28 (by decide)
      clear hD
      try dsimp only at hK ⊢
      simp only [Act.put, List.setIfInBounds_toArray, List.set_cons_succ, List.set_cons_zero] at hK
      generalize vs 21 = vq21 at hK dq21 ⊢
      subst vq21
      generalize vs 26 = vq26 at hK dq26 ⊢
      subst vq26
      generalize vs 28 = vq28 at hK dq28 ⊢
      subst vq28
      go_wp2
      exact hK _ _ rfl (Mod.refl _ _)
    refine opsOkA_cons ?_ ?_
    · intro K vs W hR hD hK
      have dq21 : vs 21 = .bool false := hD 21 (by decide)
      have dq29 : vs 29 = .bool false := hD 29 (by decide)
      clear hD
      try dsimp only at hK ⊢
      simp only [Act.put, List.setIfInBounds_toArray, List.set_cons_succ, List.set_cons_zero] at hK
      generalize vs 21 = vq21 at hK dq21 ⊢
      subst vq21
      generalize vs 29 = vq29 at hK dq29 ⊢
      subst vq29
      go_wp2
      exact hK _ _ rfl (Mod.refl _ _)
    exact opsOkA_nil
  · intro vs wq1 hR hF
    have dq30 : vs 30 = .bool false := hF 30 (by decide)
    clear hF
    try dsimp only
    generalize vs 30 = vq30 at dq30 ⊢
    subst dq30
    replace HS := Lib.hid (HSd.out.step hR)
    clear HSd hR
    have HC3 := Lib.hid (HC2.out.later (HS.out.now).2.2.2.2.2.2.2)
    clear HC2 HOL HIX
    go_wp2_with fail
    go_loopw [13, 14] (fun av kv wr => ∃ (a k : Nat) (D : Int) (f : Hld), av = .int .i64 (a : Int) ∧ kv = .int .i64 ((k : Int) + 1) ∧ a ≤ 5 ∧ k ≤ T ∧ D = (B : Int) * ((k : Int) + 1) ∧ (∀ s, f s = none) ∧ C1 w wr p 2 B B T 9 (trX D k l a f false)) (fun _ kv _ => T + 1 - (intOf kv).toNat)
    case atStart => exact ⟨0, 0, (B : Int), fun _ => none, rfl, rfl, by omega, by omega, by simp, fun _ => rfl, HC3.out⟩
    case round =>
      obtain ⟨a, k, D, f, rfl, rfl, ha, hkT, hD, hf, hc⟩ := hrel
      obtain ⟨wo, hwo⟩ : ∃ x : World, x = wr := ⟨_, rfl⟩
      subst hwo
      have HC4 := Lib.hid hc
      have HF := Lib.hid hf
      clear hc HC3 hf
      have hDb : 1 ≤ D ∧ D ≤ 220 := by
        have h1 : (B : Int) * 1 ≤ (B : Int) * ((k : Int) + 1) := Int.mul_le_mul_of_nonneg_left (by omega) (by omega)
        have h2 : (B : Int) * ((k : Int) + 1) ≤ 20 * ((k : Int) + 1) := Int.mul_le_mul_of_nonneg_right (by omega) (by omega)
        omega
      have hDw : IntKind.i64.wrap ((B : Int) * ((k : Int) + 1)) = D := by rw [← hD]; exact IntWalk.i64_in _ (by omega)
      have hD2 : (B : Int) * ((k : Int) + 1) = D := hD.symm
      have hDs : D + (B : Int) = (B : Int) * ((k : Int) + 1 + 1) := by rw [Int.mul_add (B : Int) ((k : Int) + 1) 1, hD2]; omega
      have HDS := Lib.hid hDs
      clear hD hDs
      by_cases hk : k < T
      case neg =>
        obtain rfl : k = T := by omega
        have y1 : decide ((k : Int) + 1 ≤ (k : Int)) = false := by simp; omega
        have hwt : IntKind.i64.wrap ((k : Int) + 1) = (k : Int) + 1 := IntWalk.i64_in _ (by omega)
        have hpg := c1_pass_gone HC4.out rfl (trX_b (by rw [HN.out]; omega) (by omega)) trX_ids D (by omega) (trX_gone (Int.le_refl _) (Nat.le_refl _))
        have HPG := Lib.hid hpg
        clear hpg
        go_wp2_with fail
        refine HPG.out.mono ?_
        rintro e w5 ⟨rfl, hc5, _⟩
        have HC5 := Lib.hid hc5
        clear hc5 HPG HC4
        go_wp2_with fail
        refine (c1_push_over (HC5.out.later (Mod.alloc _ _ _)) rfl D _).mono ?_
        rintro e w' ⟨rfl, hw'⟩
        obtain ⟨w6, hw6⟩ : ∃ x : World, x = w' := ⟨_, rfl⟩
        subst hw6
        have HC6 := Lib.hid (HC5.out.later (show Mod (fun _ => False) w5 w6 by rw [← hw']; exact Mod.alloc _ _ _))
        clear hw' HC5
        go_wp2_with fail
        refine (c1_no HC6.out D 9 2 0 1 0 none 0 0 (.inl rfl)).mono ?_
        rintro e w7 ⟨rfl, hm7⟩
        have HC7 := Lib.hid (HC6.out.later hm7)
        clear hm7 HC6
        go_wp2_with (go_at_call 7; refine (awake27_any _).mono ?_; rintro e w8 ⟨rfl, hm8⟩; have HM8 := Lib.hid hm8; clear hm8)
        go_ret
        exact ⟨rfl, HC7.out.mod.of2 HM8.out⟩
      case pos =>
        have y1 : decide ((k : Int) + 1 ≤ (T : Int)) = true := by simp; omega
        have ha1 : IntKind.i64.wrap ((a : Int) + 1) = ((a + 1 : Nat) : Int) := by rw [IntWalk.i64_in _ (by omega)]; omega
        have hk1 : IntKind.i64.wrap ((k : Int) + 1 + 1) = ((k + 1 : Nat) : Int) + 1 := by rw [IntWalk.i64_in _ (by omega)]; omega
        have hDm : IntKind.i64.wrap (D - 1) = D - 1 := IntWalk.i64_in _ (by omega)
        by_cases hag : a < gt
        · skip
          have y2 : decide ((a : Int) < (gt : Int)) = true := by simp; omega
          have y2n : decide (a < gt) = true := by simp; omega
          have hal : Mod (fun _ => False) wo (wo.alloc (.cells #[.int .u8 1] 5)) := Mod.alloc _ _ _
          have hbt : BodyT (wo.alloc (.cells #[.int .u8 1] 5)) [1] (.slice (some ⟨wo.heap.size, 0, none⟩) 1 1) := ⟨_, 1, 1, rfl, rfl, lit_byte wo 5 _ (.int .u8 1) rfl⟩
          obtain ⟨f2, hz, hf2⟩ := trX_C (D := D) (n := k) (b := l) (a := a) (o := false) HF.out
          have hp := c1_data (HC4.out.later hal) rfl (trX_b (by rw [HN.out]; omega) (by omega)) (D - 1) (by omega) (a : Int) 0 0 _ 1 1 [1] rfl hbt (by omega) _ _ _ trX_ack hz (trX_L HF.out)
          rw [trX_payC, trX_payD] at hp
          have HP := Lib.hid hp
          have HF2 := Lib.hid hf2
          clear hp hz hf2 hal hbt
          go_wp2_with fail
          refine HP.out.mono ?_
          rintro e w5 ⟨u5, v5, rfl, hu5, hv5, hc5, _⟩
          obtain ⟨a6, c6, rfl⟩ := hu5.form 1 rfl
          obtain ⟨a5, c5, g5, rfl, hol5⟩ := hv5.form 1 rfl
          have HC5 := Lib.hid hc5
          obtain ⟨fb, fo, fv, hpl, hsn, _, hnc, f0, f1, f2x, f3, f4, f5, hbt⟩ := hol5.elem 0 _ rfl
          have hix := fun wx => run_indexS (P := Try.prog) wx 36 40 iG 6 Try.underlying36 hiG hsG a5 1 c5 0 (by omega) hsn
          rw [hpl] at hix
          replace hix : ∀ wx, (Instr.indexAt 36 (.slice a5 1 c5) (.int .i64 0)).run Try.prog wx = .ok (.pointer (some ⟨fb, fo, none⟩)) wx := hix
          replace f3 : w5.cell? ⟨fb, fo + 3, none⟩ = some (.int .i64 ((a + 1 : Nat) : Int)) := f3
          replace f1 : w5.cell? ⟨fb, fo + 1, none⟩ = some (.int .i64 2) := f1
          clear hu5 hv5 hc5 hol5 hpl hsn hnc f0 f2x f4 f5 hbt HP HC4
          have hpa := c1_pass HC5.out rfl (trX_b (by rw [HN.out]; omega) (by show a + 1 ≤ _; omega)) trX_ids D (by omega) (trX_over (Int.le_refl _) hk)
          rw [trX_D (Int.le_refl _) hk, trX_S (Int.le_refl _) hk hB1, trX_payC, trX_payD, HDS.out] at hpa
          have HPA := Lib.hid hpa
          clear hpa
          go_wp2_with fail
          refine HPA.out.mono ?_
          rintro e w6 ⟨v6, rfl, hv6, hc6, _⟩
          obtain ⟨ah, ch, gh, rfl, hol6⟩ := hv6.form 1 rfl
          have HOL6 := Lib.hid hol6
          have HC6 := Lib.hid hc6
          clear hv6 hol6 hc6 HPA hix f1 f3
          obtain ⟨fb, fo, fv, hpl, hsn, _, hnc, f0, f1, f2, f3, f4, f5, hbt⟩ := HOL6.out.elem 0 _ rfl
          have hix := fun wx => run_indexS (P := Try.prog) wx 36 40 iG 6 Try.underlying36 hiG hsG ah 1 ch 0 (by omega) hsn
          rw [hpl] at hix
          replace hix : ∀ wx, (Instr.indexAt 36 (.slice ah 1 ch) (.int .i64 0)).run Try.prog wx = .ok (.pointer (some ⟨fb, fo, none⟩)) wx := hix
          obtain ⟨ua, un, uc, rfl, hun, hbo⟩ := hbt
          obtain rfl : m = un := by rw [← hun]; exact HN.out.symm
          have hrd := Rd.ofOwn hbo
          have HIX := Lib.hid hix
          clear hbo hix hpl hsn hnc f4 hun
          have HS : Hid (Ev (Mod (fun _ => False) w6) w6) := Lib.hid (Ev.mod w6)
          replace HS := Lib.hid ((Ev.rd hrd).and HS.out)
          replace HS := Lib.hid ((Ev.rd (HRD.out.keep (HC6.out.mod) (fun _ _ e => e))).and HS.out)
          replace HS := Lib.hid ((Ev.cell f0).and HS.out)
          replace HS := Lib.hid ((Ev.cell f1).and HS.out)
          replace HS := Lib.hid ((Ev.cell f2).and HS.out)
          replace HS := Lib.hid ((Ev.cell f3).and HS.out)
          replace HS := Lib.hid ((Ev.cell f5).and HS.out)
          clear f0 f1 f2 f3 f5 hrd
          obtain ⟨Y, hY⟩ : ∃ x, strOf l = x := ⟨_, rfl⟩
          have HY := Lib.hid hY
          clear hY
          go_upto_region 19 with fail
          have HSd := Lib.hid HS.out.drew
          refine wp_region_inv3 (act := ?actct1_r19_0) (Mod (fun _ => False)) (fun i => (ct1_r19_0_F fb fo uc m c0 a ch ua a0 ah Y).getD i (fun _ _ => True)) (fun i => ct1_r19_0_D.getD i []) (by kernel_rfl) (by kernel_rfl) (by kernel_rfl) (by kernel_rfl) (fun _ => Mod.refl _ _)
            (fun _ _ _ h k => h.trans k (fun _ _ e => e) (fun _ _ e => e)) ?hactct1_r19_0 (stable_list ?_) ?_ ?_
          case hactct1_r19_0 => intro vs; simp only [putAll, Nat.zero_add, Nat.reduceAdd, Act.put, List.setIfInBounds_toArray, List.set_cons_succ, List.set_cons_zero]; exact rfl
          · unfold ct1_r19_0_F
            exact stable_cons (stable_val _) <| stable_cons (stable_val _) <| stable_cons (stable_val _) <| stable_cons (stable_val _) <| stable_cons (stable_val _) <| stable_cons (stable_val _) <| stable_cons (stable_val _) <| stable_cons (stable_val _) <| stable_cons (stable_val _) <| stable_cons (stable_val _) <| stable_cons (stable_val _) <| stable_cons (stable_val _) <| stable_cons (stable_val _) <| stable_cons (stable_val _) <| stable_cons (stable_val _) <| stable_cons (stable_val _) <| stable_cons (stable_val _) <| stable_cons (stable_val _) <| stable_cons (stable_val _) <| stable_cons (stable_val _) <| stable_cons (stable_val _) <| stable_cons (stable_val _) <| stable_cons (stable_val _) <| stable_cons (stable_val _) <| stable_cons (stable_val _) <| stable_cons (stable_val _) <| stable_cons (stable_val _) <| stable_cons (stable_val _) <| stable_cons (stable_val _) <| stable_cons (stable_val _) <| stable_cons (stable_val _) <| stable_cons (stable_val _) <| stable_cons (stable_val _) <| stable_cons (stable_val _) <| stable_cons (stable_val _) <| stable_cons (stable_val _) <| stable_cons (stable_val _) <| stable_cons (stable_val _) <| stable_cons (stable_val _) <| stable_cons (stable_val _) <| stable_cons (stable_val _) <| stable_cons (stable_val _) <| stable_cons (stable_val _) <| stable_cons (stable_val _) <| stable_cons (stable_val _) <| stable_cons (stable_val _) <| stable_nil
          · refine opsOkA_cons ?_ ?_
            · intro K vs W hR hD hK
              clear hD
              try dsimp only at hK ⊢
              simp only [Act.put, List.setIfInBounds_toArray, List.set_cons_succ, List.set_cons_zero] at hK
              go_wp2
              exact hK _ _ rfl (Mod.refl _ _)
            refine opsOkA_cons ?_ ?_
            · intro K vs W hR hD hK
              have dq0 : vs 0 = .int .i64 0 := hD 0 (by decide)
              clear hD
              try dsimp only at hK ⊢
              simp only [Act.put, List.setIfInBounds_toArray, List.set_cons_succ, List.set_cons_zero] at hK
              generalize vs 0 = vq0 at hK dq0 ⊢
              subst vq0
              go_wp2
              exact hK _ _ rfl (Mod.refl _ _)
            refine opsOkA_cons ?_ ?_
            · intro K vs W hR hD hK
              have dq1 : vs 1 = .bool false := hD 1 (by decide)
              clear hD
              try dsimp only at hK ⊢
              simp only [Act.put, List.setIfInBounds_toArray, List.set_cons_succ, List.set_cons_zero] at hK
              generalize vs 1 = vq1 at hK dq1 ⊢
              subst vq1
              go_wp2
              exact hK _ _ rfl (Mod.refl _ _)
            refine opsOkA_cons ?_ ?_
            · intro K vs W hR hD hK
              have dq2 : vs 2 = .bool false := hD 2 (by decide)
              clear hD
              try dsimp only at hK ⊢
              simp only [Act.put, List.setIfInBounds_toArray, List.set_cons_succ, List.set_cons_zero] at hK
              generalize vs 2 = vq2 at hK dq2 ⊢
              subst vq2
              go_wp2
              exact hK _ _ rfl (Mod.refl _ _)
            refine opsOkA_cons ?_ ?_
            · intro K vs W hR hD hK
              have dq2 : vs 2 = .bool false := hD 2 (by decide)
              have dq3 : vs 3 = .slice ah 1 ch := hD 3 (by decide)
              clear hD
              try dsimp only at hK ⊢
              simp only [Act.put, List.setIfInBounds_toArray, List.set_cons_succ, List.set_cons_zero] at hK
              generalize vs 2 = vq2 at hK dq2 ⊢
              subst vq2
              generalize vs 3 = vq3 at hK dq3 ⊢
              subst vq3
              go_wp2_with fail
              exact hK _ _ rfl (Mod.refl _ _)
            refine opsOkA_cons ?_ ?_
            · intro K vs W hR hD hK
              have dq2 : vs 2 = .bool false := hD 2 (by decide)
              have dq4 : vs 4 = .int .i64 (1 : Int) := hD 4 (by decide)
              clear hD
              try dsimp only at hK ⊢
              simp only [Act.put, List.setIfInBounds_toArray, List.set_cons_succ, List.set_cons_zero] at hK
              generalize vs 2 = vq2 at hK dq2 ⊢
              subst vq2
              generalize vs 4 = vq4 at hK dq4 ⊢
              subst vq4
              go_wp2
              exact hK _ _ rfl (Mod.refl _ _)
            refine opsOkA_cons ?_ ?_
            · intro K vs W hR hD hK
              have dq2 : vs 2 = .bool false := hD 2 (by decide)
              have dq5 : vs 5 = .bool ((1 : Int) != 1) := hD 5 (by decide)
              clear hD
              try dsimp only at hK ⊢
              simp only [Act.put, List.setIfInBounds_toArray, List.set_cons_succ, List.set_cons_zero] at hK
              generalize vs 2 = vq2 at hK dq2 ⊢
              subst vq2
              generalize vs 5 = vq5 at hK dq5 ⊢
              subst vq5
              go_wp2
              exact hK _ _ rfl (Mod.refl _ _)
            refine opsOkA_cons ?_ ?_
            · intro K vs W hR hD hK
              have dq6 : vs 6 = .bool ((1 : Int) != 1) := hD 6 (by decide)
              clear hD
              try dsimp only at hK ⊢
              simp only [Act.put, List.setIfInBounds_toArray, List.set_cons_succ, List.set_cons_zero] at hK
              generalize vs 6 = vq6 at hK dq6 ⊢
              subst vq6
              go_wp2
              exact hK _ _ rfl (Mod.refl _ _)
            refine opsOkA_cons ?_ ?_
            · intro K vs W hR hD hK
              have dq7 : vs 7 = .bool ((1 : Int) != 1) := hD 7 (by decide)
              clear hD
              try dsimp only at hK ⊢
              simp only [Act.put, List.setIfInBounds_toArray, List.set_cons_succ, List.set_cons_zero] at hK
              generalize vs 7 = vq7 at hK dq7 ⊢
              subst vq7
              go_wp2
              exact hK _ _ rfl (Mod.refl _ _)
            refine opsOkA_cons ?_ ?_
            · intro K vs W hR hD hK
              have dq7 : vs 7 = .bool ((1 : Int) != 1) := hD 7 (by decide)
              have dq8 : vs 8 = .slice ah 1 ch := hD 8 (by decide)
              clear hD
              try dsimp only at hK ⊢
              simp only [Act.put, List.setIfInBounds_toArray, List.set_cons_succ, List.set_cons_zero] at hK
              generalize vs 7 = vq7 at hK dq7 ⊢
              subst vq7
              generalize vs 8 = vq8 at hK dq8 ⊢
              subst vq8
              have hix := HIX.out
              go_wp2_with fail
              exact hK _ _ rfl (Mod.refl _ _)
            refine opsOkA_cons ?_ ?_
            · intro K vs W hR hD hK
              have dq7 : vs 7 = .bool ((1 : Int) != 1) := hD 7 (by decide)
              have dq9 : vs 9 = .pointer (some ⟨fb, fo, none⟩) := hD 9 (by decide)
              clear hD
              try dsimp only at hK ⊢
              simp only [Act.put, List.setIfInBounds_toArray, List.set_cons_succ, List.set_cons_zero] at hK
              generalize vs 7 = vq7 at hK dq7 ⊢
              subst vq7
              generalize vs 9 = vq9 at hK dq9 ⊢
              subst vq9
              go_wp2
              exact hK _ _ rfl (Mod.refl _ _)
            refine opsOkA_cons ?_ ?_
            · intro K vs W hR hD hK
              have dq7 : vs 7 = .bool ((1 : Int) != 1) := hD 7 (by decide)
              have dq10 : vs 10 = .pointer (some ⟨fb, fo + 2, none⟩) := hD 10 (by decide)
              clear hD
              try dsimp only at hK ⊢
              simp only [Act.put, List.setIfInBounds_toArray, List.set_cons_succ, List.set_cons_zero] at hK
              generalize vs 7 = vq7 at hK dq7 ⊢
              subst vq7
              generalize vs 10 = vq10 at hK dq10 ⊢
              subst vq10
              have hc := (HSd.out.at (hR)).2.2.1
              go_wp2
              exact hK _ _ rfl (Mod.refl _ _)
            refine opsOkA_cons ?_ ?_
            · intro K vs W hR hD hK
              have dq7 : vs 7 = .bool ((1 : Int) != 1) := hD 7 (by decide)
              have dq11 : vs 11 = .int .i64 0 := hD 11 (by decide)
              clear hD
              try dsimp only at hK ⊢
              simp only [Act.put, List.setIfInBounds_toArray, List.set_cons_succ, List.set_cons_zero] at hK
              generalize vs 7 = vq7 at hK dq7 ⊢
              subst vq7
              generalize vs 11 = vq11 at hK dq11 ⊢
              subst vq11
              go_wp2
              exact hK _ _ rfl (Mod.refl _ _)
            refine opsOkA_cons ?_ ?_
            · intro K vs W hR hD hK
              have dq7 : vs 7 = .bool ((1 : Int) != 1) := hD 7 (by decide)
              have dq12 : vs 12 = .bool false := hD 12 (by decide)
              clear hD
              try dsimp only at hK ⊢
              simp only [Act.put, List.setIfInBounds_toArray, List.set_cons_succ, List.set_cons_zero] at hK
              generalize vs 7 = vq7 at hK dq7 ⊢
              subst vq7
              generalize vs 12 = vq12 at hK dq12 ⊢
              subst vq12
              go_wp2
              exact hK _ _ rfl (Mod.refl _ _)
            refine opsOkA_cons ?_ ?_
            · intro K vs W hR hD hK
              have dq13 : vs 13 = .bool false := hD 13 (by decide)
              clear hD
              try dsimp only at hK ⊢
              simp only [Act.put, List.setIfInBounds_toArray, List.set_cons_succ, List.set_cons_zero] at hK
              generalize vs 13 = vq13 at hK dq13 ⊢
              subst vq13
              go_wp2
              exact hK _ _ rfl (Mod.refl _ _)
            refine opsOkA_cons ?_ ?_
            · intro K vs W hR hD hK
              have dq14 : vs 14 = .bool false := hD 14 (by decide)
              clear hD
              try dsimp only at hK ⊢
              simp only [Act.put, List.setIfInBounds_toArray, List.set_cons_succ, List.set_cons_zero] at hK
              generalize vs 14 = vq14 at hK dq14 ⊢
              subst vq14
              go_wp2
              exact hK _ _ rfl (Mod.refl _ _)
            refine opsOkA_cons ?_ ?_
            · intro K vs W hR hD hK
              have dq14 : vs 14 = .bool false := hD 14 (by decide)
              have dq15 : vs 15 = .slice ah 1 ch := hD 15 (by decide)
              clear hD
              try dsimp only at hK ⊢
              simp only [Act.put, List.setIfInBounds_toArray, List.set_cons_succ, List.set_cons_zero] at hK
              generalize vs 14 = vq14 at hK dq14 ⊢
              subst vq14
              generalize vs 15 = vq15 at hK dq15 ⊢
              subst vq15
              have hix := HIX.out
              go_wp2_with fail
              exact hK _ _ rfl (Mod.refl _ _)
            refine opsOkA_cons ?_ ?_
            · intro K vs W hR hD hK
              have dq14 : vs 14 = .bool false := hD 14 (by decide)
              have dq16 : vs 16 = .pointer (some ⟨fb, fo, none⟩) := hD 16 (by decide)
              clear hD
              try dsimp only at hK ⊢
              simp only [Act.put, List.setIfInBounds_toArray, List.set_cons_succ, List.set_cons_zero] at hK
              generalize vs 14 = vq14 at hK dq14 ⊢
              subst vq14
              generalize vs 16 = vq16 at hK dq16 ⊢
              subst vq16
              go_wp2
              exact hK _ _ rfl (Mod.refl _ _)
            refine opsOkA_cons ?_ ?_
            · intro K vs W hR hD hK
              have dq14 : vs 14 = .bool false := hD 14 (by decide)
              have dq17 : vs 17 = .pointer (some ⟨fb, fo + 3, none⟩) := hD 17 (by decide)
              clear hD
              try dsimp only at hK ⊢
              simp only [Act.put, List.setIfInBounds_toArray, List.set_cons_succ, List.set_cons_zero] at hK
              generalize vs 14 = vq14 at hK dq14 ⊢
              subst vq14
              generalize vs 17 = vq17 at hK dq17 ⊢
              subst vq17
              have hc := (HSd.out.at (hR)).2.1
              go_wp2
              exact hK _ _ rfl (Mod.refl _ _)
            refine opsOkA_cons ?_ ?_
            · intro K vs W hR hD hK
              have dq14 : vs 14 = .bool false := hD 14 (by decide)
              clear hD
              try dsimp only at hK ⊢
              simp only [Act.put, List.setIfInBounds_toArray, List.set_cons_succ, List.set_cons_zero] at hK
              generalize vs 14 = vq14 at hK dq14 ⊢
              subst vq14
              go_wp2
              exact hK _ _ rfl (Mod.refl _ _)
            refine opsOkA_cons ?_ ?_
            · intro K vs W hR hD hK
              have dq14 : vs 14 = .bool false := hD 14 (by decide)
              have dq18 : vs 18 = .int .i64 (((a + 1 : Nat) : Int)) := hD 18 (by decide)
              have dq19 : vs 19 = .int .i64 (((a + 1 : Nat) : Int)) := hD 19 (by decide)
              clear hD
              try dsimp only at hK ⊢
              simp only [Act.put, List.setIfInBounds_toArray, List.set_cons_succ, List.set_cons_zero] at hK
              generalize vs 14 = vq14 at hK dq14 ⊢
              subst vq14
              generalize vs 18 = vq18 at hK dq18 ⊢
              subst vq18
              generalize vs 19 = vq19 at hK dq19 ⊢
              subst vq19
              go_wp2
              exact hK _ _ rfl (Mod.refl _ _)
            refine opsOkA_cons ?_ ?_
            · intro K vs W hR hD hK
              have dq14 : vs 14 = .bool false := hD 14 (by decide)
              have dq20 : vs 20 = .bool false := hD 20 (by decide)
              clear hD
              try dsimp only at hK ⊢
              simp only [Act.put, List.setIfInBounds_toArray, List.set_cons_succ, List.set_cons_zero] at hK
              generalize vs 14 = vq14 at hK dq14 ⊢
              subst vq14
              generalize vs 20 = vq20 at hK dq20 ⊢
              subst vq20
              go_wp2
              exact hK _ _ rfl (Mod.refl _ _)
            refine opsOkA_cons ?_ ?_
            · intro K vs W hR hD hK
              have dq21 : vs 21 = .bool false := hD 21 (by decide)
              clear hD
              try dsimp only at hK ⊢
              simp only [Act.put, List.setIfInBounds_toArray, List.set_cons_succ, List.set_cons_zero] at hK
              generalize vs 21 = vq21 at hK dq21 ⊢
              subst vq21
              go_wp2
              exact hK _ _ rfl (Mod.refl _ _)
            refine opsOkA_cons ?_ ?_
            · intro K vs W hR hD hK
              have dq22 : vs 22 = .bool false := hD 22 (by decide)
              clear hD
              try dsimp only at hK ⊢
              simp only [Act.put, List.setIfInBounds_toArray, List.set_cons_succ, List.set_cons_zero] at hK
              generalize vs 22 = vq22 at hK dq22 ⊢
              subst vq22
              go_wp2
              exact hK _ _ rfl (Mod.refl _ _)
            refine opsOkA_cons ?_ ?_
            · intro K vs W hR hD hK
              have dq22 : vs 22 = .bool false := hD 22 (by decide)
              have dq23 : vs 23 = .slice ah 1 ch := hD 23 (by decide)
              clear hD
              try dsimp only at hK ⊢
              simp only [Act.put, List.setIfInBounds_toArray, List.set_cons_succ, List.set_cons_zero] at hK
              generalize vs 22 = vq22 at hK dq22 ⊢
              subst vq22
              generalize vs 23 = vq23 at hK dq23 ⊢
              subst vq23
              have hix := HIX.out
              go_wp2_with fail
              exact hK _ _ rfl (Mod.refl _ _)
            refine opsOkA_cons ?_ ?_
            · intro K vs W hR hD hK
              have dq22 : vs 22 = .bool false := hD 22 (by decide)
              have dq24 : vs 24 = .pointer (some ⟨fb, fo, none⟩) := hD 24 (by decide)
              clear hD
              try dsimp only at hK ⊢
              simp only [Act.put, List.setIfInBounds_toArray, List.set_cons_succ, List.set_cons_zero] at hK
              generalize vs 22 = vq22 at hK dq22 ⊢
              subst vq22
              generalize vs 24 = vq24 at hK dq24 ⊢
              subst vq24
              go_wp2
              exact hK _ _ rfl (Mod.refl _ _)
            refine opsOkA_cons ?_ ?_
            · intro K vs W hR hD hK
              have dq22 : vs 22 = .bool false := hD 22 (by decide)
              have dq25 : vs 25 = .pointer (some ⟨fb, fo + 5, none⟩) := hD 25 (by decide)
              clear hD
              try dsimp only at hK ⊢
              simp only [Act.put, List.setIfInBounds_toArray, List.set_cons_succ, List.set_cons_zero] at hK
              generalize vs 22 = vq22 at hK dq22 ⊢
              subst vq22
              generalize vs 25 = vq25 at hK dq25 ⊢
              subst vq25
              have hc := (HSd.out.at (hR)).1
              go_wp2
              exact hK _ _ rfl (Mod.refl _ _)
            refine opsOkA_cons ?_ ?_
            · intro K vs W hR hD hK
              have dq22 : vs 22 = .bool false := hD 22 (by decide)
              have dq26 : vs 26 = .slice ua m uc := hD 26 (by decide)
              clear hD
              try dsimp only at hK ⊢
              simp only [Act.put, List.setIfInBounds_toArray, List.set_cons_succ, List.set_cons_zero] at hK
              generalize vs 22 = vq22 at hK dq22 ⊢
              subst vq22
              generalize vs 26 = vq26 at hK dq26 ⊢
              subst vq26
              have k1 := run_strS W 38 9 5 Try.underlying38 Try.underlying5 Try.underlying9 ((HSd.out.at (hR)).2.2.2.2.2.2.1)
              rw [HY.out] at k1
              go_wp2
              exact hK _ _ rfl (Mod.refl _ _)
            refine opsOkA_cons ?_ ?_
            · intro K vs W hR hD hK
              have dq22 : vs 22 = .bool false := hD 22 (by decide)
              clear hD
              try dsimp only at hK ⊢
              simp only [Act.put, List.setIfInBounds_toArray, List.set_cons_succ, List.set_cons_zero] at hK
              generalize vs 22 = vq22 at hK dq22 ⊢
              subst vq22
              go_wp2
              exact hK _ _ rfl (Mod.refl _ _)
            refine opsOkA_cons ?_ ?_
            · intro K vs W hR hD hK
              have dq22 : vs 22 = .bool false := hD 22 (by decide)
              have dq28 : vs 28 = .slice a0 m c0 := hD 28 (by decide)
              clear hD
              try dsimp only at hK ⊢
              simp only [Act.put, List.setIfInBounds_toArray, List.set_cons_succ, List.set_cons_zero] at hK
              generalize vs 22 = vq22 at hK dq22 ⊢
              subst vq22
              generalize vs 28 = vq28 at hK dq28 ⊢
              subst vq28
              have k1 := run_strS W 38 9 5 Try.underlying38 Try.underlying5 Try.underlying9 ((HSd.out.at (hR)).2.2.2.2.2.1)
              rw [HY.out] at k1
              go_wp2
              exact hK _ _ rfl (Mod.refl _ _)
            refine opsOkA_cons ?_ ?_
            · intro K vs W hR hD hK
              have dq22 : vs 22 = .bool false := hD 22 (by decide)
              have dq27 : vs 27 = .string Y := hD 27 (by decide)
              have dq29 : vs 29 = .string Y := hD 29 (by decide)
              clear hD
              try dsimp only at hK ⊢
              simp only [Act.put, List.setIfInBounds_toArray, List.set_cons_succ, List.set_cons_zero] at hK
              generalize vs 22 = vq22 at hK dq22 ⊢
              subst vq22
              generalize vs 27 = vq27 at hK dq27 ⊢
              subst vq27
              generalize vs 29 = vq29 at hK dq29 ⊢
              subst vq29
              go_wp2
              exact hK _ _ rfl (Mod.refl _ _)
            refine opsOkA_cons ?_ ?_
            · intro K vs W hR hD hK
              have dq22 : vs 22 = .bool false := hD 22 (by decide)
              have dq30 : vs 30 = .bool false := hD 30 (by decide)
              clear hD
              try dsimp only at hK ⊢
              simp only [Act.put, List.setIfInBounds_toArray, List.set_cons_succ, List.set_cons_zero] at hK
              generalize vs 22 = vq22 at hK dq22 ⊢
              subst vq22
              generalize vs 30 = vq30 at hK dq30 ⊢
              subst vq30
              go_wp2
              exact hK _ _ rfl (Mod.refl _ _)
            refine opsOkA_cons ?_ ?_
            · intro K vs W hR hD hK
              have dq31 : vs 31 = .bool false := hD 31 (by decide)
              clear hD
              try dsimp only at hK ⊢
              simp only [Act.put, List.setIfInBounds_toArray, List.set_cons_succ, List.set_cons_zero] at hK
              generalize vs 31 = vq31 at hK dq31 ⊢
              subst vq31
              go_wp2
              exact hK _ _ rfl (Mod.refl _ _)
            refine opsOkA_cons ?_ ?_
            · intro K vs W hR hD hK
              have dq32 : vs 32 = .bool false := hD 32 (by decide)
              clear hD
              try dsimp only at hK ⊢
              simp only [Act.put, List.setIfInBounds_toArray, List.set_cons_succ, List.set_cons_zero] at hK
              generalize vs 32 = vq32 at hK dq32 ⊢
              subst vq32
              go_wp2
              exact hK _ _ rfl (Mod.refl _ _)
            refine opsOkA_cons ?_ ?_
            · intro K vs W hR hD hK
              have dq32 : vs 32 = .bool false := hD 32 (by decide)
              have dq33 : vs 33 = .slice ah 1 ch := hD 33 (by decide)
              clear hD
              try dsimp only at hK ⊢
              simp only [Act.put, List.setIfInBounds_toArray, List.set_cons_succ, List.set_cons_zero] at hK
              generalize vs 32 = vq32 at hK dq32 ⊢
              subst vq32
              generalize vs 33 = vq33 at hK dq33 ⊢
              subst vq33
              have hix := HIX.out
              go_wp2_with fail
              exact hK _ _ rfl (Mod.refl _ _)
            refine opsOkA_cons ?_ ?_
            · intro K vs W hR hD hK
              have dq32 : vs 32 = .bool false := hD 32 (by decide)
              have dq34 : vs 34 = .pointer (some ⟨fb, fo, none⟩) := hD 34 (by decide)
              clear hD
              try dsimp only at hK ⊢
              simp only [Act.put, List.setIfInBounds_toArray, List.set_cons_succ, List.set_cons_zero] at hK
              generalize vs 32 = vq32 at hK dq32 ⊢
              subst vq32
              generalize vs 34 = vq34 at hK dq34 ⊢
              subst vq34
              go_wp2
              exact hK _ _ rfl (Mod.refl _ _)
            refine opsOkA_cons ?_ ?_
            · intro K vs W hR hD hK
              have dq32 : vs 32 = .bool false := hD 32 (by decide)
              have dq35 : vs 35 = .pointer (some ⟨fb, fo + 1, none⟩) := hD 35 (by decide)
              clear hD
              try dsimp only at hK ⊢
              simp only [Act.put, List.setIfInBounds_toArray, List.set_cons_succ, List.set_cons_zero] at hK
              generalize vs 32 = vq32 at hK dq32 ⊢
              subst vq32
              generalize vs 35 = vq35 at hK dq35 ⊢
              subst vq35
              have hc := (HSd.out.at (hR)).2.2.2.1
              go_wp2
              exact hK _ _ rfl (Mod.refl _ _)
            refine opsOkA_cons ?_ ?_
            · intro K vs W hR hD hK
              have dq32 : vs 32 = .bool false := hD 32 (by decide)
              have dq36 : vs 36 = .int .i64 1 := hD 36 (by decide)
              clear hD
              try dsimp only at hK ⊢
              simp only [Act.put, List.setIfInBounds_toArray, List.set_cons_succ, List.set_cons_zero] at hK
              generalize vs 32 = vq32 at hK dq32 ⊢
              subst vq32
              generalize vs 36 = vq36 at hK dq36 ⊢
              subst vq36
              go_wp2
              exact hK _ _ rfl (Mod.refl _ _)
            refine opsOkA_cons ?_ ?_
            · intro K vs W hR hD hK
              have dq32 : vs 32 = .bool false := hD 32 (by decide)
              have dq37 : vs 37 = .bool false := hD 37 (by decide)
              clear hD
              try dsimp only at hK ⊢
              simp only [Act.put, List.setIfInBounds_toArray, List.set_cons_succ, List.set_cons_zero] at hK
              generalize vs 32 = vq32 at hK dq32 ⊢
              subst vq32
              generalize vs 37 = vq37 at hK dq37 ⊢
              subst vq37
              go_wp2
              exact hK _ _ rfl (Mod.refl _ _)
            refine opsOkA_cons ?_ ?_
            · intro K vs W hR hD hK
              have dq38 : vs 38 = .bool false := hD 38 (by decide)
              clear hD
              try dsimp only at hK ⊢
              simp only [Act.put, List.setIfInBounds_toArray, List.set_cons_succ, List.set_cons_zero] at hK
              generalize vs 38 = vq38 at hK dq38 ⊢
              subst vq38
              go_wp2
              exact hK _ _ rfl (Mod.refl _ _)
            refine opsOkA_cons ?_ ?_
            · intro K vs W hR hD hK
              have dq39 : vs 39 = .bool false := hD 39 (by decide)
              clear hD
              try dsimp only at hK ⊢
              simp only [Act.put, List.setIfInBounds_toArray, List.set_cons_succ, List.set_cons_zero] at hK
              generalize vs 39 = vq39 at hK dq39 ⊢
              subst vq39
              go_wp2
              exact hK _ _ rfl (Mod.refl _ _)
            refine opsOkA_cons ?_ ?_
            · intro K vs W hR hD hK
              have dq39 : vs 39 = .bool false := hD 39 (by decide)
              have dq40 : vs 40 = .slice ah 1 ch := hD 40 (by decide)
              clear hD
              try dsimp only at hK ⊢
              simp only [Act.put, List.setIfInBounds_toArray, List.set_cons_succ, List.set_cons_zero] at hK
              generalize vs 39 = vq39 at hK dq39 ⊢
              subst vq39
              generalize vs 40 = vq40 at hK dq40 ⊢
              subst vq40
              have hix := HIX.out
              go_wp2_with fail
              exact hK _ _ rfl (Mod.refl _ _)
            refine opsOkA_cons ?_ ?_
            · intro K vs W hR hD hK
              have dq39 : vs 39 = .bool false := hD 39 (by decide)
              have dq41 : vs 41 = .pointer (some ⟨fb, fo, none⟩) := hD 41 (by decide)
              clear hD
              try dsimp only at hK ⊢
              simp only [Act.put, List.setIfInBounds_toArray, List.set_cons_succ, List.set_cons_zero] at hK
              generalize vs 39 = vq39 at hK dq39 ⊢
              subst vq39
              generalize vs 41 = vq41 at hK dq41 ⊢
              subst vq41
              go_wp2
              exact hK _ _ rfl (Mod.refl _ _)
            refine opsOkA_cons ?_ ?_
            · intro K vs W hR hD hK
              have dq39 : vs 39 = .bool false := hD 39 (by decide)
              have dq42 : vs 42 = .pointer (some ⟨fb, fo, none⟩) := hD 42 (by decide)
              clear hD
              try dsimp only at hK ⊢
              simp only [Act.put, List.setIfInBounds_toArray, List.set_cons_succ, List.set_cons_zero] at hK
              generalize vs 39 = vq39 at hK dq39 ⊢
              subst vq39
              generalize vs 42 = vq42 at hK dq42 ⊢
              subst vq42
              have hc := (HSd.out.at (hR)).2.2.2.2.1
              go_wp2
              exact hK _ _ rfl (Mod.refl _ _)
            refine opsOkA_cons ?_ ?_
            · intro K vs W hR hD hK
              have dq39 : vs 39 = .bool false := hD 39 (by decide)
              have dq43 : vs 43 = .int .i64 9 := hD 43 (by decide)
              clear hD
              try dsimp only at hK ⊢
              simp only [Act.put, List.setIfInBounds_toArray, List.set_cons_succ, List.set_cons_zero] at hK
              generalize vs 39 = vq39 at hK dq39 ⊢
              subst vq39
              generalize vs 43 = vq43 at hK dq43 ⊢
              subst vq43
              go_wp2
              exact hK _ _ rfl (Mod.refl _ _)
            refine opsOkA_cons ?_ ?_
            · intro K vs W hR hD hK
              have dq39 : vs 39 = .bool false := hD 39 (by decide)
              have dq44 : vs 44 = .bool false := hD 44 (by decide)
              clear hD
              try dsimp only at hK ⊢
              simp only [Act.put, List.setIfInBounds_toArray, List.set_cons_succ, List.set_cons_zero] at hK
              generalize vs 39 = vq39 at hK dq39 ⊢
              subst vq39
              generalize vs 44 = vq44 at hK dq44 ⊢
              subst vq44
              go_wp2
              exact hK _ _ rfl (Mod.refl _ _)
            exact opsOkA_nil
          · intro vs wq1 hR hF
            have dq45 : vs 45 = .bool false := hF 45 (by decide)
            clear hF
            try dsimp only
            generalize vs 45 = vq45 at dq45 ⊢
            subst dq45
            replace HS := Lib.hid (HSd.out.step hR)
            clear HSd hR
            have HC7 := Lib.hid (HC6.out.later (HS.out.now).2.2.2.2.2.2.2)
            go_wp2_with fail
            go_roundw
            case rel => exact ⟨a + 1, k + 1, _, _, by go_num, by go_num, by omega, by omega, by simp, HF2.out, HC7.out⟩
            case measure => simp [intOf]; omega
        · skip
          have y2 : decide ((a : Int) < (gt : Int)) = false := by simp; omega
          have y2n : decide (a < gt) = false := by simp; omega
          have hpa := c1_pass HC4.out rfl (trX_b (by rw [HN.out]; omega) (by omega)) trX_ids D (by omega) (trX_over (Int.le_refl _) hk)
          rw [trX_D (Int.le_refl _) hk, trX_S (Int.le_refl _) hk hB1, trX_payC, trX_payD, HDS.out] at hpa
          have HPA := Lib.hid hpa
          clear hpa
          go_wp2_with fail
          refine HPA.out.mono ?_
          rintro e w6 ⟨v6, rfl, hv6, hc6, _⟩
          obtain ⟨ah, ch, gh, rfl, hol6⟩ := hv6.form 1 rfl
          have HOL6 := Lib.hid hol6
          have HC6 := Lib.hid hc6
          clear hv6 hol6 hc6 HPA
          obtain ⟨fb, fo, fv, hpl, hsn, _, hnc, f0, f1, f2, f3, f4, f5, hbt⟩ := HOL6.out.elem 0 _ rfl
          have hix := fun wx => run_indexS (P := Try.prog) wx 36 40 iG 6 Try.underlying36 hiG hsG ah 1 ch 0 (by omega) hsn
          rw [hpl] at hix
          replace hix : ∀ wx, (Instr.indexAt 36 (.slice ah 1 ch) (.int .i64 0)).run Try.prog wx = .ok (.pointer (some ⟨fb, fo, none⟩)) wx := hix
          obtain ⟨ua, un, uc, rfl, hun, hbo⟩ := hbt
          obtain rfl : m = un := by rw [← hun]; exact HN.out.symm
          have hrd := Rd.ofOwn hbo
          have HIX := Lib.hid hix
          clear hbo hix hpl hsn hnc f4 hun
          have HS : Hid (Ev (Mod (fun _ => False) w6) w6) := Lib.hid (Ev.mod w6)
          replace HS := Lib.hid ((Ev.rd hrd).and HS.out)
          replace HS := Lib.hid ((Ev.rd (HRD.out.keep (HC6.out.mod) (fun _ _ e => e))).and HS.out)
          replace HS := Lib.hid ((Ev.cell f0).and HS.out)
          replace HS := Lib.hid ((Ev.cell f1).and HS.out)
          replace HS := Lib.hid ((Ev.cell f2).and HS.out)
          replace HS := Lib.hid ((Ev.cell f3).and HS.out)
          replace HS := Lib.hid ((Ev.cell f5).and HS.out)
          clear f0 f1 f2 f3 f5 hrd
          obtain ⟨Y, hY⟩ : ∃ x, strOf l = x := ⟨_, rfl⟩
          have HY := Lib.hid hY
          clear hY
          go_upto_region 19 with fail
          have HSd := Lib.hid HS.out.drew
          refine wp_region_inv3 (act := ?actct2_r19_0) (Mod (fun _ => False)) (fun i => (ct2_r19_0_F fb fo uc m c0 a ch ua a0 ah Y).getD i (fun _ _ => True)) (fun i => ct2_r19_0_D.getD i []) (by kernel_rfl) (by kernel_rfl) (by kernel_rfl) (by kernel_rfl) (fun _ => Mod.refl _ _)
            (fun _ _ _ h k => h.trans k (fun _ _ e => e) (fun _ _ e => e)) ?hactct2_r19_0 (stable_list ?_) ?_ ?_
          case hactct2_r19_0 => intro vs; simp only [putAll, Nat.zero_add, Nat.reduceAdd, Act.put, List.setIfInBounds_toArray, List.set_cons_succ, List.set_cons_zero]; exact rfl
          · unfold ct2_r19_0_F
            exact stable_cons (stable_val _) <| stable_cons (stable_val _) <| stable_cons (stable_val _) <| stable_cons (stable_val _) <| stable_cons (stable_val _) <| stable_cons (stable_val _) <| stable_cons (stable_val _) <| stable_cons (stable_val _) <| stable_cons (stable_val _) <| stable_cons (stable_val _) <| stable_cons (stable_val _) <| stable_cons (stable_val _) <| stable_cons (stable_val _) <| stable_cons (stable_val _) <| stable_cons (stable_val _) <| stable_cons (stable_val _) <| stable_cons (stable_val _) <| stable_cons (stable_val _) <| stable_cons (stable_val _) <| stable_cons (stable_val _) <| stable_cons (stable_val _) <| stable_cons (stable_val _) <| stable_cons (stable_val _) <| stable_cons (stable_val _) <| stable_cons (stable_val _) <| stable_cons (stable_val _) <| stable_cons (stable_val _) <| stable_cons (stable_val _) <| stable_cons (stable_val _) <| stable_cons (stable_val _) <| stable_cons (stable_val _) <| stable_cons (stable_val _) <| stable_cons (stable_val _) <| stable_cons (stable_val _) <| stable_cons (stable_val _) <| stable_cons (stable_val _) <| stable_cons (stable_val _) <| stable_cons (stable_val _) <| stable_cons (stable_val _) <| stable_cons (stable_val _) <| stable_cons (stable_val _) <| stable_cons (stable_val _) <| stable_cons (stable_val _) <| stable_cons (stable_val _) <| stable_cons (stable_val _) <| stable_cons (stable_val _) <| stable_nil
          · refine opsOkA_cons ?_ ?_
            · intro K vs W hR hD hK
              clear hD
              try dsimp only at hK ⊢
              simp only [Act.put, List.setIfInBounds_toArray, List.set_cons_succ, List.set_cons_zero] at hK
              go_wp2
              exact hK _ _ rfl (Mod.refl _ _)
            refine opsOkA_cons ?_ ?_
            · intro K vs W hR hD hK
              have dq0 : vs 0 = .int .i64 0 := hD 0 (by decide)
              clear hD
              try dsimp only at hK ⊢
              simp only [Act.put, List.setIfInBounds_toArray, List.set_cons_succ, List.set_cons_zero] at hK
              generalize vs 0 = vq0 at hK dq0 ⊢
              subst vq0
              go_wp2
              exact hK _ _ rfl (Mod.refl _ _)
            refine opsOkA_cons ?_ ?_
            · intro K vs W hR hD hK
              have dq1 : vs 1 = .bool false := hD 1 (by decide)
              clear hD
              try dsimp only at hK ⊢
              simp only [Act.put, List.setIfInBounds_toArray, List.set_cons_succ, List.set_cons_zero] at hK
              generalize vs 1 = vq1 at hK dq1 ⊢
              subst vq1
              go_wp2
              exact hK _ _ rfl (Mod.refl _ _)
            refine opsOkA_cons ?_ ?_
            · intro K vs W hR hD hK
              have dq2 : vs 2 = .bool false := hD 2 (by decide)
              clear hD
              try dsimp only at hK ⊢
              simp only [Act.put, List.setIfInBounds_toArray, List.set_cons_succ, List.set_cons_zero] at hK
              generalize vs 2 = vq2 at hK dq2 ⊢
              subst vq2
              go_wp2
              exact hK _ _ rfl (Mod.refl _ _)
            refine opsOkA_cons ?_ ?_
            · intro K vs W hR hD hK
              have dq2 : vs 2 = .bool false := hD 2 (by decide)
              have dq3 : vs 3 = .slice ah 1 ch := hD 3 (by decide)
              clear hD
              try dsimp only at hK ⊢
              simp only [Act.put, List.setIfInBounds_toArray, List.set_cons_succ, List.set_cons_zero] at hK
              generalize vs 2 = vq2 at hK dq2 ⊢
              subst vq2
              generalize vs 3 = vq3 at hK dq3 ⊢
              subst vq3
              go_wp2_with fail
              exact hK _ _ rfl (Mod.refl _ _)
            refine opsOkA_cons ?_ ?_
            · intro K vs W hR hD hK
              have dq2 : vs 2 = .bool false := hD 2 (by decide)
              have dq4 : vs 4 = .int .i64 (1 : Int) := hD 4 (by decide)
              clear hD
              try dsimp only at hK ⊢
              simp only [Act.put, List.setIfInBounds_toArray, List.set_cons_succ, List.set_cons_zero] at hK
              generalize vs 2 = vq2 at hK dq2 ⊢
              subst vq2
              generalize vs 4 = vq4 at hK dq4 ⊢
              subst vq4
              go_wp2
              exact hK _ _ rfl (Mod.refl _ _)
            refine opsOkA_cons ?_ ?_
            · intro K vs W hR hD hK
              have dq2 : vs 2 = .bool false := hD 2 (by decide)
              have dq5 : vs 5 = .bool ((1 : Int) != 1) := hD 5 (by decide)
              clear hD
              try dsimp only at hK ⊢
              simp only [Act.put, List.setIfInBounds_toArray, List.set_cons_succ, List.set_cons_zero] at hK
              generalize vs 2 = vq2 at hK dq2 ⊢
              subst vq2
              generalize vs 5 = vq5 at hK dq5 ⊢
              subst vq5
              go_wp2
              exact hK _ _ rfl (Mod.refl _ _)
            refine opsOkA_cons ?_ ?_
            · intro K vs W hR hD hK
              have dq6 : vs 6 = .bool ((1 : Int) != 1) := hD 6 (by decide)
              clear hD
              try dsimp only at hK ⊢
              simp only [Act.put, List.setIfInBounds_toArray, List.set_cons_succ, List.set_cons_zero] at hK
              generalize vs 6 = vq6 at hK dq6 ⊢
              subst vq6
              go_wp2
              exact hK _ _ rfl (Mod.refl _ _)
            refine opsOkA_cons ?_ ?_
            · intro K vs W hR hD hK
              have dq7 : vs 7 = .bool ((1 : Int) != 1) := hD 7 (by decide)
              clear hD
              try dsimp only at hK ⊢
              simp only [Act.put, List.setIfInBounds_toArray, List.set_cons_succ, List.set_cons_zero] at hK
              generalize vs 7 = vq7 at hK dq7 ⊢
              subst vq7
              go_wp2
              exact hK _ _ rfl (Mod.refl _ _)
            refine opsOkA_cons ?_ ?_
            · intro K vs W hR hD hK
              have dq7 : vs 7 = .bool ((1 : Int) != 1) := hD 7 (by decide)
              have dq8 : vs 8 = .slice ah 1 ch := hD 8 (by decide)
              clear hD
              try dsimp only at hK ⊢
              simp only [Act.put, List.setIfInBounds_toArray, List.set_cons_succ, List.set_cons_zero] at hK
              generalize vs 7 = vq7 at hK dq7 ⊢
              subst vq7
              generalize vs 8 = vq8 at hK dq8 ⊢
              subst vq8
              have hix := HIX.out
              go_wp2_with fail
              exact hK _ _ rfl (Mod.refl _ _)
            refine opsOkA_cons ?_ ?_
            · intro K vs W hR hD hK
              have dq7 : vs 7 = .bool ((1 : Int) != 1) := hD 7 (by decide)
              have dq9 : vs 9 = .pointer (some ⟨fb, fo, none⟩) := hD 9 (by decide)
              clear hD
              try dsimp only at hK ⊢
              simp only [Act.put, List.setIfInBounds_toArray, List.set_cons_succ, List.set_cons_zero] at hK
              generalize vs 7 = vq7 at hK dq7 ⊢
              subst vq7
              generalize vs 9 = vq9 at hK dq9 ⊢
              subst vq9
              go_wp2
              exact hK _ _ rfl (Mod.refl _ _)
            refine opsOkA_cons ?_ ?_
            · intro K vs W hR hD hK
              have dq7 : vs 7 = .bool ((1 : Int) != 1) := hD 7 (by decide)
              have dq10 : vs 10 = .pointer (some ⟨fb, fo + 2, none⟩) := hD 10 (by decide)
              clear hD
              try dsimp only at hK ⊢
              simp only [Act.put, List.setIfInBounds_toArray, List.set_cons_succ, List.set_cons_zero] at hK
              generalize vs 7 = vq7 at hK dq7 ⊢
              subst vq7
              generalize vs 10 = vq10 at hK dq10 ⊢
              subst vq10
              have hc := (HSd.out.at (hR)).2.2.1
              go_wp2
              exact hK _ _ rfl (Mod.refl _ _)
            refine opsOkA_cons ?_ ?_
            · intro K vs W hR hD hK
              have dq7 : vs 7 = .bool ((1 : Int) != 1) := hD 7 (by decide)
              have dq11 : vs 11 = .int .i64 0 := hD 11 (by decide)
              clear hD
              try dsimp only at hK ⊢
              simp only [Act.put, List.setIfInBounds_toArray, List.set_cons_succ, List.set_cons_zero] at hK
              generalize vs 7 = vq7 at hK dq7 ⊢
              subst vq7
              generalize vs 11 = vq11 at hK dq11 ⊢
              subst vq11
              go_wp2
              exact hK _ _ rfl (Mod.refl _ _)
            refine opsOkA_cons ?_ ?_
            · intro K vs W hR hD hK
              have dq7 : vs 7 = .bool ((1 : Int) != 1) := hD 7 (by decide)
              have dq12 : vs 12 = .bool false := hD 12 (by decide)
              clear hD
              try dsimp only at hK ⊢
              simp only [Act.put, List.setIfInBounds_toArray, List.set_cons_succ, List.set_cons_zero] at hK
              generalize vs 7 = vq7 at hK dq7 ⊢
              subst vq7
              generalize vs 12 = vq12 at hK dq12 ⊢
              subst vq12
              go_wp2
              exact hK _ _ rfl (Mod.refl _ _)
            refine opsOkA_cons ?_ ?_
            · intro K vs W hR hD hK
              have dq13 : vs 13 = .bool false := hD 13 (by decide)
              clear hD
              try dsimp only at hK ⊢
              simp only [Act.put, List.setIfInBounds_toArray, List.set_cons_succ, List.set_cons_zero] at hK
              generalize vs 13 = vq13 at hK dq13 ⊢
              subst vq13
              go_wp2
              exact hK _ _ rfl (Mod.refl _ _)
            refine opsOkA_cons ?_ ?_
            · intro K vs W hR hD hK
              have dq14 : vs 14 = .bool false := hD 14 (by decide)
              clear hD
              try dsimp only at hK ⊢
              simp only [Act.put, List.setIfInBounds_toArray, List.set_cons_succ, List.set_cons_zero] at hK
              generalize vs 14 = vq14 at hK dq14 ⊢
              subst vq14
              go_wp2
              exact hK _ _ rfl (Mod.refl _ _)
            refine opsOkA_cons ?_ ?_
            · intro K vs W hR hD hK
              have dq14 : vs 14 = .bool false := hD 14 (by decide)
              have dq15 : vs 15 = .slice ah 1 ch := hD 15 (by decide)
              clear hD
              try dsimp only at hK ⊢
              simp only [Act.put, List.setIfInBounds_toArray, List.set_cons_succ, List.set_cons_zero] at hK
              generalize vs 14 = vq14 at hK dq14 ⊢
              subst vq14
              generalize vs 15 = vq15 at hK dq15 ⊢
              subst vq15
              have hix := HIX.out
              go_wp2_with fail
              exact hK _ _ rfl (Mod.refl _ _)
            refine opsOkA_cons ?_ ?_
            · intro K vs W hR hD hK
              have dq14 : vs 14 = .bool false := hD 14 (by decide)
              have dq16 : vs 16 = .pointer (some ⟨fb, fo, none⟩) := hD 16 (by decide)
              clear hD
              try dsimp only at hK ⊢
              simp only [Act.put, List.setIfInBounds_toArray, List.set_cons_succ, List.set_cons_zero] at hK
              generalize vs 14 = vq14 at hK dq14 ⊢
              subst vq14
              generalize vs 16 = vq16 at hK dq16 ⊢
              subst vq16
              go_wp2
              exact hK _ _ rfl (Mod.refl _ _)
            refine opsOkA_cons ?_ ?_
            · intro K vs W hR hD hK
              have dq14 : vs 14 = .bool false := hD 14 (by decide)
              have dq17 : vs 17 = .pointer (some ⟨fb, fo + 3, none⟩) := hD 17 (by decide)
              clear hD
              try dsimp only at hK ⊢
              simp only [Act.put, List.setIfInBounds_toArray, List.set_cons_succ, List.set_cons_zero] at hK
              generalize vs 14 = vq14 at hK dq14 ⊢
              subst vq14
              generalize vs 17 = vq17 at hK dq17 ⊢
              subst vq17
              have hc := (HSd.out.at (hR)).2.1
              go_wp2
              exact hK _ _ rfl (Mod.refl _ _)
            refine opsOkA_cons ?_ ?_
            · intro K vs W hR hD hK
              have dq14 : vs 14 = .bool false := hD 14 (by decide)
              clear hD
              try dsimp only at hK ⊢
              simp only [Act.put, List.setIfInBounds_toArray, List.set_cons_succ, List.set_cons_zero] at hK
              generalize vs 14 = vq14 at hK dq14 ⊢
              subst vq14
              go_wp2
              exact hK _ _ rfl (Mod.refl _ _)
            refine opsOkA_cons ?_ ?_
            · intro K vs W hR hD hK
              have dq14 : vs 14 = .bool false := hD 14 (by decide)
              have dq18 : vs 18 = .int .i64 (a : Int) := hD 18 (by decide)
              have dq19 : vs 19 = .int .i64 (a : Int) := hD 19 (by decide)
              clear hD
              try dsimp only at hK ⊢
              simp only [Act.put, List.setIfInBounds_toArray, List.set_cons_succ, List.set_cons_zero] at hK
              generalize vs 14 = vq14 at hK dq14 ⊢
              subst vq14
              generalize vs 18 = vq18 at hK dq18 ⊢
              subst vq18
              generalize vs 19 = vq19 at hK dq19 ⊢
              subst vq19
              go_wp2
              exact hK _ _ rfl (Mod.refl _ _)
            refine opsOkA_cons ?_ ?_
            · intro K vs W hR hD hK
              have dq14 : vs 14 = .bool false := hD 14 (by decide)
              have dq20 : vs 20 = .bool false := hD 20 (by decide)
              clear hD
              try dsimp only at hK ⊢
              simp only [Act.put, List.setIfInBounds_toArray, List.set_cons_succ, List.set_cons_zero] at hK
              generalize vs 14 = vq14 at hK dq14 ⊢
              subst vq14
              generalize vs 20 = vq20 at hK dq20 ⊢
              subst vq20
              go_wp2
              exact hK _ _ rfl (Mod.refl _ _)
            refine opsOkA_cons ?_ ?_
            · intro K vs W hR hD hK
              have dq21 : vs 21 = .bool false := hD 21 (by decide)
              clear hD
              try dsimp only at hK ⊢
              simp only [Act.put, List.setIfInBounds_toArray, List.set_cons_succ, List.set_cons_zero] at hK
              generalize vs 21 = vq21 at hK dq21 ⊢
              subst vq21
              go_wp2
              exact hK _ _ rfl (Mod.refl _ _)
            refine opsOkA_cons ?_ ?_
            · intro K vs W hR hD hK
              have dq22 : vs 22 = .bool false := hD 22 (by decide)
              clear hD
              try dsimp only at hK ⊢
              simp only [Act.put, List.setIfInBounds_toArray, List.set_cons_succ, List.set_cons_zero] at hK
              generalize vs 22 = vq22 at hK dq22 ⊢
              subst vq22
              go_wp2
              exact hK _ _ rfl (Mod.refl _ _)
            refine opsOkA_cons ?_ ?_
            · intro K vs W hR hD hK
              have dq22 : vs 22 = .bool false := hD 22 (by decide)
              have dq23 : vs 23 = .slice ah 1 ch := hD 23 (by decide)
              clear hD
              try dsimp only at hK ⊢
              simp only [Act.put, List.setIfInBounds_toArray, List.set_cons_succ, List.set_cons_zero] at hK
              generalize vs 22 = vq22 at hK dq22 ⊢
              subst vq22
              generalize vs 23 = vq23 at hK dq23 ⊢
              subst vq23
              have hix := HIX.out
              go_wp2_with fail
              exact hK _ _ rfl (Mod.refl _ _)
            refine opsOkA_cons ?_ ?_
            · intro K vs W hR hD hK
              have dq22 : vs 22 = .bool false := hD 22 (by decide)
              have dq24 : vs 24 = .pointer (some ⟨fb, fo, none⟩) := hD 24 (by decide)
              clear hD
              try dsimp only at hK ⊢
              simp only [Act.put, List.setIfInBounds_toArray, List.set_cons_succ, List.set_cons_zero] at hK
              generalize vs 22 = vq22 at hK dq22 ⊢
              subst vq22
              generalize vs 24 = vq24 at hK dq24 ⊢
              subst vq24
              go_wp2
              exact hK _ _ rfl (Mod.refl _ _)
            refine opsOkA_cons ?_ ?_
            · intro K vs W hR hD hK
              have dq22 : vs 22 = .bool false := hD 22 (by decide)
              have dq25 : vs 25 = .pointer (some ⟨fb, fo + 5, none⟩) := hD 25 (by decide)
              clear hD
              try dsimp only at hK ⊢
              simp only [Act.put, List.setIfInBounds_toArray, List.set_cons_succ, List.set_cons_zero] at hK
              generalize vs 22 = vq22 at hK dq22 ⊢
              subst vq22
              generalize vs 25 = vq25 at hK dq25 ⊢
              subst vq25
              have hc := (HSd.out.at (hR)).1
              go_wp2
              exact hK _ _ rfl (Mod.refl _ _)
            refine opsOkA_cons ?_ ?_
            · intro K vs W hR hD hK
              have dq22 : vs 22 = .bool false := hD 22 (by decide)
              have dq26 : vs 26 = .slice ua m uc := hD 26 (by decide)
              clear hD
              try dsimp only at hK ⊢
              simp only [Act.put, List.setIfInBounds_toArray, List.set_cons_succ, List.set_cons_zero] at hK
              generalize vs 22 = vq22 at hK dq22 ⊢
              subst vq22
              generalize vs 26 = vq26 at hK dq26 ⊢
              subst vq26
              have k1 := run_strS W 38 9 5 Try.underlying38 Try.underlying5 Try.underlying9 ((HSd.out.at (hR)).2.2.2.2.2.2.1)
              rw [HY.out] at k1
              go_wp2
              exact hK _ _ rfl (Mod.refl _ _)
            refine opsOkA_cons ?_ ?_
            · intro K vs W hR hD hK
              have dq22 : vs 22 = .bool false := hD 22 (by decide)
              clear hD
              try dsimp only at hK ⊢
              simp only [Act.put, List.setIfInBounds_toArray, List.set_cons_succ, List.set_cons_zero] at hK
              generalize vs 22 = vq22 at hK dq22 ⊢
              subst vq22
              go_wp2
              exact hK _ _ rfl (Mod.refl _ _)
            refine opsOkA_cons ?_ ?_
            · intro K vs W hR hD hK
              have dq22 : vs 22 = .bool false := hD 22 (by decide)
              have dq28 : vs 28 = .slice a0 m c0 := hD 28 (by decide)
              clear hD
              try dsimp only at hK ⊢
              simp only [Act.put, List.setIfInBounds_toArray, List.set_cons_succ, List.set_cons_zero] at hK
              generalize vs 22 = vq22 at hK dq22 ⊢
              subst vq22
              generalize vs 28 = vq28 at hK dq28 ⊢
              subst vq28
              have k1 := run_strS W 38 9 5 Try.underlying38 Try.underlying5 Try.underlying9 ((HSd.out.at (hR)).2.2.2.2.2.1)
              rw [HY.out] at k1
              go_wp2
              exact hK _ _ rfl (Mod.refl _ _)
            refine opsOkA_cons ?_ ?_
            · intro K vs W hR hD hK
              have dq22 : vs 22 = .bool false := hD 22 (by decide)
              have dq27 : vs 27 = .string Y := hD 27 (by decide)
              have dq29 : vs 29 = .string Y := hD 29 (by decide)
              clear hD
              try dsimp only at hK ⊢
              simp only [Act.put, List.setIfInBounds_toArray, List.set_cons_succ, List.set_cons_zero] at hK
              generalize vs 22 = vq22 at hK dq22 ⊢
              subst vq22
              generalize vs 27 = vq27 at hK dq27 ⊢
              subst vq27
              generalize vs 29 = vq29 at hK dq29 ⊢
              subst vq29
              go_wp2
              exact hK _ _ rfl (Mod.refl _ _)
            refine opsOkA_cons ?_ ?_
            · intro K vs W hR hD hK
              have dq22 : vs 22 = .bool false := hD 22 (by decide)
              have dq30 : vs 30 = .bool false := hD 30 (by decide)
              clear hD
              try dsimp only at hK ⊢
              simp only [Act.put, List.setIfInBounds_toArray, List.set_cons_succ, List.set_cons_zero] at hK
              generalize vs 22 = vq22 at hK dq22 ⊢
              subst vq22
              generalize vs 30 = vq30 at hK dq30 ⊢
              subst vq30
              go_wp2
              exact hK _ _ rfl (Mod.refl _ _)
            refine opsOkA_cons ?_ ?_
            · intro K vs W hR hD hK
              have dq31 : vs 31 = .bool false := hD 31 (by decide)
              clear hD
              try dsimp only at hK ⊢
              simp only [Act.put, List.setIfInBounds_toArray, List.set_cons_succ, List.set_cons_zero] at hK
              generalize vs 31 = vq31 at hK dq31 ⊢
              subst vq31
              go_wp2
              exact hK _ _ rfl (Mod.refl _ _)
            refine opsOkA_cons ?_ ?_
            · intro K vs W hR hD hK
              have dq32 : vs 32 = .bool false := hD 32 (by decide)
              clear hD
              try dsimp only at hK ⊢
              simp only [Act.put, List.setIfInBounds_toArray, List.set_cons_succ, List.set_cons_zero] at hK
              generalize vs 32 = vq32 at hK dq32 ⊢
              subst vq32
              go_wp2
              exact hK _ _ rfl (Mod.refl _ _)
            refine opsOkA_cons ?_ ?_
            · intro K vs W hR hD hK
              have dq32 : vs 32 = .bool false := hD 32 (by decide)
              have dq33 : vs 33 = .slice ah 1 ch := hD 33 (by decide)
              clear hD
              try dsimp only at hK ⊢
              simp only [Act.put, List.setIfInBounds_toArray, List.set_cons_succ, List.set_cons_zero] at hK
              generalize vs 32 = vq32 at hK dq32 ⊢
              subst vq32
              generalize vs 33 = vq33 at hK dq33 ⊢
              subst vq33
              have hix := HIX.out
              go_wp2_with fail
              exact hK _ _ rfl (Mod.refl _ _)
            refine opsOkA_cons ?_ ?_
            · intro K vs W hR hD hK
              have dq32 : vs 32 = .bool false := hD 32 (by decide)
              have dq34 : vs 34 = .pointer (some ⟨fb, fo, none⟩) := hD 34 (by decide)
              clear hD
              try dsimp only at hK ⊢
              simp only [Act.put, List.setIfInBounds_toArray, List.set_cons_succ, List.set_cons_zero] at hK
              generalize vs 32 = vq32 at hK dq32 ⊢
              subst vq32
              generalize vs 34 = vq34 at hK dq34 ⊢
              subst vq34
              go_wp2
              exact hK _ _ rfl (Mod.refl _ _)
            refine opsOkA_cons ?_ ?_
            · intro K vs W hR hD hK
              have dq32 : vs 32 = .bool false := hD 32 (by decide)
              have dq35 : vs 35 = .pointer (some ⟨fb, fo + 1, none⟩) := hD 35 (by decide)
              clear hD
              try dsimp only at hK ⊢
              simp only [Act.put, List.setIfInBounds_toArray, List.set_cons_succ, List.set_cons_zero] at hK
              generalize vs 32 = vq32 at hK dq32 ⊢
              subst vq32
              generalize vs 35 = vq35 at hK dq35 ⊢
              subst vq35
              have hc := (HSd.out.at (hR)).2.2.2.1
              go_wp2
              exact hK _ _ rfl (Mod.refl _ _)
            refine opsOkA_cons ?_ ?_
            · intro K vs W hR hD hK
              have dq32 : vs 32 = .bool false := hD 32 (by decide)
              have dq36 : vs 36 = .int .i64 1 := hD 36 (by decide)
              clear hD
              try dsimp only at hK ⊢
              simp only [Act.put, List.setIfInBounds_toArray, List.set_cons_succ, List.set_cons_zero] at hK
              generalize vs 32 = vq32 at hK dq32 ⊢
              subst vq32
              generalize vs 36 = vq36 at hK dq36 ⊢
              subst vq36
              go_wp2
              exact hK _ _ rfl (Mod.refl _ _)
            refine opsOkA_cons ?_ ?_
            · intro K vs W hR hD hK
              have dq32 : vs 32 = .bool false := hD 32 (by decide)
              have dq37 : vs 37 = .bool false := hD 37 (by decide)
              clear hD
              try dsimp only at hK ⊢
              simp only [Act.put, List.setIfInBounds_toArray, List.set_cons_succ, List.set_cons_zero] at hK
              generalize vs 32 = vq32 at hK dq32 ⊢
              subst vq32
              generalize vs 37 = vq37 at hK dq37 ⊢
              subst vq37
              go_wp2
              exact hK _ _ rfl (Mod.refl _ _)
            refine opsOkA_cons ?_ ?_
            · intro K vs W hR hD hK
              have dq38 : vs 38 = .bool false := hD 38 (by decide)
              clear hD
              try dsimp only at hK ⊢
              simp only [Act.put, List.setIfInBounds_toArray, List.set_cons_succ, List.set_cons_zero] at hK
              generalize vs 38 = vq38 at hK dq38 ⊢
              subst vq38
              go_wp2
              exact hK _ _ rfl (Mod.refl _ _)
            refine opsOkA_cons ?_ ?_
            · intro K vs W hR hD hK
              have dq39 : vs 39 = .bool false := hD 39 (by decide)
              clear hD
              try dsimp only at hK ⊢
              simp only [Act.put, List.setIfInBounds_toArray, List.set_cons_succ, List.set_cons_zero] at hK
              generalize vs 39 = vq39 at hK dq39 ⊢
              subst vq39
              go_wp2
              exact hK _ _ rfl (Mod.refl _ _)
            refine opsOkA_cons ?_ ?_
            · intro K vs W hR hD hK
              have dq39 : vs 39 = .bool false := hD 39 (by decide)
              have dq40 : vs 40 = .slice ah 1 ch := hD 40 (by decide)
              clear hD
              try dsimp only at hK ⊢
              simp only [Act.put, List.setIfInBounds_toArray, List.set_cons_succ, List.set_cons_zero] at hK
              generalize vs 39 = vq39 at hK dq39 ⊢
              subst vq39
              generalize vs 40 = vq40 at hK dq40 ⊢
              subst vq40
              have hix := HIX.out
              go_wp2_with fail
              exact hK _ _ rfl (Mod.refl _ _)
            refine opsOkA_cons ?_ ?_
            · intro K vs W hR hD hK
              have dq39 : vs 39 = .bool false := hD 39 (by decide)
              have dq41 : vs 41 = .pointer (some ⟨fb, fo, none⟩) := hD 41 (by decide)
              clear hD
              try dsimp only at hK ⊢
              simp only [Act.put, List.setIfInBounds_toArray, List.set_cons_succ, List.set_cons_zero] at hK
              generalize vs 39 = vq39 at hK dq39 ⊢
              subst vq39
              generalize vs 41 = vq41 at hK dq41 ⊢
              subst vq41
              go_wp2
              exact hK _ _ rfl (Mod.refl _ _)
            refine opsOkA_cons ?_ ?_
            · intro K vs W hR hD hK
              have dq39 : vs 39 = .bool false := hD 39 (by decide)
              have dq42 : vs 42 = .pointer (some ⟨fb, fo, none⟩) := hD 42 (by decide)
              clear hD
              try dsimp only at hK ⊢
              simp only [Act.put, List.setIfInBounds_toArray, List.set_cons_succ, List.set_cons_zero] at hK
              generalize vs 39 = vq39 at hK dq39 ⊢
              subst vq39
              generalize vs 42 = vq42 at hK dq42 ⊢
              subst vq42
              have hc := (HSd.out.at (hR)).2.2.2.2.1
              go_wp2
              exact hK _ _ rfl (Mod.refl _ _)
            refine opsOkA_cons ?_ ?_
            · intro K vs W hR hD hK
              have dq39 : vs 39 = .bool false := hD 39 (by decide)
              have dq43 : vs 43 = .int .i64 9 := hD 43 (by decide)
              clear hD
              try dsimp only at hK ⊢
              simp only [Act.put, List.setIfInBounds_toArray, List.set_cons_succ, List.set_cons_zero] at hK
              generalize vs 39 = vq39 at hK dq39 ⊢
              subst vq39
              generalize vs 43 = vq43 at hK dq43 ⊢
              subst vq43
              go_wp2
              exact hK _ _ rfl (Mod.refl _ _)
            refine opsOkA_cons ?_ ?_
            · intro K vs W hR hD hK
              have dq39 : vs 39 = .bool false := hD 39 (by decide)
              have dq44 : vs 44 = .bool false := hD 44 (by decide)
              clear hD
              try dsimp only at hK ⊢
              simp only [Act.put, List.setIfInBounds_toArray, List.set_cons_succ, List.set_cons_zero] at hK
              generalize vs 39 = vq39 at hK dq39 ⊢
              subst vq39
              generalize vs 44 = vq44 at hK dq44 ⊢
              subst vq44
              go_wp2
              exact hK _ _ rfl (Mod.refl _ _)
            exact opsOkA_nil
          · intro vs wq1 hR hF
            have dq45 : vs 45 = .bool false := hF 45 (by decide)
            clear hF
            try dsimp only
            generalize vs 45 = vq45 at dq45 ⊢
            subst dq45
            replace HS := Lib.hid (HSd.out.step hR)
            clear HSd hR
            have HC7 := Lib.hid (HC6.out.later (HS.out.now).2.2.2.2.2.2.2)
            go_wp2_with fail
            go_roundw
            case rel => exact ⟨a, k + 1, _, _, by go_num, by go_num, by omega, by omega, by simp, HF.out, HC7.out⟩
            case measure => simp [intOf]; omega
theorem chtries_law (w : World) (bv : Int) (_ : (Lit.int .i64 bv).wf = true) (tv : Int) (_ : (Lit.int .i64 tv).wf = true) (a0 : Option Addr) (m c0 : Nat) (l : List Int) (ok : (encSlice (encInt .u8)).ok w (.slice a0 m c0, l)) (gv : Int) (_ : (Lit.int .i64 gv).wf = true) :
    Calls Try.prog 6 #[.int .i64 bv, .int .i64 tv, .slice a0 m c0, .int .i64 gv] w fun e w' => e = .returned (.bool true) ∧ Below w.heap.size w w' := by
  obtain ⟨hn, hr, _⟩ := ok_ints ok
  exact (chtries_all w bv tv a0 m c0 l gv hn hr).mono fun e w' h => ⟨h.1, h.2.below (Nat.le_refl _) (fun _ e => e.elim)⟩
end Go.Proofs.Ytdahoecejnnjkaa
