/- taker's at, Next, New by contract. -/
import Derived.Test.YtdahoecejnnjkaaTkP
import Derived.Test.YtdahoecejnnjkaaRegion2
import Derived.Deep.DeepCutAuto
import Derived.Deep.CutBlock
namespace Go.Proofs.Ytdahoecejnnjkaa
open Go.RowKit Mile
set_option maxRecDepth 100000
/-- What each operation of the statement leaves. -/
def ta_r1_0_F (p : Nat) (r : Nat) (Wd : Nat) (s : Nat) (q : Nat) : List (Value → World → Prop) :=
  [IsV (.pointer (some ⟨p, 0, none⟩)),
   IsV (.pointer (some ⟨p, 0, none⟩)),
   IsV (.pointer (some ⟨p, 1, none⟩)),
   IsV (.slice (some ⟨r, 0, none⟩) Wd Wd),
   IsV (.int .i64 (s : Int)),
   IsV (.pointer (some ⟨p, 0, none⟩)),
   IsV (.pointer (some ⟨p, 0, none⟩)),
   IsV (.pointer (some ⟨p, 1, none⟩)),
   IsV (.slice (some ⟨r, 0, none⟩) Wd Wd),
   IsV (.int .i64 (Wd : Int)),
   IsV (.int .i64 (q : Int)),
   IsV (.pointer (some ⟨r, q * 2, none⟩)),
   IsV (.pointer (some ⟨r, q * 2, none⟩))]
def ta_r1_0_D : List (List Nat) := [[], [0], [1], [2], [], [], [5], [6], [7], [8], [4, 9], [3, 10], [11]]

set_option maxHeartbeats 8000000 in
theorem tkat_any (w : World) (p r Wd N : Nat) (hW : 0 < Wd) (h : Blk w p 110 [.int .i64 (N : Int), .slice (some ⟨r, 0, none⟩) Wd Wd]) (s : Nat) :
    Calls Try.prog 54 #[.pointer (some ⟨p, 0, none⟩), .int .i64 (s : Int)] w fun e w' => e = .returned (.pointer (some ⟨r, s % Wd * 2, none⟩)) ∧ Mod (fun _ => False) w w' := by
  obtain ⟨iP, hiP, hzP, hsP, hbP⟩ := info_parts Tk.infoP
  obtain ⟨q, hq⟩ : ∃ q, s % Wd = q := ⟨_, rfl⟩
  have hqW : q < Wd := by rw [← hq]; exact Nat.mod_lt _ hW
  have hrem : (s : Int).tmod (Wd : Int) = (q : Int) := by rw [← hq]; rfl
  have HREM := Lib.hid hrem
  have hnz : ¬ Wd = 0 := by omega
  rw [hq]
  clear hrem hq
  have hix := fun wx => run_indexS (P := Try.prog) wx 108 121 iP 2 Try.underlying108 hiP hsP (some ⟨r, 0, none⟩) Wd Wd q hqW (by simp)
  have hpl : elemA (some ⟨r, 0, none⟩) q 2 = ⟨r, q * 2, none⟩ := by unfold elemA; rw [Option.getD_some, Addr.add_lit, Nat.zero_add]
  rw [hpl] at hix
  have HIX := Lib.hid hix
  clear hix hpl
  have HS : Hid (Ev (Mod (fun _ => False) w) w) := Lib.hid (Ev.mod w)
  replace HS := Lib.hid ((Ev.blk h).and HS.out)
  clear h
  have hbp := (HS.out.now).1
  have qp_0 := hbp.cell 0 rfl
  have qp_1 := hbp.cell 1 rfl
  have lp := hbp.lt
  clear hbp
  go_enter Try.func54, Try.ntmps54
  go_upto_region 1 with fail
  clear qp_0 qp_1 lp
  have HSd := Lib.hid HS.out.drew
  refine wp_region_inv3 (act := ?actta_r1_0) (Mod (fun _ => False)) (fun i => (ta_r1_0_F p r Wd s q).getD i (fun _ _ => True)) (fun i => ta_r1_0_D.getD i []) (by kernel_rfl) (by kernel_rfl) (by kernel_rfl) (by kernel_rfl) (fun _ => Mod.refl _ _)
    (fun _ _ _ h k => h.trans k (fun _ _ e => e) (fun _ _ e => e)) ?hactta_r1_0 (stable_list ?_) ?_ ?_
  case hactta_r1_0 => intro vs; simp only [putAll, Nat.zero_add, Nat.reduceAdd, Act.put, List.setIfInBounds_toArray, List.set_cons_succ, List.set_cons_zero]; exact rfl
  · unfold ta_r1_0_F
    exact stable_cons (stable_val _) <| stable_cons (stable_val _) <| stable_cons (stable_val _) <| stable_cons (stable_val _) <| stable_cons (stable_val _) <| stable_cons (stable_val _) <| stable_cons (stable_val _) <| stable_cons (stable_val _) <| stable_cons (stable_val _) <| stable_cons (stable_val _) <| stable_cons (stable_val _) <| stable_cons (stable_val _) <| stable_cons (stable_val _) <| stable_nil
  · refine opsOkA_cons ?_ ?_
    · intro K vs W hR hD hK
      clear hD
      try dsimp only at hK ⊢
      simp only [Act.put, List.setIfInBounds_toArray, List.set_cons_succ, List.set_cons_zero] at hK
      go_wp2
      exact hK _ _ rfl (Mod.refl _ _)
    refine opsOkA_cons ?_ ?_
    · intro K vs W hR hD hK
      have dq0 : vs 0 = .pointer (some ⟨p, 0, none⟩) := hD 0 (by decide)
      clear hD
      try dsimp only at hK ⊢
      simp only [Act.put, List.setIfInBounds_toArray, List.set_cons_succ, List.set_cons_zero] at hK
      generalize vs 0 = vq0 at hK dq0 ⊢
      subst vq0
      go_wp2
      exact hK _ _ rfl (Mod.refl _ _)
    refine opsOkA_cons ?_ ?_
    · intro K vs W hR hD hK
      have dq1 : vs 1 = .pointer (some ⟨p, 0, none⟩) := hD 1 (by decide)
      clear hD
      try dsimp only at hK ⊢
      simp only [Act.put, List.setIfInBounds_toArray, List.set_cons_succ, List.set_cons_zero] at hK
      generalize vs 1 = vq1 at hK dq1 ⊢
      subst vq1
      go_wp2
      exact hK _ _ rfl (Mod.refl _ _)
    refine opsOkA_cons ?_ ?_
    · intro K vs W hR hD hK
      have dq2 : vs 2 = .pointer (some ⟨p, 1, none⟩) := hD 2 (by decide)
      clear hD
      try dsimp only at hK ⊢
      simp only [Act.put, List.setIfInBounds_toArray, List.set_cons_succ, List.set_cons_zero] at hK
      generalize vs 2 = vq2 at hK dq2 ⊢
      subst vq2
      have q0 := ((HSd.out.at (hR)).1).cell 1 rfl
      go_wp2
      exact hK _ _ rfl (Mod.refl _ _)
    refine opsOkA_cons ?_ ?_
    · intro K vs W hR hD hK
      clear hD
      try dsimp only at hK ⊢
      simp only [Act.put, List.setIfInBounds_toArray, List.set_cons_succ, List.set_cons_zero] at hK
      go_wp2
      exact hK _ _ rfl (Mod.refl _ _)
    refine opsOkA_cons ?_ ?_
    · intro K vs W hR hD hK
      clear hD
      try dsimp only at hK ⊢
      simp only [Act.put, List.setIfInBounds_toArray, List.set_cons_succ, List.set_cons_zero] at hK
      go_wp2
      exact hK _ _ rfl (Mod.refl _ _)
    refine opsOkA_cons ?_ ?_
    · intro K vs W hR hD hK
      have dq5 : vs 5 = .pointer (some ⟨p, 0, none⟩) := hD 5 (by decide)
      clear hD
      try dsimp only at hK ⊢
      simp only [Act.put, List.setIfInBounds_toArray, List.set_cons_succ, List.set_cons_zero] at hK
      generalize vs 5 = vq5 at hK dq5 ⊢
      subst vq5
      go_wp2
      exact hK _ _ rfl (Mod.refl _ _)
    refine opsOkA_cons ?_ ?_
    · intro K vs W hR hD hK
      have dq6 : vs 6 = .pointer (some ⟨p, 0, none⟩) := hD 6 (by decide)
      clear hD
      try dsimp only at hK ⊢
      simp only [Act.put, List.setIfInBounds_toArray, List.set_cons_succ, List.set_cons_zero] at hK
      generalize vs 6 = vq6 at hK dq6 ⊢
      subst vq6
      go_wp2
      exact hK _ _ rfl (Mod.refl _ _)
    refine opsOkA_cons ?_ ?_
    · intro K vs W hR hD hK
      have dq7 : vs 7 = .pointer (some ⟨p, 1, none⟩) := hD 7 (by decide)
      clear hD
      try dsimp only at hK ⊢
      simp only [Act.put, List.setIfInBounds_toArray, List.set_cons_succ, List.set_cons_zero] at hK
      generalize vs 7 = vq7 at hK dq7 ⊢
      subst vq7
      have q0 := ((HSd.out.at (hR)).1).cell 1 rfl
      go_wp2
      exact hK _ _ rfl (Mod.refl _ _)
    refine opsOkA_cons ?_ ?_
    · intro K vs W hR hD hK
      have dq8 : vs 8 = .slice (some ⟨r, 0, none⟩) Wd Wd := hD 8 (by decide)
      clear hD
      try dsimp only at hK ⊢
      simp only [Act.put, List.setIfInBounds_toArray, List.set_cons_succ, List.set_cons_zero] at hK
      generalize vs 8 = vq8 at hK dq8 ⊢
      subst vq8
      go_wp2_with fail
      exact hK _ _ rfl (Mod.refl _ _)
    refine opsOkA_cons ?_ ?_
    · intro K vs W hR hD hK
      have dq4 : vs 4 = .int .i64 (s : Int) := hD 4 (by decide)
      have dq9 : vs 9 = .int .i64 (Wd : Int) := hD 9 (by decide)
      clear hD
      try dsimp only at hK ⊢
      simp only [Act.put, List.setIfInBounds_toArray, List.set_cons_succ, List.set_cons_zero] at hK
      generalize vs 4 = vq4 at hK dq4 ⊢
      subst vq4
      generalize vs 9 = vq9 at hK dq9 ⊢
      subst vq9
      have hrem := HREM.out
      go_wp2
      exact hK _ _ rfl (Mod.refl _ _)
    refine opsOkA_cons ?_ ?_
    · intro K vs W hR hD hK
      have dq3 : vs 3 = .slice (some ⟨r, 0, none⟩) Wd Wd := hD 3 (by decide)
      have dq10 : vs 10 = .int .i64 (q : Int) := hD 10 (by decide)
      clear hD
      try dsimp only at hK ⊢
      simp only [Act.put, List.setIfInBounds_toArray, List.set_cons_succ, List.set_cons_zero] at hK
      generalize vs 3 = vq3 at hK dq3 ⊢
      subst vq3
      generalize vs 10 = vq10 at hK dq10 ⊢
      subst vq10
      have hix := HIX.out
      go_wp2_with fail
      exact hK _ _ rfl (Mod.refl _ _)
    refine opsOkA_cons ?_ ?_
    · intro K vs W hR hD hK
      have dq11 : vs 11 = .pointer (some ⟨r, q * 2, none⟩) := hD 11 (by decide)
      clear hD
      try dsimp only at hK ⊢
      simp only [Act.put, List.setIfInBounds_toArray, List.set_cons_succ, List.set_cons_zero] at hK
      generalize vs 11 = vq11 at hK dq11 ⊢
      subst vq11
      go_wp2
      exact hK _ _ rfl (Mod.refl _ _)
    exact opsOkA_nil
  · intro vs wq1 hR hF
    have dq11 : vs 11 = .pointer (some ⟨r, q * 2, none⟩) := hF 11 (by decide)
    have dq12 : vs 12 = .pointer (some ⟨r, q * 2, none⟩) := hF 12 (by decide)
    clear hF
    try dsimp only
    generalize vs 11 = vq11 at dq11 ⊢
    subst dq11
    generalize vs 12 = vq12 at dq12 ⊢
    subst dq12
    replace HS := Lib.hid (HSd.out.step hR)
    clear HSd hR
    have hbp := (HS.out.now).1
    have qp_0 := hbp.cell 0 rfl
    have qp_1 := hbp.cell 1 rfl
    have lp := hbp.lt
    clear hbp
    go_wp2_with fail
    go_ret
    exact ⟨rfl, (HS.out.now).2⟩

theorem tknext_any (w : World) (p r Wd N : Nat) (f : Hld) (h : TK w p r Wd N f) :
    Calls Try.prog 40 #[.pointer (some ⟨p, 0, none⟩)] w fun e w' => e = .returned (.int .i64 (N : Int)) ∧ w = w' := by
  have c0 := h.blk.cell 0 rfl
  clear h
  go_enter Try.func40, Try.ntmps40
  go_wp2_with fail
  go_ret
  exact ⟨rfl, rfl⟩
theorem tknext_nil (w : World) : Calls Try.prog 40 #[.pointer none] w fun e w' => e = .returned (.int .i64 0) ∧ w = w' := by
  go_enter Try.func40, Try.ntmps40
  go_wp2_with fail
  go_ret
  exact ⟨rfl, rfl⟩
theorem tknew_no (w : World) (v : Int) (hv : ¬ (1 ≤ v ∧ v ≤ 16)) : Calls Try.prog 29 #[.int .i64 v] w fun e w' => e = .returned (.tuple #[.pointer none, .int .i64 1]) ∧ w = w' := by
  by_cases h1 : v < 1
  · have z0 : decide (v < 1) = true := by simpa using h1
    clear hv
    go_enter Try.func29, Try.ntmps29
    go_wp2_with fail
    go_ret2
    exact ⟨rfl, rfl⟩
  · have z0 : decide (v < 1) = false := by simpa using h1
    have z1 : decide (16 < v) = true := by simp; omega
    clear hv
    go_enter Try.func29, Try.ntmps29
    go_wp2_with fail
    go_ret2
    exact ⟨rfl, rfl⟩
theorem places_at (n i : Nat) (h : i < n) : (madeCells #[Value.bool false, .slice none 0 0] (n * 2)).toList[i * 2]? = some (.bool false) ∧ (madeCells #[Value.bool false, .slice none 0 0] (n * 2)).toList[i * 2 + 1]? = some (.slice none 0 0) := by
  unfold madeCells
  have h1 : i * 2 < n * 2 := by omega
  have h2 : i * 2 + 1 < n * 2 := by omega
  have e1 : i * 2 % 2 = 0 := by omega
  have e2 : (i * 2 + 1) % 2 = 1 := by omega
  constructor
  · simp [h1, e1]
  · simp [h2, e2]
set_option maxHeartbeats 4000000 in
theorem tknew_any (w : World) (Wd : Nat) (h1 : 1 ≤ Wd) (h2 : Wd ≤ 16) : Calls Try.prog 29 #[.int .i64 (Wd : Int)] w fun e w' => ∃ p r, e = .returned (.tuple #[.pointer (some ⟨p, 0, none⟩), .int .i64 0]) ∧ TK w' p r Wd 0 (fun _ => none) ∧ w.heap.size ≤ p ∧ w.heap.size ≤ r ∧ Mod (fun _ => False) w w' := by
  obtain ⟨iP, hiP, hzP, hsP, hbP⟩ := info_parts Tk.infoP
  have z0 : decide ((Wd : Int) < 1) = false := by simp; omega
  have z1 : decide (16 < (Wd : Int)) = false := by simp; omega
  have hmk := fun wx => run_make (P := Try.prog) (w := wx) 108 121 iP (.agg #[.bool false, .slice none 0 0]) Try.underlying108 hiP hzP .i64 .i64 Wd Wd (by omega) (Int.le_refl _) (by rw [hbP]; omega) (by omega)
  simp only [Int.toNat_natCast, hsP] at hmk
  obtain ⟨r, hr⟩ : ∃ b, w.heap.size = b := ⟨_, rfl⟩
  obtain ⟨w1, hw1⟩ : ∃ x, w.alloc (.cells (madeCells #[Value.bool false, .slice none 0 0] (Wd * 2)) 121) = x := ⟨_, rfl⟩
  have hB1 : Blk w1 r 121 (madeCells #[Value.bool false, .slice none 0 0] (Wd * 2)).toList := by
    rw [← hw1, ← hr]
    have h := Blk.new w 121 (madeCells #[Value.bool false, .slice none 0 0] (Wd * 2)).toList
    simpa using h
  have hm1 : Mod (fun _ => False) w w1 := by rw [← hw1]; exact Mod.alloc _ _ _
  have hz1 : w1.heap.size = r + 1 := by rw [← hw1, ← hr]; simp
  have hmk2 := hmk w
  have hcc : (Value.agg #[Value.bool false, .slice none 0 0]).cells = #[Value.bool false, .slice none 0 0] := rfl
  rw [hcc, hw1, hr] at hmk2
  clear hmk
  have HB1 := Lib.hid hB1
  have HM1 := Lib.hid hm1
  clear hB1 hm1
  go_enter Try.func29, Try.ntmps29
  go_wp2_with fail
  go_ret2
  have hm2 : Mod (fun _ => False) w1 (w1.alloc (.cells #[.int .i64 0, .slice (some ⟨r, 0, none⟩) Wd Wd] 110)) := Mod.alloc _ _ _
  have hBn := Blk.new w1 110 [.int .i64 0, .slice (some ⟨r, 0, none⟩) Wd Wd]
  rw [hz1] at hBn
  refine ⟨r + 1, r, rfl, ⟨by omega, h2, by omega, hBn, ⟨_, HB1.out.keep hm2 (fun e => e), by simp [madeCells], fun s _ hs => ?_⟩, fun s hs => absurd rfl hs⟩, ?_, ?_, ?_⟩
  · have := places_at Wd (s % Wd) (Nat.mod_lt _ (by omega))
    exact ⟨this.1, _, this.2, BodyV.nil _ _ _⟩
  · omega
  · omega
  · exact HM1.out.of2 hm2

end Go.Proofs.Ytdahoecejnnjkaa
