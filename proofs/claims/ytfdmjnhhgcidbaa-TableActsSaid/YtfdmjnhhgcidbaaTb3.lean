/- table's May, by contract. -/
import Derived.Test.YtfdmjnhhgcidbaaTb2
import Derived.Test.YtfdmjnhhgcidbaaRegion2
namespace Go.Proofs.Ytfdmjnhhgcidbaa
open Go.RowKit Mile
set_option maxRecDepth 100000
/-- What each operation of the statement leaves. -/
def tm0_r5_0_F (p : Nat) (M : Nat) (n : Nat) : List (Value → World → Prop) :=
  [IsV (.pointer (some ⟨p, 0, none⟩)),
   IsV (.int .i64 (n : Int)),
   IsV (.pointer (some ⟨p, 0, none⟩)),
   IsV (.pointer (some ⟨p, 0, none⟩)),
   IsV (.pointer (some ⟨p, 0, none⟩)),
   IsV (.int .i64 (M : Int)),
   IsV (.bool false),
   IsV (.bool false),
   IsV (undef),
   IsV (undef),
   IsV (undef),
   IsV (undef),
   IsV (undef),
   IsV (undef),
   IsV (undef),
   IsV (.bool false),
   IsV (.bool false)]
def tm0_r5_0_D : List (List Nat) := [[], [0], [], [2], [3], [4], [1, 5], [6], [7], [7], [7], [7], [7], [7], [7], [7, 14], [15]]

/-- What each operation of the statement leaves. -/
def tm1_r5_0_F (p : Nat) (M : Nat) (ip : Nat) (n : Nat) : List (Value → World → Prop) :=
  [IsV (.pointer (some ⟨p, 0, none⟩)),
   IsV (.int .i64 (n : Int)),
   IsV (.pointer (some ⟨p, 0, none⟩)),
   IsV (.pointer (some ⟨p, 0, none⟩)),
   IsV (.pointer (some ⟨p, 0, none⟩)),
   IsV (.int .i64 (M : Int)),
   IsV (.bool true),
   IsV (.bool true),
   IsV (.pointer (some ⟨p, 0, none⟩)),
   IsV (.int .i64 (ip : Int)),
   IsV (.pointer (some ⟨p, 0, none⟩)),
   IsV (.pointer (some ⟨p, 1, none⟩)),
   IsV (.pointer (some ⟨p, (1 + ip), none⟩)),
   IsV (.pointer none),
   IsV (.bool true),
   IsV (.bool true),
   IsV (.bool true)]
def tm1_r5_0_D : List (List Nat) := [[], [0], [], [2], [3], [4], [1, 5], [6], [7], [7], [7, 8], [7, 10], [7, 9, 11], [7, 12], [7, 13], [7, 14], [15]]

/-- What each operation of the statement leaves. -/
def tm2_r5_0_F (p : Nat) (M : Nat) (ip : Nat) (n : Nat) (b : Nat) : List (Value → World → Prop) :=
  [IsV (.pointer (some ⟨p, 0, none⟩)),
   IsV (.int .i64 (n : Int)),
   IsV (.pointer (some ⟨p, 0, none⟩)),
   IsV (.pointer (some ⟨p, 0, none⟩)),
   IsV (.pointer (some ⟨p, 0, none⟩)),
   IsV (.int .i64 (M : Int)),
   IsV (.bool true),
   IsV (.bool true),
   IsV (.pointer (some ⟨p, 0, none⟩)),
   IsV (.int .i64 (ip : Int)),
   IsV (.pointer (some ⟨p, 0, none⟩)),
   IsV (.pointer (some ⟨p, 1, none⟩)),
   IsV (.pointer (some ⟨p, (1 + ip), none⟩)),
   IsV (.pointer (some ⟨b, 0, none⟩)),
   IsV (.bool false),
   IsV (.bool false),
   IsV (.bool false)]
def tm2_r5_0_D : List (List Nat) := [[], [0], [], [2], [3], [4], [1, 5], [6], [7], [7], [7, 8], [7, 10], [7, 9, 11], [7, 12], [7, 13], [7, 14], [15]]

set_option maxHeartbeats 4000000 in
theorem tbmay_any {w : World} {p M : Nat} {es : Nat → TbE} {gr : Nat → Int} (h : TB w p M es gr) (peer conn : Int) : Calls Try.prog 33 #[.pointer (some ⟨p, 0, none⟩), .int .i64 peer, .int .i64 conn] w fun e w' => e = .returned (.int .i64 (mayC M es gr peer conn)) ∧ Mod (fun _ => False) w w' := by
  by_cases hp : 0 ≤ peer ∧ peer < 16
  case neg =>
    have hv : mayC M es gr peer conn = 1 := by unfold mayC; rw [if_pos (by omega)]
    rw [hv]
    have HP := Lib.hid (ispeer_is w peer false (decide_eq_false hp))
    clear h hp hv
    go_enter Try.func33, Try.ntmps33
    go_wp2_with fail
    refine HP.out.mono ?_
    rintro e w' ⟨rfl, rfl⟩
    go_wp2_with fail
    go_ret
    exact ⟨rfl, Mod.refl _ _⟩
  case pos =>
  obtain ⟨ip, rfl⟩ := Int.eq_ofNat_of_zero_le hp.1
  have hi : ip < 16 := by omega
  have HP := Lib.hid (ispeer_is w (ip : Int) true (decide_eq_true hp))
  by_cases h1 : conn < 1
  case pos =>
    have hv : mayC M es gr (ip : Int) conn = 1 := by unfold mayC; rw [if_pos (by omega)]
    rw [hv]
    have y0 : decide (conn < 1) = true := by simpa using h1
    clear h hp hv h1
    go_enter Try.func33, Try.ntmps33
    go_wp2_with fail
    refine HP.out.mono ?_
    rintro e w' ⟨rfl, rfl⟩
    go_wp2_with fail
    go_ret
    exact ⟨rfl, Mod.refl _ _⟩
  case neg =>
  have y0 : decide (conn < 1) = false := by simpa using h1
  by_cases h2 : 2147483648 < conn
  case pos =>
    have hv : mayC M es gr (ip : Int) conn = 1 := by unfold mayC; rw [if_pos (by omega)]
    rw [hv]
    have y1 : decide (2147483648 < conn) = true := by simpa using h2
    clear h hp hv h1 h2
    go_enter Try.func33, Try.ntmps33
    go_wp2_with fail
    refine HP.out.mono ?_
    rintro e w' ⟨rfl, rfl⟩
    go_wp2_with fail
    go_ret
    exact ⟨rfl, Mod.refl _ _⟩
  case neg =>
  have y1 : decide (2147483648 < conn) = false := by simpa using h2
  obtain ⟨iE, hiE, hzE, hsE, hbE⟩ := info_parts Tb.infoE
  obtain ⟨iI, hiI, hzI, hsI, hbI⟩ := info_parts Tb.infoI
  have hv : mayC M es gr (ip : Int) conn = if conn ≤ gr ip then 6 else if M ≤ (liveN es 16).length ∧ es ip = none then 5 else 0 := by unfold mayC; rw [if_neg (by omega)]; rfl
  rw [hv]
  have hixG := fun wx => run_indexA16 (P := Try.prog) wx 104 3 iI Try.underlying104 hiI hsI p 17 ip hi
  have hixE := fun wx => run_indexA16 (P := Try.prog) wx 149 90 iE Try.underlying149 hiE hsE p 1 ip hi
  have cg := h.cellG hi
  have ce := h.cellE hi
  have c0 : w.cell? ⟨p, 0, none⟩ = some (.int .i64 (M : Int)) := h.blk.cell 0 rfl
  have HT := Lib.hid h
  obtain ⟨g, hg⟩ : ∃ g, gr ip = g := ⟨_, rfl⟩
  rw [hg] at cg ⊢
  obtain ⟨n, hn⟩ : ∃ n, (liveN es 16).length = n := ⟨_, rfl⟩
  have HL := Lib.hid (fun (W : World) (hm : Mod (fun _ => False) w W) => tblen_any (h.later hm))
  rw [hn] at HL ⊢
  clear h hp hv h1 h2 hg hn
  by_cases h3 : conn ≤ g
  case pos =>
    have y2 : decide (conn ≤ g) = true := by simpa using h3
    rw [if_pos h3]
    clear h3 ce
    go_enter Try.func33, Try.ntmps33
    go_wp2_with fail
    refine HP.out.mono ?_
    rintro e w' ⟨rfl, rfl⟩
    go_wp2_with fail
    go_ret
    exact ⟨rfl, Mod.refl _ _⟩
  case neg =>
  have y2 : decide (conn ≤ g) = false := by simpa using h3
  rw [if_neg h3]
  clear h3
  have HIE := Lib.hid hixE
  clear hixE
  by_cases h4 : M ≤ n
  case neg =>
    have y3 : decide ((M : Int) ≤ (n : Int)) = false := by simp; omega
    have y4 : decide (M ≤ n) = false := by simp; omega
    rw [if_neg (fun x => h4 x.1)]
    clear h4
    have HS : Hid (Ev (Mod (fun _ => False) w) w) := Lib.hid (Ev.mod w)
    replace HS := Lib.hid ((Ev.tb HT.out).and HS.out)
    go_enter Try.func33, Try.ntmps33
    go_wp2_with fail
    refine HP.out.mono ?_
    rintro e w' ⟨rfl, rfl⟩
    go_wp2_with fail
    clear c0 cg ce hixG
    have HSd := Lib.hid HS.out.drew
    refine wp_region_inv3 (act := ?acttm0_r5_0) (Mod (fun _ => False)) (fun i => (tm0_r5_0_F p M n).getD i (fun _ _ => True)) (fun i => tm0_r5_0_D.getD i []) (by kernel_rfl) (by kernel_rfl) (by kernel_rfl) (by kernel_rfl) (fun _ => Mod.refl _ _)
      (fun _ _ _ h k => h.trans k (fun _ _ e => e) (fun _ _ e => e)) ?hacttm0_r5_0 (stable_list ?_) ?_ ?_
    case hacttm0_r5_0 => intro vs; simp only [putAll, Nat.zero_add, Nat.reduceAdd, Act.put, List.setIfInBounds_toArray, List.set_cons_succ, List.set_cons_zero]; exact rfl
    · unfold tm0_r5_0_F
      exact stable_cons (stable_val _) <| stable_cons (stable_val _) <| stable_cons (stable_val _) <| stable_cons (stable_val _) <| stable_cons (stable_val _) <| stable_cons (stable_val _) <| stable_cons (stable_val _) <| stable_cons (stable_val _) <| stable_cons (stable_val _) <| stable_cons (stable_val _) <| stable_cons (stable_val _) <| stable_cons (stable_val _) <| stable_cons (stable_val _) <| stable_cons (stable_val _) <| stable_cons (stable_val _) <| stable_cons (stable_val _) <| stable_cons (stable_val _) <| stable_nil
    · refine opsOkA_cons ?_ ?_
      · intro K vs W hR hD hK
        clear hD
        try dsimp only at hK ⊢
        simp only [Act.put, List.setIfInBounds_toArray, List.set_cons_succ, List.set_cons_zero] at hK
        go_wp2
        exact hK _ _ rfl (Mod.refl _ _)
      refine opsOkA_cons ?_ ?_
      · intro K vs W hR hD hK
        have dq0 : vs 0 = .pointer (some ⟨p, 0, none⟩) := hD 0 (by decide)
        clear hD
        try dsimp only at hK ⊢
        simp only [Act.put, List.setIfInBounds_toArray, List.set_cons_succ, List.set_cons_zero] at hK
        generalize vs 0 = vq0 at hK dq0 ⊢
        subst vq0
        go_wp2_with (go_at_call 42; refine (HL.out W (HSd.out.at (hR)).2).mono ?_; rintro e' w' ⟨rfl, hm'⟩)
        exact hK _ _ rfl hm'
      refine opsOkA_cons ?_ ?_
      · intro K vs W hR hD hK
        clear hD
        try dsimp only at hK ⊢
        simp only [Act.put, List.setIfInBounds_toArray, List.set_cons_succ, List.set_cons_zero] at hK
        go_wp2
        exact hK _ _ rfl (Mod.refl _ _)
      refine opsOkA_cons ?_ ?_
      · intro K vs W hR hD hK
        have dq2 : vs 2 = .pointer (some ⟨p, 0, none⟩) := hD 2 (by decide)
        clear hD
        try dsimp only at hK ⊢
        simp only [Act.put, List.setIfInBounds_toArray, List.set_cons_succ, List.set_cons_zero] at hK
        generalize vs 2 = vq2 at hK dq2 ⊢
        subst vq2
        go_wp2
        exact hK _ _ rfl (Mod.refl _ _)
      refine opsOkA_cons ?_ ?_
      · intro K vs W hR hD hK
        have dq3 : vs 3 = .pointer (some ⟨p, 0, none⟩) := hD 3 (by decide)
        clear hD
        try dsimp only at hK ⊢
        simp only [Act.put, List.setIfInBounds_toArray, List.set_cons_succ, List.set_cons_zero] at hK
        generalize vs 3 = vq3 at hK dq3 ⊢
        subst vq3
        go_wp2
        exact hK _ _ rfl (Mod.refl _ _)
      refine opsOkA_cons ?_ ?_
      · intro K vs W hR hD hK
        have dq4 : vs 4 = .pointer (some ⟨p, 0, none⟩) := hD 4 (by decide)
        clear hD
        try dsimp only at hK ⊢
        simp only [Act.put, List.setIfInBounds_toArray, List.set_cons_succ, List.set_cons_zero] at hK
        generalize vs 4 = vq4 at hK dq4 ⊢
        subst vq4
        have hc : W.cell? ⟨p, 0, none⟩ = some (.int .i64 (M : Int)) := ((HSd.out.at (hR)).1).blk.cell 0 rfl
        go_wp2
        exact hK _ _ rfl (Mod.refl _ _)
      refine opsOkA_cons ?_ ?_
      · intro K vs W hR hD hK
        have dq1 : vs 1 = .int .i64 (n : Int) := hD 1 (by decide)
        have dq5 : vs 5 = .int .i64 (M : Int) := hD 5 (by decide)
        clear hD
        try dsimp only at hK ⊢
        simp only [Act.put, List.setIfInBounds_toArray, List.set_cons_succ, List.set_cons_zero] at hK
        generalize vs 1 = vq1 at hK dq1 ⊢
        subst vq1
        generalize vs 5 = vq5 at hK dq5 ⊢
        subst vq5
        go_wp2
        exact hK _ _ rfl (Mod.refl _ _)
      refine opsOkA_cons ?_ ?_
      · intro K vs W hR hD hK
        have dq6 : vs 6 = .bool false := hD 6 (by decide)
        clear hD
        try dsimp only at hK ⊢
        simp only [Act.put, List.setIfInBounds_toArray, List.set_cons_succ, List.set_cons_zero] at hK
        generalize vs 6 = vq6 at hK dq6 ⊢
        subst vq6
        go_wp2
        exact hK _ _ rfl (Mod.refl _ _)
      refine opsOkA_cons ?_ ?_
      · intro K vs W hR hD hK
        have dq7 : vs 7 = .bool false := hD 7 (by decide)
        clear hD
        try dsimp only at hK ⊢
        simp only [Act.put, List.setIfInBounds_toArray, List.set_cons_succ, List.set_cons_zero] at hK
        generalize vs 7 = vq7 at hK dq7 ⊢
        subst vq7
        go_wp2
        exact hK _ _ rfl (Mod.refl _ _)
      refine opsOkA_cons ?_ ?_
      · intro K vs W hR hD hK
        have dq7 : vs 7 = .bool false := hD 7 (by decide)
        clear hD
        try dsimp only at hK ⊢
        simp only [Act.put, List.setIfInBounds_toArray, List.set_cons_succ, List.set_cons_zero] at hK
        generalize vs 7 = vq7 at hK dq7 ⊢
        subst vq7
        go_wp2
        exact hK _ _ rfl (Mod.refl _ _)
      refine opsOkA_cons ?_ ?_
      · intro K vs W hR hD hK
        have dq7 : vs 7 = .bool false := hD 7 (by decide)
        clear hD
        try dsimp only at hK ⊢
        simp only [Act.put, List.setIfInBounds_toArray, List.set_cons_succ, List.set_cons_zero] at hK
        generalize vs 7 = vq7 at hK dq7 ⊢
        subst vq7
        go_wp2
        exact hK _ _ rfl (Mod.refl _ _)
      refine opsOkA_cons ?_ ?_
      · intro K vs W hR hD hK
        have dq7 : vs 7 = .bool false := hD 7 (by decide)
        clear hD
        try dsimp only at hK ⊢
        simp only [Act.put, List.setIfInBounds_toArray, List.set_cons_succ, List.set_cons_zero] at hK
        generalize vs 7 = vq7 at hK dq7 ⊢
        subst vq7
        go_wp2
        exact hK _ _ rfl (Mod.refl _ _)
      refine opsOkA_cons ?_ ?_
      · intro K vs W hR hD hK
        have dq7 : vs 7 = .bool false := hD 7 (by decide)
        clear hD
        try dsimp only at hK ⊢
        simp only [Act.put, List.setIfInBounds_toArray, List.set_cons_succ, List.set_cons_zero] at hK
        generalize vs 7 = vq7 at hK dq7 ⊢
        subst vq7
        go_wp2_with fail
        exact hK _ _ rfl (Mod.refl _ _)
      refine opsOkA_cons ?_ ?_
      · intro K vs W hR hD hK
        have dq7 : vs 7 = .bool false := hD 7 (by decide)
        clear hD
        try dsimp only at hK ⊢
        simp only [Act.put, List.setIfInBounds_toArray, List.set_cons_succ, List.set_cons_zero] at hK
        generalize vs 7 = vq7 at hK dq7 ⊢
        subst vq7
        go_wp2
        exact hK _ _ rfl (Mod.refl _ _)
      refine opsOkA_cons ?_ ?_
      · intro K vs W hR hD hK
        have dq7 : vs 7 = .bool false := hD 7 (by decide)
        clear hD
        try dsimp only at hK ⊢
        simp only [Act.put, List.setIfInBounds_toArray, List.set_cons_succ, List.set_cons_zero] at hK
        generalize vs 7 = vq7 at hK dq7 ⊢
        subst vq7
        go_wp2
        exact hK _ _ rfl (Mod.refl _ _)
      refine opsOkA_cons ?_ ?_
      · intro K vs W hR hD hK
        have dq7 : vs 7 = .bool false := hD 7 (by decide)
        have dq14 : vs 14 = undef := hD 14 (by decide)
        clear hD
        try dsimp only at hK ⊢
        simp only [Act.put, List.setIfInBounds_toArray, List.set_cons_succ, List.set_cons_zero] at hK
        generalize vs 7 = vq7 at hK dq7 ⊢
        subst vq7
        generalize vs 14 = vq14 at hK dq14 ⊢
        subst vq14
        go_wp2
        exact hK _ _ rfl (Mod.refl _ _)
      refine opsOkA_cons ?_ ?_
      · intro K vs W hR hD hK
        have dq15 : vs 15 = .bool false := hD 15 (by decide)
        clear hD
        try dsimp only at hK ⊢
        simp only [Act.put, List.setIfInBounds_toArray, List.set_cons_succ, List.set_cons_zero] at hK
        generalize vs 15 = vq15 at hK dq15 ⊢
        subst vq15
        go_wp2
        exact hK _ _ rfl (Mod.refl _ _)
      exact opsOkA_nil
    · intro vs wq1 hR hF
      have dq16 : vs 16 = .bool false := hF 16 (by decide)
      clear hF
      try dsimp only
      generalize vs 16 = vq16 at dq16 ⊢
      subst dq16
      replace HS := Lib.hid (HSd.out.step hR)
      clear HSd hR
      go_wp2_with fail
      go_ret
      exact ⟨rfl, (HS.out.now).2⟩
  case pos =>
    have y3 : decide ((M : Int) ≤ (n : Int)) = true := by simp; omega
    have y4 : decide (M ≤ n) = true := by simp; omega
    cases hes : es ip with
    | none =>
      rw [if_pos ⟨h4, rfl⟩]
      have HES := Lib.hid hes
      clear h4 hes
      have HS : Hid (Ev (Mod (fun _ => False) w) w) := Lib.hid (Ev.mod w)
      replace HS := Lib.hid ((Ev.tb HT.out).and HS.out)
      go_enter Try.func33, Try.ntmps33
      go_wp2_with fail
      refine HP.out.mono ?_
      rintro e w' ⟨rfl, rfl⟩
      go_wp2_with fail
      clear c0 cg ce hixG
      have HSd := Lib.hid HS.out.drew
      refine wp_region_inv3 (act := ?acttm1_r5_0) (Mod (fun _ => False)) (fun i => (tm1_r5_0_F p M ip n).getD i (fun _ _ => True)) (fun i => tm1_r5_0_D.getD i []) (by kernel_rfl) (by kernel_rfl) (by kernel_rfl) (by kernel_rfl) (fun _ => Mod.refl _ _)
        (fun _ _ _ h k => h.trans k (fun _ _ e => e) (fun _ _ e => e)) ?hacttm1_r5_0 (stable_list ?_) ?_ ?_
      case hacttm1_r5_0 => intro vs; simp only [putAll, Nat.zero_add, Nat.reduceAdd, Act.put, List.setIfInBounds_toArray, List.set_cons_succ, List.set_cons_zero]; exact rfl
      · unfold tm1_r5_0_F
        exact stable_cons (stable_val _) <| stable_cons (stable_val _) <| stable_cons (stable_val _) <| stable_cons (stable_val _) <| stable_cons (stable_val _) <| stable_cons (stable_val _) <| stable_cons (stable_val _) <| stable_cons (stable_val _) <| stable_cons (stable_val _) <| stable_cons (stable_val _) <| stable_cons (stable_val _) <| stable_cons (stable_val _) <| stable_cons (stable_val _) <| stable_cons (stable_val _) <| stable_cons (stable_val _) <| stable_cons (stable_val _) <| stable_cons (stable_val _) <| stable_nil
      · refine opsOkA_cons ?_ ?_
        · intro K vs W hR hD hK
          clear hD
          try dsimp only at hK ⊢
          simp only [Act.put, List.setIfInBounds_toArray, List.set_cons_succ, List.set_cons_zero] at hK
          go_wp2
          exact hK _ _ rfl (Mod.refl _ _)
        refine opsOkA_cons ?_ ?_
        · intro K vs W hR hD hK
          have dq0 : vs 0 = .pointer (some ⟨p, 0, none⟩) := hD 0 (by decide)
          clear hD
          try dsimp only at hK ⊢
          simp only [Act.put, List.setIfInBounds_toArray, List.set_cons_succ, List.set_cons_zero] at hK
          generalize vs 0 = vq0 at hK dq0 ⊢
          subst vq0
          go_wp2_with (go_at_call 42; refine (HL.out W (HSd.out.at (hR)).2).mono ?_; rintro e' w' ⟨rfl, hm'⟩)
          exact hK _ _ rfl hm'
        refine opsOkA_cons ?_ ?_
        · intro K vs W hR hD hK
          clear hD
          try dsimp only at hK ⊢
          simp only [Act.put, List.setIfInBounds_toArray, List.set_cons_succ, List.set_cons_zero] at hK
          go_wp2
          exact hK _ _ rfl (Mod.refl _ _)
        refine opsOkA_cons ?_ ?_
        · intro K vs W hR hD hK
          have dq2 : vs 2 = .pointer (some ⟨p, 0, none⟩) := hD 2 (by decide)
          clear hD
          try dsimp only at hK ⊢
          simp only [Act.put, List.setIfInBounds_toArray, List.set_cons_succ, List.set_cons_zero] at hK
          generalize vs 2 = vq2 at hK dq2 ⊢
          subst vq2
          go_wp2
          exact hK _ _ rfl (Mod.refl _ _)
        refine opsOkA_cons ?_ ?_
        · intro K vs W hR hD hK
          have dq3 : vs 3 = .pointer (some ⟨p, 0, none⟩) := hD 3 (by decide)
          clear hD
          try dsimp only at hK ⊢
          simp only [Act.put, List.setIfInBounds_toArray, List.set_cons_succ, List.set_cons_zero] at hK
          generalize vs 3 = vq3 at hK dq3 ⊢
          subst vq3
          go_wp2
          exact hK _ _ rfl (Mod.refl _ _)
        refine opsOkA_cons ?_ ?_
        · intro K vs W hR hD hK
          have dq4 : vs 4 = .pointer (some ⟨p, 0, none⟩) := hD 4 (by decide)
          clear hD
          try dsimp only at hK ⊢
          simp only [Act.put, List.setIfInBounds_toArray, List.set_cons_succ, List.set_cons_zero] at hK
          generalize vs 4 = vq4 at hK dq4 ⊢
          subst vq4
          have hc : W.cell? ⟨p, 0, none⟩ = some (.int .i64 (M : Int)) := ((HSd.out.at (hR)).1).blk.cell 0 rfl
          go_wp2
          exact hK _ _ rfl (Mod.refl _ _)
        refine opsOkA_cons ?_ ?_
        · intro K vs W hR hD hK
          have dq1 : vs 1 = .int .i64 (n : Int) := hD 1 (by decide)
          have dq5 : vs 5 = .int .i64 (M : Int) := hD 5 (by decide)
          clear hD
          try dsimp only at hK ⊢
          simp only [Act.put, List.setIfInBounds_toArray, List.set_cons_succ, List.set_cons_zero] at hK
          generalize vs 1 = vq1 at hK dq1 ⊢
          subst vq1
          generalize vs 5 = vq5 at hK dq5 ⊢
          subst vq5
          go_wp2
          exact hK _ _ rfl (Mod.refl _ _)
        refine opsOkA_cons ?_ ?_
        · intro K vs W hR hD hK
          have dq6 : vs 6 = .bool true := hD 6 (by decide)
          clear hD
          try dsimp only at hK ⊢
          simp only [Act.put, List.setIfInBounds_toArray, List.set_cons_succ, List.set_cons_zero] at hK
          generalize vs 6 = vq6 at hK dq6 ⊢
          subst vq6
          go_wp2
          exact hK _ _ rfl (Mod.refl _ _)
        refine opsOkA_cons ?_ ?_
        · intro K vs W hR hD hK
          have dq7 : vs 7 = .bool true := hD 7 (by decide)
          clear hD
          try dsimp only at hK ⊢
          simp only [Act.put, List.setIfInBounds_toArray, List.set_cons_succ, List.set_cons_zero] at hK
          generalize vs 7 = vq7 at hK dq7 ⊢
          subst vq7
          go_wp2
          exact hK _ _ rfl (Mod.refl _ _)
        refine opsOkA_cons ?_ ?_
        · intro K vs W hR hD hK
          have dq7 : vs 7 = .bool true := hD 7 (by decide)
          clear hD
          try dsimp only at hK ⊢
          simp only [Act.put, List.setIfInBounds_toArray, List.set_cons_succ, List.set_cons_zero] at hK
          generalize vs 7 = vq7 at hK dq7 ⊢
          subst vq7
          go_wp2
          exact hK _ _ rfl (Mod.refl _ _)
        refine opsOkA_cons ?_ ?_
        · intro K vs W hR hD hK
          have dq7 : vs 7 = .bool true := hD 7 (by decide)
          have dq8 : vs 8 = .pointer (some ⟨p, 0, none⟩) := hD 8 (by decide)
          clear hD
          try dsimp only at hK ⊢
          simp only [Act.put, List.setIfInBounds_toArray, List.set_cons_succ, List.set_cons_zero] at hK
          generalize vs 7 = vq7 at hK dq7 ⊢
          subst vq7
          generalize vs 8 = vq8 at hK dq8 ⊢
          subst vq8
          go_wp2
          exact hK _ _ rfl (Mod.refl _ _)
        refine opsOkA_cons ?_ ?_
        · intro K vs W hR hD hK
          have dq7 : vs 7 = .bool true := hD 7 (by decide)
          have dq10 : vs 10 = .pointer (some ⟨p, 0, none⟩) := hD 10 (by decide)
          clear hD
          try dsimp only at hK ⊢
          simp only [Act.put, List.setIfInBounds_toArray, List.set_cons_succ, List.set_cons_zero] at hK
          generalize vs 7 = vq7 at hK dq7 ⊢
          subst vq7
          generalize vs 10 = vq10 at hK dq10 ⊢
          subst vq10
          go_wp2
          exact hK _ _ rfl (Mod.refl _ _)
        refine opsOkA_cons ?_ ?_
        · intro K vs W hR hD hK
          have dq7 : vs 7 = .bool true := hD 7 (by decide)
          have dq9 : vs 9 = .int .i64 (ip : Int) := hD 9 (by decide)
          have dq11 : vs 11 = .pointer (some ⟨p, 1, none⟩) := hD 11 (by decide)
          clear hD
          try dsimp only at hK ⊢
          simp only [Act.put, List.setIfInBounds_toArray, List.set_cons_succ, List.set_cons_zero] at hK
          generalize vs 7 = vq7 at hK dq7 ⊢
          subst vq7
          generalize vs 9 = vq9 at hK dq9 ⊢
          subst vq9
          generalize vs 11 = vq11 at hK dq11 ⊢
          subst vq11
          have hix := HIE.out
          go_wp2_with fail
          exact hK _ _ rfl (Mod.refl _ _)
        refine opsOkA_cons ?_ ?_
        · intro K vs W hR hD hK
          have dq7 : vs 7 = .bool true := hD 7 (by decide)
          have dq12 : vs 12 = .pointer (some ⟨p, (1 + ip), none⟩) := hD 12 (by decide)
          clear hD
          try dsimp only at hK ⊢
          simp only [Act.put, List.setIfInBounds_toArray, List.set_cons_succ, List.set_cons_zero] at hK
          generalize vs 7 = vq7 at hK dq7 ⊢
          subst vq7
          generalize vs 12 = vq12 at hK dq12 ⊢
          subst vq12
          have hc := ((HSd.out.at (hR)).1).cellE hi
          rw [HES.out] at hc
          replace hc : W.cell? ⟨p, 1 + ip, none⟩ = some (.pointer none) := hc
          go_wp2
          exact hK _ _ rfl (Mod.refl _ _)
        refine opsOkA_cons ?_ ?_
        · intro K vs W hR hD hK
          have dq7 : vs 7 = .bool true := hD 7 (by decide)
          have dq13 : vs 13 = .pointer none := hD 13 (by decide)
          clear hD
          try dsimp only at hK ⊢
          simp only [Act.put, List.setIfInBounds_toArray, List.set_cons_succ, List.set_cons_zero] at hK
          generalize vs 7 = vq7 at hK dq7 ⊢
          subst vq7
          generalize vs 13 = vq13 at hK dq13 ⊢
          subst vq13
          go_wp2
          exact hK _ _ rfl (Mod.refl _ _)
        refine opsOkA_cons ?_ ?_
        · intro K vs W hR hD hK
          have dq7 : vs 7 = .bool true := hD 7 (by decide)
          have dq14 : vs 14 = .bool true := hD 14 (by decide)
          clear hD
          try dsimp only at hK ⊢
          simp only [Act.put, List.setIfInBounds_toArray, List.set_cons_succ, List.set_cons_zero] at hK
          generalize vs 7 = vq7 at hK dq7 ⊢
          subst vq7
          generalize vs 14 = vq14 at hK dq14 ⊢
          subst vq14
          go_wp2
          exact hK _ _ rfl (Mod.refl _ _)
        refine opsOkA_cons ?_ ?_
        · intro K vs W hR hD hK
          have dq15 : vs 15 = .bool true := hD 15 (by decide)
          clear hD
          try dsimp only at hK ⊢
          simp only [Act.put, List.setIfInBounds_toArray, List.set_cons_succ, List.set_cons_zero] at hK
          generalize vs 15 = vq15 at hK dq15 ⊢
          subst vq15
          go_wp2
          exact hK _ _ rfl (Mod.refl _ _)
        exact opsOkA_nil
      · intro vs wq1 hR hF
        have dq16 : vs 16 = .bool true := hF 16 (by decide)
        clear hF
        try dsimp only
        generalize vs 16 = vq16 at dq16 ⊢
        subst dq16
        replace HS := Lib.hid (HSd.out.step hR)
        clear HSd hR
        go_wp2_with fail
        go_ret
        exact ⟨rfl, (HS.out.now).2⟩
    | some x =>
      obtain ⟨b, ch⟩ := x
      rw [if_neg (fun x => by cases x.2)]
      have HES := Lib.hid hes
      clear h4 hes
      have HS : Hid (Ev (Mod (fun _ => False) w) w) := Lib.hid (Ev.mod w)
      replace HS := Lib.hid ((Ev.tb HT.out).and HS.out)
      go_enter Try.func33, Try.ntmps33
      go_wp2_with fail
      refine HP.out.mono ?_
      rintro e w' ⟨rfl, rfl⟩
      go_wp2_with fail
      clear c0 cg ce hixG
      have HSd := Lib.hid HS.out.drew
      refine wp_region_inv3 (act := ?acttm2_r5_0) (Mod (fun _ => False)) (fun i => (tm2_r5_0_F p M ip n b).getD i (fun _ _ => True)) (fun i => tm2_r5_0_D.getD i []) (by kernel_rfl) (by kernel_rfl) (by kernel_rfl) (by kernel_rfl) (fun _ => Mod.refl _ _)
        (fun _ _ _ h k => h.trans k (fun _ _ e => e) (fun _ _ e => e)) ?hacttm2_r5_0 (stable_list ?_) ?_ ?_
      case hacttm2_r5_0 => intro vs; simp only [putAll, Nat.zero_add, Nat.reduceAdd, Act.put, List.setIfInBounds_toArray, List.set_cons_succ, List.set_cons_zero]; exact rfl
      · unfold tm2_r5_0_F
        exact stable_cons (stable_val _) <| stable_cons (stable_val _) <| stable_cons (stable_val _) <| stable_cons (stable_val _) <| stable_cons (stable_val _) <| stable_cons (stable_val _) <| stable_cons (stable_val _) <| stable_cons (stable_val _) <| stable_cons (stable_val _) <| stable_cons (stable_val _) <| stable_cons (stable_val _) <| stable_cons (stable_val _) <| stable_cons (stable_val _) <| stable_cons (stable_val _) <| stable_cons (stable_val _) <| stable_cons (stable_val _) <| stable_cons (stable_val _) <| stable_nil
      · refine opsOkA_cons ?_ ?_
        · intro K vs W hR hD hK
          clear hD
          try dsimp only at hK ⊢
          simp only [Act.put, List.setIfInBounds_toArray, List.set_cons_succ, List.set_cons_zero] at hK
          go_wp2
          exact hK _ _ rfl (Mod.refl _ _)
        refine opsOkA_cons ?_ ?_
        · intro K vs W hR hD hK
          have dq0 : vs 0 = .pointer (some ⟨p, 0, none⟩) := hD 0 (by decide)
          clear hD
          try dsimp only at hK ⊢
          simp only [Act.put, List.setIfInBounds_toArray, List.set_cons_succ, List.set_cons_zero] at hK
          generalize vs 0 = vq0 at hK dq0 ⊢
          subst vq0
          go_wp2_with (go_at_call 42; refine (HL.out W (HSd.out.at (hR)).2).mono ?_; rintro e' w' ⟨rfl, hm'⟩)
          exact hK _ _ rfl hm'
        refine opsOkA_cons ?_ ?_
        · intro K vs W hR hD hK
          clear hD
          try dsimp only at hK ⊢
          simp only [Act.put, List.setIfInBounds_toArray, List.set_cons_succ, List.set_cons_zero] at hK
          go_wp2
          exact hK _ _ rfl (Mod.refl _ _)
        refine opsOkA_cons ?_ ?_
        · intro K vs W hR hD hK
          have dq2 : vs 2 = .pointer (some ⟨p, 0, none⟩) := hD 2 (by decide)
          clear hD
          try dsimp only at hK ⊢
          simp only [Act.put, List.setIfInBounds_toArray, List.set_cons_succ, List.set_cons_zero] at hK
          generalize vs 2 = vq2 at hK dq2 ⊢
          subst vq2
          go_wp2
          exact hK _ _ rfl (Mod.refl _ _)
        refine opsOkA_cons ?_ ?_
        · intro K vs W hR hD hK
          have dq3 : vs 3 = .pointer (some ⟨p, 0, none⟩) := hD 3 (by decide)
          clear hD
          try dsimp only at hK ⊢
          simp only [Act.put, List.setIfInBounds_toArray, List.set_cons_succ, List.set_cons_zero] at hK
          generalize vs 3 = vq3 at hK dq3 ⊢
          subst vq3
          go_wp2
          exact hK _ _ rfl (Mod.refl _ _)
        refine opsOkA_cons ?_ ?_
        · intro K vs W hR hD hK
          have dq4 : vs 4 = .pointer (some ⟨p, 0, none⟩) := hD 4 (by decide)
          clear hD
          try dsimp only at hK ⊢
          simp only [Act.put, List.setIfInBounds_toArray, List.set_cons_succ, List.set_cons_zero] at hK
          generalize vs 4 = vq4 at hK dq4 ⊢
          subst vq4
          have hc : W.cell? ⟨p, 0, none⟩ = some (.int .i64 (M : Int)) := ((HSd.out.at (hR)).1).blk.cell 0 rfl
          go_wp2
          exact hK _ _ rfl (Mod.refl _ _)
        refine opsOkA_cons ?_ ?_
        · intro K vs W hR hD hK
          have dq1 : vs 1 = .int .i64 (n : Int) := hD 1 (by decide)
          have dq5 : vs 5 = .int .i64 (M : Int) := hD 5 (by decide)
          clear hD
          try dsimp only at hK ⊢
          simp only [Act.put, List.setIfInBounds_toArray, List.set_cons_succ, List.set_cons_zero] at hK
          generalize vs 1 = vq1 at hK dq1 ⊢
          subst vq1
          generalize vs 5 = vq5 at hK dq5 ⊢
          subst vq5
          go_wp2
          exact hK _ _ rfl (Mod.refl _ _)
        refine opsOkA_cons ?_ ?_
        · intro K vs W hR hD hK
          have dq6 : vs 6 = .bool true := hD 6 (by decide)
          clear hD
          try dsimp only at hK ⊢
          simp only [Act.put, List.setIfInBounds_toArray, List.set_cons_succ, List.set_cons_zero] at hK
          generalize vs 6 = vq6 at hK dq6 ⊢
          subst vq6
          go_wp2
          exact hK _ _ rfl (Mod.refl _ _)
        refine opsOkA_cons ?_ ?_
        · intro K vs W hR hD hK
          have dq7 : vs 7 = .bool true := hD 7 (by decide)
          clear hD
          try dsimp only at hK ⊢
          simp only [Act.put, List.setIfInBounds_toArray, List.set_cons_succ, List.set_cons_zero] at hK
          generalize vs 7 = vq7 at hK dq7 ⊢
          subst vq7
          go_wp2
          exact hK _ _ rfl (Mod.refl _ _)
        refine opsOkA_cons ?_ ?_
        · intro K vs W hR hD hK
          have dq7 : vs 7 = .bool true := hD 7 (by decide)
          clear hD
          try dsimp only at hK ⊢
          simp only [Act.put, List.setIfInBounds_toArray, List.set_cons_succ, List.set_cons_zero] at hK
          generalize vs 7 = vq7 at hK dq7 ⊢
          subst vq7
          go_wp2
          exact hK _ _ rfl (Mod.refl _ _)
        refine opsOkA_cons ?_ ?_
        · intro K vs W hR hD hK
          have dq7 : vs 7 = .bool true := hD 7 (by decide)
          have dq8 : vs 8 = .pointer (some ⟨p, 0, none⟩) := hD 8 (by decide)
          clear hD
          try dsimp only at hK ⊢
          simp only [Act.put, List.setIfInBounds_toArray, List.set_cons_succ, List.set_cons_zero] at hK
          generalize vs 7 = vq7 at hK dq7 ⊢
          subst vq7
          generalize vs 8 = vq8 at hK dq8 ⊢
          subst vq8
          go_wp2
          exact hK _ _ rfl (Mod.refl _ _)
        refine opsOkA_cons ?_ ?_
        · intro K vs W hR hD hK
          have dq7 : vs 7 = .bool true := hD 7 (by decide)
          have dq10 : vs 10 = .pointer (some ⟨p, 0, none⟩) := hD 10 (by decide)
          clear hD
          try dsimp only at hK ⊢
          simp only [Act.put, List.setIfInBounds_toArray, List.set_cons_succ, List.set_cons_zero] at hK
          generalize vs 7 = vq7 at hK dq7 ⊢
          subst vq7
          generalize vs 10 = vq10 at hK dq10 ⊢
          subst vq10
          go_wp2
          exact hK _ _ rfl (Mod.refl _ _)
        refine opsOkA_cons ?_ ?_
        · intro K vs W hR hD hK
          have dq7 : vs 7 = .bool true := hD 7 (by decide)
          have dq9 : vs 9 = .int .i64 (ip : Int) := hD 9 (by decide)
          have dq11 : vs 11 = .pointer (some ⟨p, 1, none⟩) := hD 11 (by decide)
          clear hD
          try dsimp only at hK ⊢
          simp only [Act.put, List.setIfInBounds_toArray, List.set_cons_succ, List.set_cons_zero] at hK
          generalize vs 7 = vq7 at hK dq7 ⊢
          subst vq7
          generalize vs 9 = vq9 at hK dq9 ⊢
          subst vq9
          generalize vs 11 = vq11 at hK dq11 ⊢
          subst vq11
          have hix := HIE.out
          go_wp2_with fail
          exact hK _ _ rfl (Mod.refl _ _)
        refine opsOkA_cons ?_ ?_
        · intro K vs W hR hD hK
          have dq7 : vs 7 = .bool true := hD 7 (by decide)
          have dq12 : vs 12 = .pointer (some ⟨p, (1 + ip), none⟩) := hD 12 (by decide)
          clear hD
          try dsimp only at hK ⊢
          simp only [Act.put, List.setIfInBounds_toArray, List.set_cons_succ, List.set_cons_zero] at hK
          generalize vs 7 = vq7 at hK dq7 ⊢
          subst vq7
          generalize vs 12 = vq12 at hK dq12 ⊢
          subst vq12
          have hc := ((HSd.out.at (hR)).1).cellE hi
          rw [HES.out] at hc
          replace hc : W.cell? ⟨p, 1 + ip, none⟩ = some (.pointer (some ⟨b, 0, none⟩)) := hc
          go_wp2
          exact hK _ _ rfl (Mod.refl _ _)
        refine opsOkA_cons ?_ ?_
        · intro K vs W hR hD hK
          have dq7 : vs 7 = .bool true := hD 7 (by decide)
          have dq13 : vs 13 = .pointer (some ⟨b, 0, none⟩) := hD 13 (by decide)
          clear hD
          try dsimp only at hK ⊢
          simp only [Act.put, List.setIfInBounds_toArray, List.set_cons_succ, List.set_cons_zero] at hK
          generalize vs 7 = vq7 at hK dq7 ⊢
          subst vq7
          generalize vs 13 = vq13 at hK dq13 ⊢
          subst vq13
          go_wp2
          exact hK _ _ rfl (Mod.refl _ _)
        refine opsOkA_cons ?_ ?_
        · intro K vs W hR hD hK
          have dq7 : vs 7 = .bool true := hD 7 (by decide)
          have dq14 : vs 14 = .bool false := hD 14 (by decide)
          clear hD
          try dsimp only at hK ⊢
          simp only [Act.put, List.setIfInBounds_toArray, List.set_cons_succ, List.set_cons_zero] at hK
          generalize vs 7 = vq7 at hK dq7 ⊢
          subst vq7
          generalize vs 14 = vq14 at hK dq14 ⊢
          subst vq14
          go_wp2
          exact hK _ _ rfl (Mod.refl _ _)
        refine opsOkA_cons ?_ ?_
        · intro K vs W hR hD hK
          have dq15 : vs 15 = .bool false := hD 15 (by decide)
          clear hD
          try dsimp only at hK ⊢
          simp only [Act.put, List.setIfInBounds_toArray, List.set_cons_succ, List.set_cons_zero] at hK
          generalize vs 15 = vq15 at hK dq15 ⊢
          subst vq15
          go_wp2
          exact hK _ _ rfl (Mod.refl _ _)
        exact opsOkA_nil
      · intro vs wq1 hR hF
        have dq16 : vs 16 = .bool false := hF 16 (by decide)
        clear hF
        try dsimp only
        generalize vs 16 = vq16 at dq16 ⊢
        subst dq16
        replace HS := Lib.hid (HSd.out.step hR)
        clear HSd hR
        go_wp2_with fail
        go_ret
        exact ⟨rfl, (HS.out.now).2⟩
end Go.Proofs.Ytfdmjnhhgcidbaa
