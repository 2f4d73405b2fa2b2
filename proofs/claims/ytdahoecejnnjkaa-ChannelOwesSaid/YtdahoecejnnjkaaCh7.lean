/- channel's Recv of what is not taken, by contract. -/
import Derived.Test.YtdahoecejnnjkaaCh6
import Derived.Test.YtdahoecejnnjkaaRegion2
namespace Go.Proofs.Ytdahoecejnnjkaa
open Go.RowKit Mile Go.Maps
set_option maxRecDepth 100000
/-- What each operation of the statement leaves. -/
def rv_r1_0_F (p : Nat) : List (Value → World → Prop) :=
  [IsV (.pointer (some ⟨p, 0, none⟩)),
   IsV (.bool true),
   IsV (.bool true),
   IsV (undef),
   IsV (undef),
   IsV (undef),
   IsV (undef),
   IsV (undef),
   IsV (undef),
   IsV (undef),
   IsV (.bool true),
   IsV (.bool true),
   IsV (undef),
   IsV (undef),
   IsV (undef),
   IsV (undef),
   IsV (undef),
   IsV (undef),
   IsV (undef),
   IsV (undef),
   IsV (.bool true)]
def rv_r1_0_D : List (List Nat) := [[], [0], [1], [2], [2], [2], [2], [2], [2], [2], [2, 9], [10], [11], [11], [11], [11], [15], [15], [15], [11], [11, 19]]

/-- What each operation of the statement leaves. -/
def rv_r1_1_F (p : Nat) (g : Nat) (gn : Int) (gk : Int) (conn : Int) : List (Value → World → Prop) :=
  [IsV (.pointer (some ⟨p, 0, none⟩)),
   IsV (.bool false),
   IsV (.bool false),
   IsV (.pointer (some ⟨g, 0, none⟩)),
   IsV (.int .i64 gn),
   IsV (.pointer (some ⟨p, 0, none⟩)),
   IsV (.pointer (some ⟨p, 0, none⟩)),
   IsV (.pointer (some ⟨p, 2, none⟩)),
   IsV (.int .i64 conn),
   IsV (.bool false),
   IsV (.bool false),
   IsV (.bool false),
   IsV (.pointer (some ⟨g, 1, none⟩)),
   IsV (.int .i64 gk),
   IsV (.bool true),
   IsV (.bool true),
   IsV (.pointer (some ⟨g, 1, none⟩)),
   IsV (.int .i64 gk),
   IsV (.bool true),
   IsV (.bool true),
   IsV (.bool true)]
def rv_r1_1_D : List (List Nat) := [[], [0], [1], [2], [2, 3], [2], [2, 5], [2, 6], [2, 7], [2, 4, 8], [2, 9], [10], [11], [11, 12], [11, 13], [11, 14], [15], [15, 16], [15, 17], [11, 15, 18], [11, 19]]

/-- What each operation of the statement leaves. -/
def rv_r1_2_F (p : Nat) (g : Nat) (gn : Int) (conn : Int) : List (Value → World → Prop) :=
  [IsV (.pointer (some ⟨p, 0, none⟩)),
   IsV (.bool false),
   IsV (.bool false),
   IsV (.pointer (some ⟨g, 0, none⟩)),
   IsV (.int .i64 gn),
   IsV (.pointer (some ⟨p, 0, none⟩)),
   IsV (.pointer (some ⟨p, 0, none⟩)),
   IsV (.pointer (some ⟨p, 2, none⟩)),
   IsV (.int .i64 conn),
   IsV (.bool true),
   IsV (.bool true),
   IsV (.bool true),
   IsV (undef),
   IsV (undef),
   IsV (undef),
   IsV (undef),
   IsV (undef),
   IsV (undef),
   IsV (undef),
   IsV (undef),
   IsV (.bool true)]
def rv_r1_2_D : List (List Nat) := [[], [0], [1], [2], [2, 3], [2], [2, 5], [2, 6], [2, 7], [2, 4, 8], [2, 9], [10], [11], [11], [11], [11], [15], [15], [15], [11], [11, 19]]

section
variable {w : World} {p sp tp : Nat} {tb : Option Nat} {a : Option Addr} {c : Nat} {us : UdL} {kp kr : Nat} {ao : Option Addr} {co : Nat} {ou : UdL} {W B M R : Nat} {conn : Int} {x : ChS}
set_option maxHeartbeats 4000000 in
theorem chrecv_no (h : CHm w p sp tp tb a c us kp kr ao co ou W B M R conn x) (now gn gk gs ga gc : Int) (ab : Option Addr) (nb cb : Nat) (hno : x.o = true ∨ gn ≠ conn ∨ (gk ≠ 1 ∧ gk ≠ 2)) :
    Calls Try.prog 15 #[.pointer (some ⟨p, 0, none⟩), .int .i64 now, .agg #[.int .i64 gn, .int .i64 gk, .int .i64 gs, .int .i64 ga, .int .i64 gc, .slice ab nb cb]] w fun e w' => e = .returned (.tuple #[.slice none 0 0, .slice none 0 0]) ∧ Mod (fun _ => False) w w' := by
  obtain ⟨g, hg⟩ : ∃ y, w.heap.size = y := ⟨_, rfl⟩
  obtain ⟨wA, hwA⟩ : ∃ y, w.alloc (.cells #[.int .i64 gn, .int .i64 gk, .int .i64 gs, .int .i64 ga, .int .i64 gc, .slice ab nb cb] 40) = y := ⟨_, rfl⟩
  have hgA : Blk wA g 40 [.int .i64 gn, .int .i64 gk, .int .i64 gs, .int .i64 ga, .int .i64 gc, .slice ab nb cb] := by rw [← hwA, ← hg]; exact Blk.new w 40 [.int .i64 gn, .int .i64 gk, .int .i64 gs, .int .i64 ga, .int .i64 gc, .slice ab nb cb]
  have hmA : Mod (fun _ => False) w wA := by rw [← hwA]; exact Mod.alloc _ _ _
  have hA := h.later hmA
  obtain ⟨ov, hov⟩ : ∃ y, x.o = y := ⟨_, rfl⟩
  have HG : Hid (∀ W', Mod (fun _ => False) wA W' → Calls Try.prog 34 #[.pointer (some ⟨p, 0, none⟩)] W' fun e w' => e = .returned (.bool ov) ∧ W' = w') := Lib.hid (fun W' m => by have h1 := chgone_any (hA.later m); rwa [hov] at h1)
  rw [hov] at hno
  have c2 := hA.blk.cell 2 rfl
  have g0 := hgA.cell 0 rfl
  have g1 := hgA.cell 1 rfl
  have HMA := Lib.hid hmA
  clear h hov hgA hmA hA
  go_enter Try.func15, Try.ntmps15
  go_upto_region 1 with fail
  (try rw [hwA])
  (try rw [hg])
  clear hwA hg
  cases ov with
  | true =>
    clear hno
    have HS : Hid (Ev (Mod (fun _ => False) wA) wA) := Lib.hid (Ev.mod wA)
    replace HS := Lib.hid ((Ev.cell g0).and HS.out)
    replace HS := Lib.hid ((Ev.cell g1).and HS.out)
    replace HS := Lib.hid ((Ev.cell c2).and HS.out)
    clear g0 g1 c2
    have HSd := Lib.hid HS.out.drew
    refine wp_region_inv3 (act := ?actrv_r1_0) (Mod (fun _ => False)) (fun i => (rv_r1_0_F p).getD i (fun _ _ => True)) (fun i => rv_r1_0_D.getD i []) (by kernel_rfl) (by kernel_rfl) (by kernel_rfl) (by kernel_rfl) (fun _ => Mod.refl _ _)
      (fun _ _ _ h k => h.trans k (fun _ _ e => e) (fun _ _ e => e)) ?hactrv_r1_0 (stable_list ?_) ?_ ?_
    case hactrv_r1_0 => intro vs; simp only [putAll, Nat.zero_add, Nat.reduceAdd, Act.put, List.setIfInBounds_toArray, List.set_cons_succ, List.set_cons_zero]; exact rfl
    · unfold rv_r1_0_F
      exact stable_cons (stable_val _) <| stable_cons (stable_val _) <| stable_cons (stable_val _) <| stable_cons (stable_val _) <| stable_cons (stable_val _) <| stable_cons (stable_val _) <| stable_cons (stable_val _) <| stable_cons (stable_val _) <| stable_cons (stable_val _) <| stable_cons (stable_val _) <| stable_cons (stable_val _) <| stable_cons (stable_val _) <| stable_cons (stable_val _) <| stable_cons (stable_val _) <| stable_cons (stable_val _) <| stable_cons (stable_val _) <| stable_cons (stable_val _) <| stable_cons (stable_val _) <| stable_cons (stable_val _) <| stable_cons (stable_val _) <| stable_cons (stable_val _) <| stable_nil
    · refine opsOkA_cons ?_ ?_
      · intro K vs W hR hD hK
        clear hD
        try dsimp only at hK ⊢
        simp only [Act.put, List.setIfInBounds_toArray, List.set_cons_succ, List.set_cons_zero] at hK
        go_wp2
        exact hK _ _ rfl (Mod.refl _ _)
      refine opsOkA_cons ?_ ?_
      · intro K vs W hR hD hK
        have dq0 : vs 0 = .pointer (some ⟨p, 0, none⟩) := hD 0 (by decide)
        clear hD
        try dsimp only at hK ⊢
        simp only [Act.put, List.setIfInBounds_toArray, List.set_cons_succ, List.set_cons_zero] at hK
        generalize vs 0 = vq0 at hK dq0 ⊢
        subst vq0
        go_wp2_with (go_at_call 34; refine (HG.out W ((HSd.out.at (hR)).2.2.2)).mono ?_; rintro e' w' ⟨rfl, rfl⟩)
        exact hK _ _ rfl (Mod.refl _ _)
      refine opsOkA_cons ?_ ?_
      · intro K vs W hR hD hK
        have dq1 : vs 1 = .bool true := hD 1 (by decide)
        clear hD
        try dsimp only at hK ⊢
        simp only [Act.put, List.setIfInBounds_toArray, List.set_cons_succ, List.set_cons_zero] at hK
        generalize vs 1 = vq1 at hK dq1 ⊢
        subst vq1
        go_wp2
        exact hK _ _ rfl (Mod.refl _ _)
      refine opsOkA_cons ?_ ?_
      · intro K vs W hR hD hK
        have dq2 : vs 2 = .bool true := hD 2 (by decide)
        clear hD
        try dsimp only at hK ⊢
        simp only [Act.put, List.setIfInBounds_toArray, List.set_cons_succ, List.set_cons_zero] at hK
        generalize vs 2 = vq2 at hK dq2 ⊢
        subst vq2
        go_wp2
        exact hK _ _ rfl (Mod.refl _ _)
      refine opsOkA_cons ?_ ?_
      · intro K vs W hR hD hK
        have dq2 : vs 2 = .bool true := hD 2 (by decide)
        clear hD
        try dsimp only at hK ⊢
        simp only [Act.put, List.setIfInBounds_toArray, List.set_cons_succ, List.set_cons_zero] at hK
        generalize vs 2 = vq2 at hK dq2 ⊢
        subst vq2
        go_wp2
        exact hK _ _ rfl (Mod.refl _ _)
      refine opsOkA_cons ?_ ?_
      · intro K vs W hR hD hK
        have dq2 : vs 2 = .bool true := hD 2 (by decide)
        clear hD
        try dsimp only at hK ⊢
        simp only [Act.put, List.setIfInBounds_toArray, List.set_cons_succ, List.set_cons_zero] at hK
        generalize vs 2 = vq2 at hK dq2 ⊢
        subst vq2
        go_wp2
        exact hK _ _ rfl (Mod.refl _ _)
      refine opsOkA_cons ?_ ?_
      · intro K vs W hR hD hK
        have dq2 : vs 2 = .bool true := hD 2 (by decide)
        clear hD
        try dsimp only at hK ⊢
        simp only [Act.put, List.setIfInBounds_toArray, List.set_cons_succ, List.set_cons_zero] at hK
        generalize vs 2 = vq2 at hK dq2 ⊢
        subst vq2
        go_wp2
        exact hK _ _ rfl (Mod.refl _ _)
      refine opsOkA_cons ?_ ?_
      · intro K vs W hR hD hK
        have dq2 : vs 2 = .bool true := hD 2 (by decide)
        clear hD
        try dsimp only at hK ⊢
        simp only [Act.put, List.setIfInBounds_toArray, List.set_cons_succ, List.set_cons_zero] at hK
        generalize vs 2 = vq2 at hK dq2 ⊢
        subst vq2
        go_wp2
        exact hK _ _ rfl (Mod.refl _ _)
      refine opsOkA_cons ?_ ?_
      · intro K vs W hR hD hK
        have dq2 : vs 2 = .bool true := hD 2 (by decide)
        clear hD
        try dsimp only at hK ⊢
        simp only [Act.put, List.setIfInBounds_toArray, List.set_cons_succ, List.set_cons_zero] at hK
        generalize vs 2 = vq2 at hK dq2 ⊢
        subst vq2
        go_wp2
        exact hK _ _ rfl (Mod.refl _ _)
      refine opsOkA_cons ?_ ?_
      · intro K vs W hR hD hK
        have dq2 : vs 2 = .bool true := hD 2 (by decide)
        clear hD
        try dsimp only at hK ⊢
        simp only [Act.put, List.setIfInBounds_toArray, List.set_cons_succ, List.set_cons_zero] at hK
        generalize vs 2 = vq2 at hK dq2 ⊢
        subst vq2
        go_wp2
        exact hK _ _ rfl (Mod.refl _ _)
      refine opsOkA_cons ?_ ?_
      · intro K vs W hR hD hK
        have dq2 : vs 2 = .bool true := hD 2 (by decide)
        have dq9 : vs 9 = undef := hD 9 (by decide)
        clear hD
        try dsimp only at hK ⊢
        simp only [Act.put, List.setIfInBounds_toArray, List.set_cons_succ, List.set_cons_zero] at hK
        generalize vs 2 = vq2 at hK dq2 ⊢
        subst vq2
        generalize vs 9 = vq9 at hK dq9 ⊢
        subst vq9
        go_wp2
        exact hK _ _ rfl (Mod.refl _ _)
      refine opsOkA_cons ?_ ?_
      · intro K vs W hR hD hK
        have dq10 : vs 10 = .bool true := hD 10 (by decide)
        clear hD
        try dsimp only at hK ⊢
        simp only [Act.put, List.setIfInBounds_toArray, List.set_cons_succ, List.set_cons_zero] at hK
        generalize vs 10 = vq10 at hK dq10 ⊢
        subst vq10
        go_wp2
        exact hK _ _ rfl (Mod.refl _ _)
      refine opsOkA_cons ?_ ?_
      · intro K vs W hR hD hK
        have dq11 : vs 11 = .bool true := hD 11 (by decide)
        clear hD
        try dsimp only at hK ⊢
        simp only [Act.put, List.setIfInBounds_toArray, List.set_cons_succ, List.set_cons_zero] at hK
        generalize vs 11 = vq11 at hK dq11 ⊢
        subst vq11
        go_wp2
        exact hK _ _ rfl (Mod.refl _ _)
      refine opsOkA_cons ?_ ?_
      · intro K vs W hR hD hK
        have dq11 : vs 11 = .bool true := hD 11 (by decide)
        clear hD
        try dsimp only at hK ⊢
        simp only [Act.put, List.setIfInBounds_toArray, List.set_cons_succ, List.set_cons_zero] at hK
        generalize vs 11 = vq11 at hK dq11 ⊢
        subst vq11
        go_wp2
        exact hK _ _ rfl (Mod.refl _ _)
      refine opsOkA_cons ?_ ?_
      · intro K vs W hR hD hK
        have dq11 : vs 11 = .bool true := hD 11 (by decide)
        clear hD
        try dsimp only at hK ⊢
        simp only [Act.put, List.setIfInBounds_toArray, List.set_cons_succ, List.set_cons_zero] at hK
        generalize vs 11 = vq11 at hK dq11 ⊢
        subst vq11
        go_wp2
        exact hK _ _ rfl (Mod.refl _ _)
      refine opsOkA_cons ?_ ?_
      · intro K vs W hR hD hK
        have dq11 : vs 11 = .bool true := hD 11 (by decide)
        clear hD
        try dsimp only at hK ⊢
        simp only [Act.put, List.setIfInBounds_toArray, List.set_cons_succ, List.set_cons_zero] at hK
        generalize vs 11 = vq11 at hK dq11 ⊢
        subst vq11
        go_wp2
        exact hK _ _ rfl (Mod.refl _ _)
      refine opsOkA_cons ?_ ?_
      · intro K vs W hR hD hK
        have dq15 : vs 15 = undef := hD 15 (by decide)
        clear hD
        try dsimp only at hK ⊢
        simp only [Act.put, List.setIfInBounds_toArray, List.set_cons_succ, List.set_cons_zero] at hK
        generalize vs 15 = vq15 at hK dq15 ⊢
        subst vq15
        go_wp2
        exact hK _ _ rfl (Mod.refl _ _)
      refine opsOkA_cons ?_ ?_
      · intro K vs W hR hD hK
        have dq15 : vs 15 = undef := hD 15 (by decide)
        clear hD
        try dsimp only at hK ⊢
        simp only [Act.put, List.setIfInBounds_toArray, List.set_cons_succ, List.set_cons_zero] at hK
        generalize vs 15 = vq15 at hK dq15 ⊢
        subst vq15
        go_wp2
        exact hK _ _ rfl (Mod.refl _ _)
      refine opsOkA_cons ?_ ?_
      · intro K vs W hR hD hK
        have dq15 : vs 15 = undef := hD 15 (by decide)
        clear hD
        try dsimp only at hK ⊢
        simp only [Act.put, List.setIfInBounds_toArray, List.set_cons_succ, List.set_cons_zero] at hK
        generalize vs 15 = vq15 at hK dq15 ⊢
        subst vq15
        go_wp2
        exact hK _ _ rfl (Mod.refl _ _)
      refine opsOkA_cons ?_ ?_
      · intro K vs W hR hD hK
        have dq11 : vs 11 = .bool true := hD 11 (by decide)
        clear hD
        try dsimp only at hK ⊢
        simp only [Act.put, List.setIfInBounds_toArray, List.set_cons_succ, List.set_cons_zero] at hK
        generalize vs 11 = vq11 at hK dq11 ⊢
        subst vq11
        go_wp2
        exact hK _ _ rfl (Mod.refl _ _)
      refine opsOkA_cons ?_ ?_
      · intro K vs W hR hD hK
        have dq11 : vs 11 = .bool true := hD 11 (by decide)
        have dq19 : vs 19 = undef := hD 19 (by decide)
        clear hD
        try dsimp only at hK ⊢
        simp only [Act.put, List.setIfInBounds_toArray, List.set_cons_succ, List.set_cons_zero] at hK
        generalize vs 11 = vq11 at hK dq11 ⊢
        subst vq11
        generalize vs 19 = vq19 at hK dq19 ⊢
        subst vq19
        go_wp2
        exact hK _ _ rfl (Mod.refl _ _)
      exact opsOkA_nil
    · intro vs wq1 hR hF
      have dq20 : vs 20 = .bool true := hF 20 (by decide)
      clear hF
      try dsimp only
      generalize vs 20 = vq20 at dq20 ⊢
      subst dq20
      replace HS := Lib.hid (HSd.out.step hR)
      clear HSd hR
      go_wp2_with fail
      go_ret2
      exact ⟨rfl, HMA.out.of2 (HS.out.now).2.2.2⟩
  | false =>
    by_cases hn : gn = conn
    case pos =>
      have hk : gk ≠ 1 ∧ gk ≠ 2 := by rcases hno with e | e | e; cases e; exact absurd hn e; exact e
      have y0 : (gn != conn) = false := by simpa using hn
      have y1 : (gk != 1) = true := by simpa using hk.1
      have y2 : (gk != 2) = true := by simpa using hk.2
      clear hno hk hn
      have HS : Hid (Ev (Mod (fun _ => False) wA) wA) := Lib.hid (Ev.mod wA)
      replace HS := Lib.hid ((Ev.cell g0).and HS.out)
      replace HS := Lib.hid ((Ev.cell g1).and HS.out)
      replace HS := Lib.hid ((Ev.cell c2).and HS.out)
      clear g0 g1 c2
      have HSd := Lib.hid HS.out.drew
      refine wp_region_inv3 (act := ?actrv_r1_1) (Mod (fun _ => False)) (fun i => (rv_r1_1_F p g gn gk conn).getD i (fun _ _ => True)) (fun i => rv_r1_1_D.getD i []) (by kernel_rfl) (by kernel_rfl) (by kernel_rfl) (by kernel_rfl) (fun _ => Mod.refl _ _)
        (fun _ _ _ h k => h.trans k (fun _ _ e => e) (fun _ _ e => e)) ?hactrv_r1_1 (stable_list ?_) ?_ ?_
      case hactrv_r1_1 => intro vs; simp only [putAll, Nat.zero_add, Nat.reduceAdd, Act.put, List.setIfInBounds_toArray, List.set_cons_succ, List.set_cons_zero]; exact rfl
      · unfold rv_r1_1_F
        exact stable_cons (stable_val _) <| stable_cons (stable_val _) <| stable_cons (stable_val _) <| stable_cons (stable_val _) <| stable_cons (stable_val _) <| stable_cons (stable_val _) <| stable_cons (stable_val _) <| stable_cons (stable_val _) <| stable_cons (stable_val _) <| stable_cons (stable_val _) <| stable_cons (stable_val _) <| stable_cons (stable_val _) <| stable_cons (stable_val _) <| stable_cons (stable_val _) <| stable_cons (stable_val _) <| stable_cons (stable_val _) <| stable_cons (stable_val _) <| stable_cons (stable_val _) <| stable_cons (stable_val _) <| stable_cons (stable_val _) <| stable_cons (stable_val _) <| stable_nil
      · refine opsOkA_cons ?_ ?_
        · intro K vs W hR hD hK
          clear hD
          try dsimp only at hK ⊢
          simp only [Act.put, List.setIfInBounds_toArray, List.set_cons_succ, List.set_cons_zero] at hK
          go_wp2
          exact hK _ _ rfl (Mod.refl _ _)
        refine opsOkA_cons ?_ ?_
        · intro K vs W hR hD hK
          have dq0 : vs 0 = .pointer (some ⟨p, 0, none⟩) := hD 0 (by decide)
          clear hD
          try dsimp only at hK ⊢
          simp only [Act.put, List.setIfInBounds_toArray, List.set_cons_succ, List.set_cons_zero] at hK
          generalize vs 0 = vq0 at hK dq0 ⊢
          subst vq0
          go_wp2_with (go_at_call 34; refine (HG.out W ((HSd.out.at (hR)).2.2.2)).mono ?_; rintro e' w' ⟨rfl, rfl⟩)
          exact hK _ _ rfl (Mod.refl _ _)
        refine opsOkA_cons ?_ ?_
        · intro K vs W hR hD hK
          have dq1 : vs 1 = .bool false := hD 1 (by decide)
          clear hD
          try dsimp only at hK ⊢
          simp only [Act.put, List.setIfInBounds_toArray, List.set_cons_succ, List.set_cons_zero] at hK
          generalize vs 1 = vq1 at hK dq1 ⊢
          subst vq1
          go_wp2
          exact hK _ _ rfl (Mod.refl _ _)
        refine opsOkA_cons ?_ ?_
        · intro K vs W hR hD hK
          have dq2 : vs 2 = .bool false := hD 2 (by decide)
          clear hD
          try dsimp only at hK ⊢
          simp only [Act.put, List.setIfInBounds_toArray, List.set_cons_succ, List.set_cons_zero] at hK
          generalize vs 2 = vq2 at hK dq2 ⊢
          subst vq2
          go_wp2
          exact hK _ _ rfl (Mod.refl _ _)
        refine opsOkA_cons ?_ ?_
        · intro K vs W hR hD hK
          have dq2 : vs 2 = .bool false := hD 2 (by decide)
          have dq3 : vs 3 = .pointer (some ⟨g, 0, none⟩) := hD 3 (by decide)
          clear hD
          try dsimp only at hK ⊢
          simp only [Act.put, List.setIfInBounds_toArray, List.set_cons_succ, List.set_cons_zero] at hK
          generalize vs 2 = vq2 at hK dq2 ⊢
          subst vq2
          generalize vs 3 = vq3 at hK dq3 ⊢
          subst vq3
          have hc := (HSd.out.at (hR)).2.2.1
          go_wp2
          exact hK _ _ rfl (Mod.refl _ _)
        refine opsOkA_cons ?_ ?_
        · intro K vs W hR hD hK
          have dq2 : vs 2 = .bool false := hD 2 (by decide)
          clear hD
          try dsimp only at hK ⊢
          simp only [Act.put, List.setIfInBounds_toArray, List.set_cons_succ, List.set_cons_zero] at hK
          generalize vs 2 = vq2 at hK dq2 ⊢
          subst vq2
          go_wp2
          exact hK _ _ rfl (Mod.refl _ _)
        refine opsOkA_cons ?_ ?_
        · intro K vs W hR hD hK
          have dq2 : vs 2 = .bool false := hD 2 (by decide)
          have dq5 : vs 5 = .pointer (some ⟨p, 0, none⟩) := hD 5 (by decide)
          clear hD
          try dsimp only at hK ⊢
          simp only [Act.put, List.setIfInBounds_toArray, List.set_cons_succ, List.set_cons_zero] at hK
          generalize vs 2 = vq2 at hK dq2 ⊢
          subst vq2
          generalize vs 5 = vq5 at hK dq5 ⊢
          subst vq5
          go_wp2
          exact hK _ _ rfl (Mod.refl _ _)
        refine opsOkA_cons ?_ ?_
        · intro K vs W hR hD hK
          have dq2 : vs 2 = .bool false := hD 2 (by decide)
          have dq6 : vs 6 = .pointer (some ⟨p, 0, none⟩) := hD 6 (by decide)
          clear hD
          try dsimp only at hK ⊢
          simp only [Act.put, List.setIfInBounds_toArray, List.set_cons_succ, List.set_cons_zero] at hK
          generalize vs 2 = vq2 at hK dq2 ⊢
          subst vq2
          generalize vs 6 = vq6 at hK dq6 ⊢
          subst vq6
          go_wp2
          exact hK _ _ rfl (Mod.refl _ _)
        refine opsOkA_cons ?_ ?_
        · intro K vs W hR hD hK
          have dq2 : vs 2 = .bool false := hD 2 (by decide)
          have dq7 : vs 7 = .pointer (some ⟨p, 2, none⟩) := hD 7 (by decide)
          clear hD
          try dsimp only at hK ⊢
          simp only [Act.put, List.setIfInBounds_toArray, List.set_cons_succ, List.set_cons_zero] at hK
          generalize vs 2 = vq2 at hK dq2 ⊢
          subst vq2
          generalize vs 7 = vq7 at hK dq7 ⊢
          subst vq7
          have hc := (HSd.out.at (hR)).1
          go_wp2
          exact hK _ _ rfl (Mod.refl _ _)
        refine opsOkA_cons ?_ ?_
        · intro K vs W hR hD hK
          have dq2 : vs 2 = .bool false := hD 2 (by decide)
          have dq4 : vs 4 = .int .i64 gn := hD 4 (by decide)
          have dq8 : vs 8 = .int .i64 conn := hD 8 (by decide)
          clear hD
          try dsimp only at hK ⊢
          simp only [Act.put, List.setIfInBounds_toArray, List.set_cons_succ, List.set_cons_zero] at hK
          generalize vs 2 = vq2 at hK dq2 ⊢
          subst vq2
          generalize vs 4 = vq4 at hK dq4 ⊢
          subst vq4
          generalize vs 8 = vq8 at hK dq8 ⊢
          subst vq8
          go_wp2
          exact hK _ _ rfl (Mod.refl _ _)
        refine opsOkA_cons ?_ ?_
        · intro K vs W hR hD hK
          have dq2 : vs 2 = .bool false := hD 2 (by decide)
          have dq9 : vs 9 = .bool false := hD 9 (by decide)
          clear hD
          try dsimp only at hK ⊢
          simp only [Act.put, List.setIfInBounds_toArray, List.set_cons_succ, List.set_cons_zero] at hK
          generalize vs 2 = vq2 at hK dq2 ⊢
          subst vq2
          generalize vs 9 = vq9 at hK dq9 ⊢
          subst vq9
          go_wp2
          exact hK _ _ rfl (Mod.refl _ _)
        refine opsOkA_cons ?_ ?_
        · intro K vs W hR hD hK
          have dq10 : vs 10 = .bool false := hD 10 (by decide)
          clear hD
          try dsimp only at hK ⊢
          simp only [Act.put, List.setIfInBounds_toArray, List.set_cons_succ, List.set_cons_zero] at hK
          generalize vs 10 = vq10 at hK dq10 ⊢
          subst vq10
          go_wp2
          exact hK _ _ rfl (Mod.refl _ _)
        refine opsOkA_cons ?_ ?_
        · intro K vs W hR hD hK
          have dq11 : vs 11 = .bool false := hD 11 (by decide)
          clear hD
          try dsimp only at hK ⊢
          simp only [Act.put, List.setIfInBounds_toArray, List.set_cons_succ, List.set_cons_zero] at hK
          generalize vs 11 = vq11 at hK dq11 ⊢
          subst vq11
          go_wp2
          exact hK _ _ rfl (Mod.refl _ _)
        refine opsOkA_cons ?_ ?_
        · intro K vs W hR hD hK
          have dq11 : vs 11 = .bool false := hD 11 (by decide)
          have dq12 : vs 12 = .pointer (some ⟨g, 1, none⟩) := hD 12 (by decide)
          clear hD
          try dsimp only at hK ⊢
          simp only [Act.put, List.setIfInBounds_toArray, List.set_cons_succ, List.set_cons_zero] at hK
          generalize vs 11 = vq11 at hK dq11 ⊢
          subst vq11
          generalize vs 12 = vq12 at hK dq12 ⊢
          subst vq12
          have hc := (HSd.out.at (hR)).2.1
          go_wp2
          exact hK _ _ rfl (Mod.refl _ _)
        refine opsOkA_cons ?_ ?_
        · intro K vs W hR hD hK
          have dq11 : vs 11 = .bool false := hD 11 (by decide)
          have dq13 : vs 13 = .int .i64 gk := hD 13 (by decide)
          clear hD
          try dsimp only at hK ⊢
          simp only [Act.put, List.setIfInBounds_toArray, List.set_cons_succ, List.set_cons_zero] at hK
          generalize vs 11 = vq11 at hK dq11 ⊢
          subst vq11
          generalize vs 13 = vq13 at hK dq13 ⊢
          subst vq13
          go_wp2
          exact hK _ _ rfl (Mod.refl _ _)
        refine opsOkA_cons ?_ ?_
        · intro K vs W hR hD hK
          have dq11 : vs 11 = .bool false := hD 11 (by decide)
          have dq14 : vs 14 = .bool true := hD 14 (by decide)
          clear hD
          try dsimp only at hK ⊢
          simp only [Act.put, List.setIfInBounds_toArray, List.set_cons_succ, List.set_cons_zero] at hK
          generalize vs 11 = vq11 at hK dq11 ⊢
          subst vq11
          generalize vs 14 = vq14 at hK dq14 ⊢
          subst vq14
          go_wp2
          exact hK _ _ rfl (Mod.refl _ _)
        refine opsOkA_cons ?_ ?_
        · intro K vs W hR hD hK
          have dq15 : vs 15 = .bool true := hD 15 (by decide)
          clear hD
          try dsimp only at hK ⊢
          simp only [Act.put, List.setIfInBounds_toArray, List.set_cons_succ, List.set_cons_zero] at hK
          generalize vs 15 = vq15 at hK dq15 ⊢
          subst vq15
          go_wp2
          exact hK _ _ rfl (Mod.refl _ _)
        refine opsOkA_cons ?_ ?_
        · intro K vs W hR hD hK
          have dq15 : vs 15 = .bool true := hD 15 (by decide)
          have dq16 : vs 16 = .pointer (some ⟨g, 1, none⟩) := hD 16 (by decide)
          clear hD
          try dsimp only at hK ⊢
          simp only [Act.put, List.setIfInBounds_toArray, List.set_cons_succ, List.set_cons_zero] at hK
          generalize vs 15 = vq15 at hK dq15 ⊢
          subst vq15
          generalize vs 16 = vq16 at hK dq16 ⊢
          subst vq16
          have hc := (HSd.out.at (hR)).2.1
          go_wp2
          exact hK _ _ rfl (Mod.refl _ _)
        refine opsOkA_cons ?_ ?_
        · intro K vs W hR hD hK
          have dq15 : vs 15 = .bool true := hD 15 (by decide)
          have dq17 : vs 17 = .int .i64 gk := hD 17 (by decide)
          clear hD
          try dsimp only at hK ⊢
          simp only [Act.put, List.setIfInBounds_toArray, List.set_cons_succ, List.set_cons_zero] at hK
          generalize vs 15 = vq15 at hK dq15 ⊢
          subst vq15
          generalize vs 17 = vq17 at hK dq17 ⊢
          subst vq17
          go_wp2
          exact hK _ _ rfl (Mod.refl _ _)
        refine opsOkA_cons ?_ ?_
        · intro K vs W hR hD hK
          have dq11 : vs 11 = .bool false := hD 11 (by decide)
          have dq15 : vs 15 = .bool true := hD 15 (by decide)
          have dq18 : vs 18 = .bool true := hD 18 (by decide)
          clear hD
          try dsimp only at hK ⊢
          simp only [Act.put, List.setIfInBounds_toArray, List.set_cons_succ, List.set_cons_zero] at hK
          generalize vs 11 = vq11 at hK dq11 ⊢
          subst vq11
          generalize vs 15 = vq15 at hK dq15 ⊢
          subst vq15
          generalize vs 18 = vq18 at hK dq18 ⊢
          subst vq18
          go_wp2
          exact hK _ _ rfl (Mod.refl _ _)
        refine opsOkA_cons ?_ ?_
        · intro K vs W hR hD hK
          have dq11 : vs 11 = .bool false := hD 11 (by decide)
          have dq19 : vs 19 = .bool true := hD 19 (by decide)
          clear hD
          try dsimp only at hK ⊢
          simp only [Act.put, List.setIfInBounds_toArray, List.set_cons_succ, List.set_cons_zero] at hK
          generalize vs 11 = vq11 at hK dq11 ⊢
          subst vq11
          generalize vs 19 = vq19 at hK dq19 ⊢
          subst vq19
          go_wp2
          exact hK _ _ rfl (Mod.refl _ _)
        exact opsOkA_nil
      · intro vs wq2 hR hF
        have dq20 : vs 20 = .bool true := hF 20 (by decide)
        clear hF
        try dsimp only
        generalize vs 20 = vq20 at dq20 ⊢
        subst dq20
        replace HS := Lib.hid (HSd.out.step hR)
        clear HSd hR
        go_wp2_with fail
        go_ret2
        exact ⟨rfl, HMA.out.of2 (HS.out.now).2.2.2⟩
    case neg =>
      have y0 : (gn != conn) = true := by simpa using hn
      clear hno hn
      have HS : Hid (Ev (Mod (fun _ => False) wA) wA) := Lib.hid (Ev.mod wA)
      replace HS := Lib.hid ((Ev.cell g0).and HS.out)
      replace HS := Lib.hid ((Ev.cell g1).and HS.out)
      replace HS := Lib.hid ((Ev.cell c2).and HS.out)
      clear g0 g1 c2
      have HSd := Lib.hid HS.out.drew
      refine wp_region_inv3 (act := ?actrv_r1_2) (Mod (fun _ => False)) (fun i => (rv_r1_2_F p g gn conn).getD i (fun _ _ => True)) (fun i => rv_r1_2_D.getD i []) (by kernel_rfl) (by kernel_rfl) (by kernel_rfl) (by kernel_rfl) (fun _ => Mod.refl _ _)
        (fun _ _ _ h k => h.trans k (fun _ _ e => e) (fun _ _ e => e)) ?hactrv_r1_2 (stable_list ?_) ?_ ?_
      case hactrv_r1_2 => intro vs; simp only [putAll, Nat.zero_add, Nat.reduceAdd, Act.put, List.setIfInBounds_toArray, List.set_cons_succ, List.set_cons_zero]; exact rfl
      · unfold rv_r1_2_F
        exact stable_cons (stable_val _) <| stable_cons (stable_val _) <| stable_cons (stable_val _) <| stable_cons (stable_val _) <| stable_cons (stable_val _) <| stable_cons (stable_val _) <| stable_cons (stable_val _) <| stable_cons (stable_val _) <| stable_cons (stable_val _) <| stable_cons (stable_val _) <| stable_cons (stable_val _) <| stable_cons (stable_val _) <| stable_cons (stable_val _) <| stable_cons (stable_val _) <| stable_cons (stable_val _) <| stable_cons (stable_val _) <| stable_cons (stable_val _) <| stable_cons (stable_val _) <| stable_cons (stable_val _) <| stable_cons (stable_val _) <| stable_cons (stable_val _) <| stable_nil
      · refine opsOkA_cons ?_ ?_
        · intro K vs W hR hD hK
          clear hD
          try dsimp only at hK ⊢
          simp only [Act.put, List.setIfInBounds_toArray, List.set_cons_succ, List.set_cons_zero] at hK
          go_wp2
          exact hK _ _ rfl (Mod.refl _ _)
        refine opsOkA_cons ?_ ?_
        · intro K vs W hR hD hK
          have dq0 : vs 0 = .pointer (some ⟨p, 0, none⟩) := hD 0 (by decide)
          clear hD
          try dsimp only at hK ⊢
          simp only [Act.put, List.setIfInBounds_toArray, List.set_cons_succ, List.set_cons_zero] at hK
          generalize vs 0 = vq0 at hK dq0 ⊢
          subst vq0
          go_wp2_with (go_at_call 34; refine (HG.out W ((HSd.out.at (hR)).2.2.2)).mono ?_; rintro e' w' ⟨rfl, rfl⟩)
          exact hK _ _ rfl (Mod.refl _ _)
        refine opsOkA_cons ?_ ?_
        · intro K vs W hR hD hK
          have dq1 : vs 1 = .bool false := hD 1 (by decide)
          clear hD
          try dsimp only at hK ⊢
          simp only [Act.put, List.setIfInBounds_toArray, List.set_cons_succ, List.set_cons_zero] at hK
          generalize vs 1 = vq1 at hK dq1 ⊢
          subst vq1
          go_wp2
          exact hK _ _ rfl (Mod.refl _ _)
        refine opsOkA_cons ?_ ?_
        · intro K vs W hR hD hK
          have dq2 : vs 2 = .bool false := hD 2 (by decide)
          clear hD
          try dsimp only at hK ⊢
          simp only [Act.put, List.setIfInBounds_toArray, List.set_cons_succ, List.set_cons_zero] at hK
          generalize vs 2 = vq2 at hK dq2 ⊢
          subst vq2
          go_wp2
          exact hK _ _ rfl (Mod.refl _ _)
        refine opsOkA_cons ?_ ?_
        · intro K vs W hR hD hK
          have dq2 : vs 2 = .bool false := hD 2 (by decide)
          have dq3 : vs 3 = .pointer (some ⟨g, 0, none⟩) := hD 3 (by decide)
          clear hD
          try dsimp only at hK ⊢
          simp only [Act.put, List.setIfInBounds_toArray, List.set_cons_succ, List.set_cons_zero] at hK
          generalize vs 2 = vq2 at hK dq2 ⊢
          subst vq2
          generalize vs 3 = vq3 at hK dq3 ⊢
          subst vq3
          have hc := (HSd.out.at (hR)).2.2.1
          go_wp2
          exact hK _ _ rfl (Mod.refl _ _)
        refine opsOkA_cons ?_ ?_
        · intro K vs W hR hD hK
          have dq2 : vs 2 = .bool false := hD 2 (by decide)
          clear hD
          try dsimp only at hK ⊢
          simp only [Act.put, List.setIfInBounds_toArray, List.set_cons_succ, List.set_cons_zero] at hK
          generalize vs 2 = vq2 at hK dq2 ⊢
          subst vq2
          go_wp2
          exact hK _ _ rfl (Mod.refl _ _)
        refine opsOkA_cons ?_ ?_
        · intro K vs W hR hD hK
          have dq2 : vs 2 = .bool false := hD 2 (by decide)
          have dq5 : vs 5 = .pointer (some ⟨p, 0, none⟩) := hD 5 (by decide)
          clear hD
          try dsimp only at hK ⊢
          simp only [Act.put, List.setIfInBounds_toArray, List.set_cons_succ, List.set_cons_zero] at hK
          generalize vs 2 = vq2 at hK dq2 ⊢
          subst vq2
          generalize vs 5 = vq5 at hK dq5 ⊢
          subst vq5
          go_wp2
          exact hK _ _ rfl (Mod.refl _ _)
        refine opsOkA_cons ?_ ?_
        · intro K vs W hR hD hK
          have dq2 : vs 2 = .bool false := hD 2 (by decide)
          have dq6 : vs 6 = .pointer (some ⟨p, 0, none⟩) := hD 6 (by decide)
          clear hD
          try dsimp only at hK ⊢
          simp only [Act.put, List.setIfInBounds_toArray, List.set_cons_succ, List.set_cons_zero] at hK
          generalize vs 2 = vq2 at hK dq2 ⊢
          subst vq2
          generalize vs 6 = vq6 at hK dq6 ⊢
          subst vq6
          go_wp2
          exact hK _ _ rfl (Mod.refl _ _)
        refine opsOkA_cons ?_ ?_
        · intro K vs W hR hD hK
          have dq2 : vs 2 = .bool false := hD 2 (by decide)
          have dq7 : vs 7 = .pointer (some ⟨p, 2, none⟩) := hD 7 (by decide)
          clear hD
          try dsimp only at hK ⊢
          simp only [Act.put, List.setIfInBounds_toArray, List.set_cons_succ, List.set_cons_zero] at hK
          generalize vs 2 = vq2 at hK dq2 ⊢
          subst vq2
          generalize vs 7 = vq7 at hK dq7 ⊢
          subst vq7
          have hc := (HSd.out.at (hR)).1
          go_wp2
          exact hK _ _ rfl (Mod.refl _ _)
        refine opsOkA_cons ?_ ?_
        · intro K vs W hR hD hK
          have dq2 : vs 2 = .bool false := hD 2 (by decide)
          have dq4 : vs 4 = .int .i64 gn := hD 4 (by decide)
          have dq8 : vs 8 = .int .i64 conn := hD 8 (by decide)
          clear hD
          try dsimp only at hK ⊢
          simp only [Act.put, List.setIfInBounds_toArray, List.set_cons_succ, List.set_cons_zero] at hK
          generalize vs 2 = vq2 at hK dq2 ⊢
          subst vq2
          generalize vs 4 = vq4 at hK dq4 ⊢
          subst vq4
          generalize vs 8 = vq8 at hK dq8 ⊢
          subst vq8
          go_wp2
          exact hK _ _ rfl (Mod.refl _ _)
        refine opsOkA_cons ?_ ?_
        · intro K vs W hR hD hK
          have dq2 : vs 2 = .bool false := hD 2 (by decide)
          have dq9 : vs 9 = .bool true := hD 9 (by decide)
          clear hD
          try dsimp only at hK ⊢
          simp only [Act.put, List.setIfInBounds_toArray, List.set_cons_succ, List.set_cons_zero] at hK
          generalize vs 2 = vq2 at hK dq2 ⊢
          subst vq2
          generalize vs 9 = vq9 at hK dq9 ⊢
          subst vq9
          go_wp2
          exact hK _ _ rfl (Mod.refl _ _)
        refine opsOkA_cons ?_ ?_
        · intro K vs W hR hD hK
          have dq10 : vs 10 = .bool true := hD 10 (by decide)
          clear hD
          try dsimp only at hK ⊢
          simp only [Act.put, List.setIfInBounds_toArray, List.set_cons_succ, List.set_cons_zero] at hK
          generalize vs 10 = vq10 at hK dq10 ⊢
          subst vq10
          go_wp2
          exact hK _ _ rfl (Mod.refl _ _)
        refine opsOkA_cons ?_ ?_
        · intro K vs W hR hD hK
          have dq11 : vs 11 = .bool true := hD 11 (by decide)
          clear hD
          try dsimp only at hK ⊢
          simp only [Act.put, List.setIfInBounds_toArray, List.set_cons_succ, List.set_cons_zero] at hK
          generalize vs 11 = vq11 at hK dq11 ⊢
          subst vq11
          go_wp2
          exact hK _ _ rfl (Mod.refl _ _)
        refine opsOkA_cons ?_ ?_
        · intro K vs W hR hD hK
          have dq11 : vs 11 = .bool true := hD 11 (by decide)
          clear hD
          try dsimp only at hK ⊢
          simp only [Act.put, List.setIfInBounds_toArray, List.set_cons_succ, List.set_cons_zero] at hK
          generalize vs 11 = vq11 at hK dq11 ⊢
          subst vq11
          go_wp2
          exact hK _ _ rfl (Mod.refl _ _)
        refine opsOkA_cons ?_ ?_
        · intro K vs W hR hD hK
          have dq11 : vs 11 = .bool true := hD 11 (by decide)
          clear hD
          try dsimp only at hK ⊢
          simp only [Act.put, List.setIfInBounds_toArray, List.set_cons_succ, List.set_cons_zero] at hK
          generalize vs 11 = vq11 at hK dq11 ⊢
          subst vq11
          go_wp2
          exact hK _ _ rfl (Mod.refl _ _)
        refine opsOkA_cons ?_ ?_
        · intro K vs W hR hD hK
          have dq11 : vs 11 = .bool true := hD 11 (by decide)
          clear hD
          try dsimp only at hK ⊢
          simp only [Act.put, List.setIfInBounds_toArray, List.set_cons_succ, List.set_cons_zero] at hK
          generalize vs 11 = vq11 at hK dq11 ⊢
          subst vq11
          go_wp2
          exact hK _ _ rfl (Mod.refl _ _)
        refine opsOkA_cons ?_ ?_
        · intro K vs W hR hD hK
          have dq15 : vs 15 = undef := hD 15 (by decide)
          clear hD
          try dsimp only at hK ⊢
          simp only [Act.put, List.setIfInBounds_toArray, List.set_cons_succ, List.set_cons_zero] at hK
          generalize vs 15 = vq15 at hK dq15 ⊢
          subst vq15
          go_wp2
          exact hK _ _ rfl (Mod.refl _ _)
        refine opsOkA_cons ?_ ?_
        · intro K vs W hR hD hK
          have dq15 : vs 15 = undef := hD 15 (by decide)
          clear hD
          try dsimp only at hK ⊢
          simp only [Act.put, List.setIfInBounds_toArray, List.set_cons_succ, List.set_cons_zero] at hK
          generalize vs 15 = vq15 at hK dq15 ⊢
          subst vq15
          go_wp2
          exact hK _ _ rfl (Mod.refl _ _)
        refine opsOkA_cons ?_ ?_
        · intro K vs W hR hD hK
          have dq15 : vs 15 = undef := hD 15 (by decide)
          clear hD
          try dsimp only at hK ⊢
          simp only [Act.put, List.setIfInBounds_toArray, List.set_cons_succ, List.set_cons_zero] at hK
          generalize vs 15 = vq15 at hK dq15 ⊢
          subst vq15
          go_wp2
          exact hK _ _ rfl (Mod.refl _ _)
        refine opsOkA_cons ?_ ?_
        · intro K vs W hR hD hK
          have dq11 : vs 11 = .bool true := hD 11 (by decide)
          clear hD
          try dsimp only at hK ⊢
          simp only [Act.put, List.setIfInBounds_toArray, List.set_cons_succ, List.set_cons_zero] at hK
          generalize vs 11 = vq11 at hK dq11 ⊢
          subst vq11
          go_wp2
          exact hK _ _ rfl (Mod.refl _ _)
        refine opsOkA_cons ?_ ?_
        · intro K vs W hR hD hK
          have dq11 : vs 11 = .bool true := hD 11 (by decide)
          have dq19 : vs 19 = undef := hD 19 (by decide)
          clear hD
          try dsimp only at hK ⊢
          simp only [Act.put, List.setIfInBounds_toArray, List.set_cons_succ, List.set_cons_zero] at hK
          generalize vs 11 = vq11 at hK dq11 ⊢
          subst vq11
          generalize vs 19 = vq19 at hK dq19 ⊢
          subst vq19
          go_wp2
          exact hK _ _ rfl (Mod.refl _ _)
        exact opsOkA_nil
      · intro vs wq3 hR hF
        have dq20 : vs 20 = .bool true := hF 20 (by decide)
        clear hF
        try dsimp only
        generalize vs 20 = vq20 at dq20 ⊢
        subst dq20
        replace HS := Lib.hid (HSd.out.step hR)
        clear HSd hR
        go_wp2_with fail
        go_ret2
        exact ⟨rfl, HMA.out.of2 (HS.out.now).2.2.2⟩
end
theorem chowed_nil (w : World) : Calls Try.prog 21 #[.pointer none] w fun e w' => e = .returned (.int .i64 0) ∧ w = w' := by
  go_enter Try.func21, Try.ntmps21
  go_wp2_with fail
  go_ret
  exact ⟨rfl, rfl⟩
theorem chpass_nil (w : World) (now : Int) : Calls Try.prog 18 #[.pointer none, .int .i64 now] w fun e w' => e = .returned (.tuple #[.slice none 0 0, .int .i64 6]) ∧ w = w' := by
  go_enter Try.func18, Try.ntmps18
  go_wp2_with fail
  refine (chgone_nil w).mono ?_
  rintro e w' ⟨rfl, rfl⟩
  go_wp2_with fail
  go_ret2
  exact ⟨rfl, rfl⟩
theorem chpass_over {w : World} {p sp tp : Nat} {tb : Option Nat} {a : Option Addr} {c : Nat} {us : UdL} {kp kr : Nat} {ao : Option Addr} {co : Nat} {ou : UdL} {W B M R : Nat} {conn : Int} {x : ChS} (h : CHm w p sp tp tb a c us kp kr ao co ou W B M R conn x) (ho : x.o = true) (now : Int) : Calls Try.prog 18 #[.pointer (some ⟨p, 0, none⟩), .int .i64 now] w fun e w' => e = .returned (.tuple #[.slice none 0 0, .int .i64 6]) ∧ w = w' := by
  have hg := chgone_any h
  rw [ho] at hg
  have HG := Lib.hid hg
  clear h hg ho
  go_enter Try.func18, Try.ntmps18
  go_wp2_with fail
  refine HG.out.mono ?_
  rintro e w' ⟨rfl, rfl⟩
  go_wp2_with fail
  go_ret2
  exact ⟨rfl, rfl⟩
end Go.Proofs.Ytdahoecejnnjkaa
