/- GraphOrder walked. -/
import Derived.Test.YtnibokikmckfiaaOrd5
import Derived.Test.YtnibokikmckfiaaAwake5
import Derived.Test.YtnibokikmckfiaaRound
import Derived.Test.YtnibokikmckfiaaRegion2
import Derived.Deep.DeepCutAuto
import Derived.Deep.CutBlock
namespace Go.Proofs.Ytnibokikmckfiaa
open Go.RowKit Mile
/-- A row of the call's own in blocks from B0 on, of elements of two cells; an empty literal's has no room. -/
def OwnB (B0 n : Nat) (xs : List Value) : Value → World → Prop := fun v W => ∃ a c, v = .slice a n c ∧ (n = 0 → xs = [] → True) ∧ W.ownsRow B0 48 2 v n xs
def EmpB (B0 : Nat) : Value → World → Prop := fun v W => ∃ a, v = .slice a 0 0 ∧ W.ownsRow B0 48 2 v 0 []
def LitB (x : P2) : Value → World → Prop := fun v W => ∃ p, v = .slice (some ⟨p, 0, none⟩) 1 1 ∧ Rd W 2 v 1 (c2 x)
theorem OwnB.st {B0 n : Nat} {xs : List Value} : ∀ v w w', OwnB B0 n xs v w → Mod (fun _ => False) w w' → OwnB B0 n xs v w' := fun _ _ _ ⟨a, c, h, k, o⟩ m => ⟨a, c, h, k, Own.keep o m (fun _ _ e => e)⟩
theorem EmpB.st {B0 : Nat} : ∀ v w w', EmpB B0 v w → Mod (fun _ => False) w w' → EmpB B0 v w' := fun _ _ _ ⟨a, h, o⟩ m => ⟨a, h, Own.keep o m (fun _ _ e => e)⟩
theorem LitB.st {x : P2} : ∀ v w w', LitB x v w → Mod (fun _ => False) w w' → LitB x v w' := fun _ _ _ ⟨p, h, r⟩ m => ⟨p, h, r.keep m (fun _ _ e => e)⟩
/-- What each operation of the statement leaves. -/
def go_r4_0_F (bg kx ky n1 d1 n2 d2 n3 d3 : Nat) (va vb : Int) (a1 a2 a3 : Option Addr) : List (Value → World → Prop) :=
  [IsV (.int .i64 va),
   IsV (.pointer (some ⟨bg, 2, none⟩)),
   IsV (.slice a3 n3 d3),
   IsV (.int .i64 (n3 : Int)),
   IsV (.int .i64 ((n3 : Int) + 1)),
   IsV (.int .i64 (kx : Int)),
   IsV (.int .i64 vb),
   IsV (.pointer (some ⟨bg, 2, none⟩)),
   IsV (.slice a3 n3 d3),
   IsV (.int .i64 (n3 : Int)),
   IsV (.int .i64 ((n3 : Int) + 1)),
   IsV (.int .i64 (ky : Int)),
   IsV (.int .i64 (kx : Int)),
   IsV (.int .i64 (ky : Int))]
def go_r4_0_D : List (List Nat) := [[], [], [1], [2], [3], [0, 4], [], [], [7], [8], [9], [6, 10], [5], [11]]

/-- What each operation of the statement leaves. -/
def go_r16_1_F (B0 bg bz n1 d1 n2 d2 n3 d3 : Nat) (a1 a2 a3 : Option Addr) (G : GD) : List (Bool × (Value → World → Prop)) :=
  [(false, EmpB B0),
   (true, IsV (.pointer (some ⟨bg, 2, none⟩))),
   (true, IsV (.slice a3 n3 d3)),
   (false, OwnB B0 n3 (G.B.flatMap c2)),
   (true, IsV (.pointer (some ⟨bg, 1, none⟩))),
   (true, IsV (.slice a2 n2 d2)),
   (true, IsV (.int .i64 (n2 : Int))),
   (true, IsV (.agg #[.int .i64 0, .int .i64 (n2 : Int)])),
   (false, LitB (0, (n2 : Int))),
   (false, OwnB B0 (n3 + 1) ((G.B ++ [(0, (n2 : Int))]).flatMap c2)),
   (true, IsV (.pointer (some ⟨bz, 2, none⟩)))]
def go_r16_1_D : List (List Nat) := [[], [], [1], [0, 2], [], [4], [5], [6], [7], [3, 8], []]
def go_r16_1_C : List Nat := [3, 1000, 1000, 9, 1000, 1000, 1000, 1000, 9, 1000, 1000]

/-- What each operation of the statement leaves. -/
def go_r16_2_F (B0 bg bz n1 d1 n2 d2 n3 d3 : Nat) (a1 a2 a3 : Option Addr) (G : GD) : List (Bool × (Value → World → Prop)) :=
  [(false, EmpB B0),
   (true, IsV (.pointer (some ⟨bg, 2, none⟩))),
   (true, IsV (.slice a3 n3 d3)),
   (false, OwnB B0 n3 (G.B.flatMap c2)),
   (true, IsV (.pointer (some ⟨bg, 1, none⟩))),
   (true, IsV (.slice a2 n2 d2)),
   (true, IsV (.int .i64 (n2 : Int))),
   (true, IsV (.agg #[.int .i64 0, .int .i64 (n2 : Int)])),
   (false, LitB (0, (n2 : Int))),
   (false, OwnB B0 (n3 + 1) ((G.B ++ [(0, (n2 : Int))]).flatMap c2)),
   (true, IsV (.pointer (some ⟨bz, 2, none⟩)))]
def go_r16_2_D : List (List Nat) := [[], [], [1], [0, 2], [], [4], [5], [6], [7], [3, 8], []]
def go_r16_2_C : List Nat := [3, 1000, 1000, 9, 1000, 1000, 1000, 1000, 9, 1000, 1000]

/-- What each operation of the statement leaves. -/
def go_r8_3_F (bg bo rb rc kx ky ox oy x1b x1o x2b x2o n1 d1 n2 d2 n3 d3 : Nat) (u1 v1 u2 v2 : Int) (a1 a2 a3 : Option Addr) (tgt : List Value) : List (Value → World → Prop) :=
  [IsV (.pointer (some ⟨bo, 2, none⟩)),
   IsV (.slice (some ⟨rb, 0, none⟩) n3 rc),
   IsV (.int .i64 (kx : Int)),
   IsV (.pointer (some ⟨bo, 2, none⟩)),
   IsV (.slice (some ⟨rb, 0, none⟩) n3 rc),
   IsV (.int .i64 (ky : Int)),
   IsV (.pointer (some ⟨bg, 2, none⟩)),
   IsV (.slice a3 n3 d3),
   IsV (.int .i64 (ky : Int)),
   IsV (.pointer (some ⟨x2b, x2o, none⟩)),
   IsV (.agg #[.int .i64 u2, .int .i64 v2]),
   IsV (.pointer (some ⟨bg, 2, none⟩)),
   IsV (.slice a3 n3 d3),
   IsV (.int .i64 (kx : Int)),
   IsV (.pointer (some ⟨x1b, x1o, none⟩)),
   IsV (.agg #[.int .i64 u1, .int .i64 v1]),
   IsV (.pointer (some ⟨rb, ox, none⟩)),
   (Placed2 rb 48 tgt ox),
   IsV (.pointer (some ⟨rb, oy, none⟩)),
   (Placed2 rb 48 tgt oy)]
def go_r8_3_D : List (List Nat) := [[], [0], [], [], [3], [], [], [6], [], [7, 8], [9], [], [11], [], [12, 13], [14], [1, 2], [10, 16], [4, 5], [15, 18]]

/-- What each operation of the statement leaves. -/
def go_r16_4_F (B0 bg bz n1 d1 n2 d2 n3 d3 : Nat) (a1 a2 a3 : Option Addr) (G : GD) : List (Bool × (Value → World → Prop)) :=
  [(false, EmpB B0),
   (true, IsV (.pointer (some ⟨bg, 2, none⟩))),
   (true, IsV (.slice a3 n3 d3)),
   (false, OwnB B0 n3 (G.B.flatMap c2)),
   (true, IsV (.pointer (some ⟨bg, 1, none⟩))),
   (true, IsV (.slice a2 n2 d2)),
   (true, IsV (.int .i64 (n2 : Int))),
   (true, IsV (.agg #[.int .i64 0, .int .i64 (n2 : Int)])),
   (false, LitB (0, (n2 : Int))),
   (false, OwnB B0 (n3 + 1) ((G.B ++ [(0, (n2 : Int))]).flatMap c2)),
   (true, IsV (.pointer (some ⟨bz, 2, none⟩)))]
def go_r16_4_D : List (List Nat) := [[], [], [1], [0, 2], [], [4], [5], [6], [7], [3, 8], []]
def go_r16_4_C : List Nat := [3, 1000, 1000, 9, 1000, 1000, 1000, 1000, 9, 1000, 1000]

/-- What each operation of the statement leaves. -/
def go_r16_5_F (B0 bg bz n1 d1 n2 d2 n3 d3 : Nat) (a1 a2 a3 : Option Addr) (G : GD) : List (Bool × (Value → World → Prop)) :=
  [(false, EmpB B0),
   (true, IsV (.pointer (some ⟨bg, 2, none⟩))),
   (true, IsV (.slice a3 n3 d3)),
   (false, OwnB B0 n3 (G.B.flatMap c2)),
   (true, IsV (.pointer (some ⟨bg, 1, none⟩))),
   (true, IsV (.slice a2 n2 d2)),
   (true, IsV (.int .i64 (n2 : Int))),
   (true, IsV (.agg #[.int .i64 0, .int .i64 (n2 : Int)])),
   (false, LitB (0, (n2 : Int))),
   (false, OwnB B0 (n3 + 1) ((G.B ++ [(0, (n2 : Int))]).flatMap c2)),
   (true, IsV (.pointer (some ⟨bz, 2, none⟩)))]
def go_r16_5_D : List (List Nat) := [[], [], [1], [0, 2], [], [4], [5], [6], [7], [3, 8], []]
def go_r16_5_C : List Nat := [3, 1000, 1000, 9, 1000, 1000, 1000, 1000, 9, 1000, 1000]

set_option maxHeartbeats 64000000 in
set_option maxRecDepth 100000 in
theorem gorder_all (w : World) (a0 : Option Addr) (m c0 : Nat) (l : List Int) (hm : l.length = m) (hr : Rd w 1 (.slice a0 m c0) m (l.map (Value.int .i64))) (va vb : Int) :
    Calls Try.prog 6 #[.slice a0 m c0, .int .i64 va, .int .i64 vb] w fun e w' => e = .returned (.bool true) ∧ Mod (fun _ => False) w w' := by
  obtain ⟨iE, hiE, hzE, hsE, hbE⟩ := info_parts GR.infoE
  obtain ⟨iB, hiB, hzB, hsB, hbB⟩ := info_parts GR.infoB
  by_cases hlen : m ≤ 100
  case neg =>
    have HS : Hid (Ev (Mod (fun _ => False) w) w) := Lib.hid (Ev.mod w)
    have z0 : decide (100 < (m : Int)) = true := by simp; omega
    have z1 : decide (100 < m) = true := by simp; omega
    go_enter Try.func6, Try.ntmps6
    go_wp2_with fail
    refine (awake_any _).mono ?_
    rintro e wq1 ⟨rfl, hm⟩
    replace HS := Lib.hid (HS.out.step hm)
    clear hm
    go_wp2_with fail
    go_ret
    exact ⟨rfl, HS.out.now⟩
  have HS : Hid (Ev (Mod (fun _ => False) w) w) := Lib.hid (Ev.mod w)
  replace HS := Lib.hid ((Ev.rd hr).and HS.out)
  have z0 : decide (100 < (m : Int)) = false := by simp; omega
  have z1 : decide (100 < m) = false := by simp; omega
  go_enter Try.func6, Try.ntmps6
  go_wp2_with fail
  refine (town_gv _ a0 m c0 l hm ((HS.out.now).1)).mono ?_
  rintro e wq2 ⟨a1, n1, d1, a2, n2, d2, a3, n3, d3, rfl, hg, hmm⟩
  replace HS := Lib.hid (HS.out.step hmm)
  clear hmm
  replace HS := Lib.hid ((Ev.gv hg).and HS.out)
  clear hg z0 z1
  have hmay := Lib.hid (town_may l)
  have hfew := Lib.hid (town_few l)
  obtain ⟨G, hG⟩ : ∃ G, townG l = G := ⟨_, rfl⟩
  rw [hG] at hmay hfew
  rw [hG] at HS
  clear hG
  have hn := Lib.hid ((HS.out.now).1.n)
  have he := Lib.hid ((HS.out.now).1.e)
  have hb := Lib.hid ((HS.out.now).1.b)
  have h1n : 0 < n1 ∧ n1 ≤ 16 := by have := hfew.out.1; have := hn.out; omega
  have h2n : 0 < n2 ∧ n2 ≤ 67 := by have := hfew.out.2.1; have := he.out; omega
  have h3n : n3 ≤ 469 := by have := hfew.out.2.2; have := hb.out; omega
  go_wp2_with fail
  obtain ⟨bg, hbg⟩ : ∃ b, wq2.heap.size = b := ⟨_, rfl⟩
  obtain ⟨wq3, hwq3⟩ : ∃ W, World.alloc wq2 (.cells #[.slice a1 n1 d1, .slice a2 n2 d2, .slice a3 n3 d3] 26) = W := ⟨_, rfl⟩
  have hBbg : Blk wq3 bg 26 [.slice a1 n1 d1, .slice a2 n2 d2, .slice a3 n3 d3] := by rw [← hwq3, ← hbg]; exact Blk.new _ 26 [.slice a1 n1 d1, .slice a2 n2 d2, .slice a3 n3 d3]
  have hzbg : wq3.heap.size = bg + 1 := by rw [← hwq3, ← hbg]; exact heap_size_alloc _ _
  replace HS := Lib.hid (HS.out.step (w' := wq3) (by rw [← hwq3]; exact Mod.alloc _ _ _))
  replace HS := Lib.hid ((Ev.blk hBbg).and HS.out)
  try rw [hwq3]
  try rw [hbg]
  clear hzbg hBbg hbg hwq3
  obtain ⟨kx, hvi⟩ := Int.eq_ofNat_of_zero_le (Int.emod_nonneg va (show (n3 : Int) + 1 ≠ 0 by omega))
  obtain ⟨ky, hvk⟩ := Int.eq_ofNat_of_zero_le (Int.emod_nonneg vb (show (n3 : Int) + 1 ≠ 0 by omega))
  have hkx : kx ≤ n3 := by have := Int.emod_lt_of_pos va (show 0 < (n3 : Int) + 1 by omega); omega
  have hky : ky ≤ n3 := by have := Int.emod_lt_of_pos vb (show 0 < (n3 : Int) + 1 by omega); omega
  have HVI := Lib.hid hvi
  have HVK := Lib.hid hvk
  clear hvi hvk
  go_upto_region 4 with fail
  have HSd := Lib.hid HS.out.drew
  refine wp_region_inv3 (act := ?actgo_r4_0) (Mod (fun _ => False)) (fun i => (go_r4_0_F bg kx ky n1 d1 n2 d2 n3 d3 va vb a1 a2 a3).getD i (fun _ _ => True)) (fun i => go_r4_0_D.getD i []) (by kernel_rfl) (by kernel_rfl) (by kernel_rfl) (by kernel_rfl) (fun _ => Mod.refl _ _)
    (fun _ _ _ h k => h.trans k (fun _ _ e => e) (fun _ _ e => e)) ?hactgo_r4_0 (stable_list ?_) ?_ ?_
  case hactgo_r4_0 => intro vs; simp only [putAll, Nat.zero_add, Nat.reduceAdd, Act.put, List.setIfInBounds_toArray, List.set_cons_succ, List.set_cons_zero]; exact rfl
  · unfold go_r4_0_F
    exact stable_cons (stable_val _) <| stable_cons (stable_val _) <| stable_cons (stable_val _) <| stable_cons (stable_val _) <| stable_cons (stable_val _) <| stable_cons (stable_val _) <| stable_cons (stable_val _) <| stable_cons (stable_val _) <| stable_cons (stable_val _) <| stable_cons (stable_val _) <| stable_cons (stable_val _) <| stable_cons (stable_val _) <| stable_cons (stable_val _) <| stable_cons (stable_val _) <| stable_nil
  · refine opsOkA_cons ?_ ?_
    · intro K vs W hR hD hK
      clear hD
      try dsimp only at hK ⊢
      simp only [Act.put, List.setIfInBounds_toArray, List.set_cons_succ, List.set_cons_zero] at hK
      go_wp2
      exact hK _ _ rfl (Mod.refl _ _)
    refine opsOkA_cons ?_ ?_
    · intro K vs W hR hD hK
      clear hD
      try dsimp only at hK ⊢
      simp only [Act.put, List.setIfInBounds_toArray, List.set_cons_succ, List.set_cons_zero] at hK
      go_wp2
      exact hK _ _ rfl (Mod.refl _ _)
    refine opsOkA_cons ?_ ?_
    · intro K vs W hR hD hK
      have d1 : vs 1 = .pointer (some ⟨bg, 2, none⟩) := hD 1 (by decide)
      clear hD
      try dsimp only at hK ⊢
      simp only [Act.put, List.setIfInBounds_toArray, List.set_cons_succ, List.set_cons_zero] at hK
      generalize vs 1 = v1 at hK d1 ⊢
      subst v1
      have q0 := ((HSd.out.at (hR)).1).cell 2 rfl
      go_wp2
      exact hK _ _ rfl (Mod.refl _ _)
    refine opsOkA_cons ?_ ?_
    · intro K vs W hR hD hK
      have d2 : vs 2 = .slice a3 n3 d3 := hD 2 (by decide)
      clear hD
      try dsimp only at hK ⊢
      simp only [Act.put, List.setIfInBounds_toArray, List.set_cons_succ, List.set_cons_zero] at hK
      generalize vs 2 = v2 at hK d2 ⊢
      subst v2
      go_wp2_with fail
      exact hK _ _ rfl (Mod.refl _ _)
    refine opsOkA_cons ?_ ?_
    · intro K vs W hR hD hK
      have d3 : vs 3 = .int .i64 (n3 : Int) := hD 3 (by decide)
      clear hD
      try dsimp only at hK ⊢
      simp only [Act.put, List.setIfInBounds_toArray, List.set_cons_succ, List.set_cons_zero] at hK
      generalize vs 3 = v3 at hK d3 ⊢
      subst v3
      go_wp2
      exact hK _ _ rfl (Mod.refl _ _)
    refine opsOkA_cons ?_ ?_
    · intro K vs W hR hD hK
      have d0 : vs 0 = .int .i64 va := hD 0 (by decide)
      have d4 : vs 4 = .int .i64 ((n3 : Int) + 1) := hD 4 (by decide)
      clear hD
      try dsimp only at hK ⊢
      simp only [Act.put, List.setIfInBounds_toArray, List.set_cons_succ, List.set_cons_zero] at hK
      generalize vs 0 = v0 at hK d0 ⊢
      subst v0
      generalize vs 4 = v4 at hK d4 ⊢
      subst v4
      go_wp2_with (go_at_call 26; refine (round_any va ((n3 : Int) + 1) W (by omega) (by omega)).mono ?_; rintro e' w' ⟨rfl, rfl⟩; rw [HVI.out])
      exact hK _ _ rfl (Mod.refl _ _)
    refine opsOkA_cons ?_ ?_
    · intro K vs W hR hD hK
      clear hD
      try dsimp only at hK ⊢
      simp only [Act.put, List.setIfInBounds_toArray, List.set_cons_succ, List.set_cons_zero] at hK
      go_wp2
      exact hK _ _ rfl (Mod.refl _ _)
    refine opsOkA_cons ?_ ?_
    · intro K vs W hR hD hK
      clear hD
      try dsimp only at hK ⊢
      simp only [Act.put, List.setIfInBounds_toArray, List.set_cons_succ, List.set_cons_zero] at hK
      go_wp2
      exact hK _ _ rfl (Mod.refl _ _)
    refine opsOkA_cons ?_ ?_
    · intro K vs W hR hD hK
      have d7 : vs 7 = .pointer (some ⟨bg, 2, none⟩) := hD 7 (by decide)
      clear hD
      try dsimp only at hK ⊢
      simp only [Act.put, List.setIfInBounds_toArray, List.set_cons_succ, List.set_cons_zero] at hK
      generalize vs 7 = v7 at hK d7 ⊢
      subst v7
      have q0 := ((HSd.out.at (hR)).1).cell 2 rfl
      go_wp2
      exact hK _ _ rfl (Mod.refl _ _)
    refine opsOkA_cons ?_ ?_
    · intro K vs W hR hD hK
      have d8 : vs 8 = .slice a3 n3 d3 := hD 8 (by decide)
      clear hD
      try dsimp only at hK ⊢
      simp only [Act.put, List.setIfInBounds_toArray, List.set_cons_succ, List.set_cons_zero] at hK
      generalize vs 8 = v8 at hK d8 ⊢
      subst v8
      go_wp2_with fail
      exact hK _ _ rfl (Mod.refl _ _)
    refine opsOkA_cons ?_ ?_
    · intro K vs W hR hD hK
      have d9 : vs 9 = .int .i64 (n3 : Int) := hD 9 (by decide)
      clear hD
      try dsimp only at hK ⊢
      simp only [Act.put, List.setIfInBounds_toArray, List.set_cons_succ, List.set_cons_zero] at hK
      generalize vs 9 = v9 at hK d9 ⊢
      subst v9
      go_wp2
      exact hK _ _ rfl (Mod.refl _ _)
    refine opsOkA_cons ?_ ?_
    · intro K vs W hR hD hK
      have d6 : vs 6 = .int .i64 vb := hD 6 (by decide)
      have d10 : vs 10 = .int .i64 ((n3 : Int) + 1) := hD 10 (by decide)
      clear hD
      try dsimp only at hK ⊢
      simp only [Act.put, List.setIfInBounds_toArray, List.set_cons_succ, List.set_cons_zero] at hK
      generalize vs 6 = v6 at hK d6 ⊢
      subst v6
      generalize vs 10 = v10 at hK d10 ⊢
      subst v10
      go_wp2_with (go_at_call 26; refine (round_any vb ((n3 : Int) + 1) W (by omega) (by omega)).mono ?_; rintro e' w' ⟨rfl, rfl⟩; rw [HVK.out])
      exact hK _ _ rfl (Mod.refl _ _)
    refine opsOkA_cons ?_ ?_
    · intro K vs W hR hD hK
      have d5 : vs 5 = .int .i64 (kx : Int) := hD 5 (by decide)
      clear hD
      try dsimp only at hK ⊢
      simp only [Act.put, List.setIfInBounds_toArray, List.set_cons_succ, List.set_cons_zero] at hK
      generalize vs 5 = v5 at hK d5 ⊢
      subst v5
      go_wp2
      exact hK _ _ rfl (Mod.refl _ _)
    refine opsOkA_cons ?_ ?_
    · intro K vs W hR hD hK
      have d11 : vs 11 = .int .i64 (ky : Int) := hD 11 (by decide)
      clear hD
      try dsimp only at hK ⊢
      simp only [Act.put, List.setIfInBounds_toArray, List.set_cons_succ, List.set_cons_zero] at hK
      generalize vs 11 = v11 at hK d11 ⊢
      subst v11
      go_wp2
      exact hK _ _ rfl (Mod.refl _ _)
    exact opsOkA_nil
  · intro vs wq4 hR hF
    have d12 : vs 12 = .int .i64 (kx : Int) := hF 12 (by decide)
    have d13 : vs 13 = .int .i64 (ky : Int) := hF 13 (by decide)
    clear hF
    try dsimp only
    generalize vs 12 = v12 at d12 ⊢
    subst d12
    generalize vs 13 = v13 at d13 ⊢
    subst d13
    replace HS := Lib.hid (HSd.out.step hR)
    clear HSd hR
    have hbbg := (HS.out.now).1
    have qbg_0 := hbbg.cell 0 rfl
    have qbg_1 := hbbg.cell 1 rfl
    have qbg_2 := hbbg.cell 2 rfl
    have lbg := hbbg.lt
    clear hbbg
    have hcase : ¬ (kx < n3 ∧ ky < n3) ∨ (kx < n3 ∧ ky < n3) := by omega
    by_cases hkk : kx < n3 ∧ ky < n3
    case neg =>
      have hd : ¬ kx < n3 ∨ (kx < n3 ∧ ¬ ky < n3) := by omega
      clear hkk hcase
      rcases hd with z3 | ⟨z3, z4⟩
      · skip
        have z5 : decide (kx < n3) = false := by simp; omega
        clear qbg_0 qbg_1 qbg_2 lbg
        have hbbg := (HS.out.now).1
        have qbg_0 := hbbg.cell 0 rfl
        have qbg_1 := hbbg.cell 1 rfl
        have qbg_2 := hbbg.cell 2 rfl
        have lbg := hbbg.lt
        clear hbbg
        go_upto_region 13 with fail
        have HSP := HS
        replace HS := Lib.hid ((Ev.mod wq4).and HS.out)
        clear qbg_0 qbg_1 qbg_2 lbg
        obtain ⟨bq, hbq⟩ : ∃ b, wq4.heap.size = b := ⟨_, rfl⟩
        obtain ⟨wq5, hwq5⟩ : ∃ W, World.alloc wq4 (.cells #[.slice a1 n1 d1, .slice a2 n2 d2, .slice a3 n3 d3] 26) = W := ⟨_, rfl⟩
        have hBbq : Blk wq5 bq 26 [.slice a1 n1 d1, .slice a2 n2 d2, .slice a3 n3 d3] := by rw [← hwq5, ← hbq]; exact Blk.new _ 26 [.slice a1 n1 d1, .slice a2 n2 d2, .slice a3 n3 d3]
        have hzbq : wq5.heap.size = bq + 1 := by rw [← hwq5, ← hbq]; exact heap_size_alloc _ _
        replace HS := Lib.hid (HS.out.step (w' := wq5) (by rw [← hwq5]; exact Mod.alloc _ _ _))
        replace HS := Lib.hid ((Ev.blk hBbq).and HS.out)
        have lbq : wq4.heap.size ≤ bq := by omega
        try rw [hwq5]
        try rw [hbq]
        clear hzbq hBbq hbq hwq5
        have hbbg := (HS.out.now).2.2.1
        have qbg_0 := hbbg.cell 0 rfl
        have qbg_1 := hbbg.cell 1 rfl
        have qbg_2 := hbbg.cell 2 rfl
        have lbg := hbbg.lt
        clear hbbg
        have hbbq := (HS.out.now).1
        have qbq_0 := hbbq.cell 0 rfl
        have qbq_1 := hbbq.cell 1 rfl
        have qbq_2 := hbbq.cell 2 rfl
        have lbq := hbbq.lt
        clear hbbq
        have hre := (HS.out.now).2.2.2.1.re
        have hbq := (HS.out.now).1
        have hbg := (HS.out.now).2.2.1
        have lB : bq < wq5.heap.size := hbq.lt
        have HRE := Lib.hid hre
        have HBQ := Lib.hid hbq
        have HBG := Lib.hid hbg
        clear hre hbq hbg
        clear qbg_0 qbg_1 qbg_2 lbg qbq_0 qbq_1 qbq_2 lbq
        have qg0 := HBG.out.cell 1 rfl
        have lg0 := HBG.out.lt
        go_wp2_with (first | (at_builtin; refine wpList_append_any rfl (.tmp 85) (.tmp 87) 23 rfl 41 iE (.agg #[.int .i64 0, .int .i64 0, .int .i64 0]) 3 24 Try.underlying23 hiE hzE hsE hbE rfl (by decide) _ 0 [] rfl (own_empty _ _ _ _ rfl) _ n2 (G.E.flatMap c3) rfl (HRE.out.alloc _) (one3 _) (by unfold maxLen; omega) (by omega) ?_; intro v4 w4 hap; obtain ⟨a4, c4, rfl⟩ := hap.form; have ho4 := hap.own; have lo4 := hap.low (B := wq5.heap.size) (by simp) (low_lit (Nat.le_refl _)); have hm4 := hap.modOld (Mod.alloc (fun _ => False) wq5 _) (low_lit (Nat.le_refl _)); simp only [Nat.zero_add, List.nil_append] at ho4 lo4; have qa := ((HBQ.out.keep hm4 (fun e => e)).cell 1 rfl); have qb := ((HBQ.out.keep hm4 (fun e => e)).free 1); have qg := ((HBG.out.keep hm4 (fun e => e)).cell 1 rfl); have lq : bq < w4.heap.size := (HBQ.out.keep hm4 (fun e => e)).lt; clear hap) | (at_builtin; refine wpList_append_any rfl (.tmp 88) (.tmp 90) 23 rfl 41 iE (.agg #[.int .i64 0, .int .i64 0, .int .i64 0]) 3 24 Try.underlying23 hiE hzE hsE hbE rfl (by decide) _ n2 _ rfl (World.ownsRow.alloc ho4 _) _ 1 (c3 (0, 0, 1)) rfl (Rd.litN _ 3 _ _ _ 1 rfl rfl (by decide)) (by intro u hu; simp [c3] at hu; rcases hu with rfl | rfl <;> rfl) (by unfold maxLen; omega) (by omega) ?_; intro v5 w5 hap; obtain ⟨a5, c5, rfl⟩ := hap.form; have ho5 := hap.own; have lo5 := hap.low (B := wq5.heap.size) (by have := hm4.size; simp; omega) lo4; have hm5 := hap.modOld (hm4.thenAlloc _) lo4; have qa5 := ((HBQ.out.keep hm5 (fun e => e)).cell 1 rfl); have qb5 := ((HBQ.out.keep hm5 (fun e => e)).free 1); have qc5 := ((HBQ.out.keep hm5 (fun e => e)).cell 0 rfl); have qd5 := ((HBQ.out.keep hm5 (fun e => e)).cell 2 rfl); have lq5 : bq < w5.heap.size := (HBQ.out.keep hm5 (fun e => e)).lt; clear hap))
        obtain ⟨ws, hws⟩ : ∃ W, World.setCell w5 ⟨bq, 1, none⟩ (.slice a5 (n2 + 1) c5) = W := ⟨_, rfl⟩
        rw [hws]
        have k1 : Mod (fun _ => False) wq4 ws := by rw [← hws]; exact (((HS.out.now).2.1).of2 hm5).old (Mod.setCell (F := fun k => k = bq) _ ⟨bq, 1, none⟩ _ rfl) (fun i hi => by subst hi; exact lbq)
        have k2 : Blk ws bq 26 [.slice a1 n1 d1, .slice a5 (n2 + 1) c5, .slice a3 n3 d3] := by rw [← hws]; exact (HBQ.out.keep hm5 (fun e => e)).set 1 _
        have k3 : ws.ownsRow 0 41 3 (.slice a5 (n2 + 1) c5) (n2 + 1) ((G.E ++ [(0, 0, 1)]).flatMap c3) := by rw [← hws, c3_snoc']; exact Own.keep ho5 (Mod.setCell (F := fun k => k = bq) _ ⟨bq, 1, none⟩ _ rfl) (fun k hk e => by have := lo5 k hk; omega)
        replace HS := Lib.hid ((Ev.blk k2).and ((Ev.own k3).and (HSP.out.step k1)))
        clear k1 k2 k3 hws HSP qa qb qg lq qa5 qb5 qc5 qd5 lq5 ho4 lo4 hm4 ho5 lo5 hm5 HRE HBQ HBG qg0 lg0
        have hbbg := (HS.out.now).2.2.1
        have qbg_0 := hbbg.cell 0 rfl
        have qbg_1 := hbbg.cell 1 rfl
        have qbg_2 := hbbg.cell 2 rfl
        have lbg := hbbg.lt
        clear hbbg
        have hbbq := (HS.out.now).1
        have qbq_0 := hbbq.cell 0 rfl
        have qbq_1 := hbbq.cell 1 rfl
        have qbq_2 := hbbq.cell 2 rfl
        have lbq := hbbq.lt
        clear hbbq
        refine (new_ok ⟨G.N, G.E ++ [(0, 0, 1)], G.B⟩ (may_edge hmay.out (by have := hfew.out.1; omega) (by have := hfew.out.2.1; omega)) _ a1 n1 d1 a5 (n2 + 1) c5 a3 n3 d3 ⟨hn.out, by simp [he.out], hb.out, (HS.out.now).2.2.2.1.rn, Rd.ofOwn ((HS.out.now).2.1), (HS.out.now).2.2.2.1.rb⟩).mono ?_
        rintro e wq6 ⟨p2, B2, C2, rfl, hgo, hmm⟩
        replace HS := Lib.hid (HS.out.step hmm)
        clear hmm
        clear qbg_0 qbg_1 qbg_2 lbg qbq_0 qbq_1 qbq_2 lbq
        have hbbg := (HS.out.now).2.2.1
        have qbg_0 := hbbg.cell 0 rfl
        have qbg_1 := hbbg.cell 1 rfl
        have qbg_2 := hbbg.cell 2 rfl
        have lbg := hbbg.lt
        clear hbbg
        have hbbq := (HS.out.now).1
        have qbq_0 := hbbq.cell 0 rfl
        have qbq_1 := hbbq.cell 1 rfl
        have qbq_2 := hbbq.cell 2 rfl
        have lbq := hbbq.lt
        clear hbbq
        clear hgo
        clear qbg_0 qbg_1 qbg_2 lbg qbq_0 qbq_1 qbq_2 lbq
        have hbbg := (HS.out.now).2.2.1
        have qbg_0 := hbbg.cell 0 rfl
        have qbg_1 := hbbg.cell 1 rfl
        have qbg_2 := hbbg.cell 2 rfl
        have lbg := hbbg.lt
        clear hbbg
        go_upto_region 16 with fail
        have HSP := HS
        replace HS := Lib.hid ((Ev.mod wq6).and HS.out)
        clear qbg_0 qbg_1 qbg_2 lbg
        obtain ⟨bz, hbz⟩ : ∃ b, wq6.heap.size = b := ⟨_, rfl⟩
        obtain ⟨wq7, hwq7⟩ : ∃ W, World.alloc wq6 (.cells #[.slice a1 n1 d1, .slice a2 n2 d2, .slice a3 n3 d3] 26) = W := ⟨_, rfl⟩
        have hBbz : Blk wq7 bz 26 [.slice a1 n1 d1, .slice a2 n2 d2, .slice a3 n3 d3] := by rw [← hwq7, ← hbz]; exact Blk.new _ 26 [.slice a1 n1 d1, .slice a2 n2 d2, .slice a3 n3 d3]
        have hzbz : wq7.heap.size = bz + 1 := by rw [← hwq7, ← hbz]; exact heap_size_alloc _ _
        replace HS := Lib.hid (HS.out.step (w' := wq7) (by rw [← hwq7]; exact Mod.alloc _ _ _))
        replace HS := Lib.hid ((Ev.blk hBbz).and HS.out)
        have lbz : wq6.heap.size ≤ bz := by omega
        try rw [hwq7]
        try rw [hbz]
        clear hzbz hBbz hbz hwq7
        obtain ⟨B0, hB0⟩ : ∃ n, wq7.heap.size = n := ⟨_, rfl⟩
        have lzB : bz < B0 := by rw [← hB0]; exact ((HS.out.now).1).lt
        have HB0 := Lib.hid hB0
        clear hB0
        have HOLD : Hid (∀ W, Mod (fun k => B0 ≤ k) (World.drew wq7) W → Mod (fun _ => False) (World.drew wq7) W) := Lib.hid fun W h => h.mono (fun i hi e => by have := HB0.out; simp at hi; omega)
        have HSd0 := HS
        go_upto_region 16 with fail
        have HSd := Lib.hid HS.out.drew
        have HST : ∀ (ix : Nat) (vx : Value) (wx wy : World), factOf (go_r16_1_F B0 bg bz n1 d1 n2 d2 n3 d3 a1 a2 a3 G) ix vx wx → Mod (fun _ => False) wx wy → factOf (go_r16_1_F B0 bg bz n1 d1 n2 d2 n3 d3 a1 a2 a3 G) ix vx wy := by
          refine fact_stays ?_
          intro f hf
          simp only [go_r16_1_F, List.mem_cons, List.not_mem_nil, or_false] at hf
          rcases hf with rfl | rfl | rfl | rfl | rfl | rfl | rfl | rfl | rfl | rfl | rfl <;> first | exact stable_val _ | exact stable_new | exact EmpB.st | exact OwnB.st | exact LitB.st
        have HSO : ∀ px ∈ (go_r16_1_F B0 bg bz n1 d1 n2 d2 n3 d3 a1 a2 a3 G), px.1 = true → ∀ (vx : Value) (wx wy : World), px.2 vx wx → px.2 vx wy := by
          intro f hf
          simp only [go_r16_1_F, List.mem_cons, List.not_mem_nil, or_false] at hf
          rcases hf with rfl | rfl | rfl | rfl | rfl | rfl | rfl | rfl | rfl | rfl | rfl <;> first | exact fun _ _ _ _ h => h | (intro h; cases h)
        refine wp_region_use (Mod (fun k => B0 ≤ k)) (factOf (go_r16_1_F B0 bg bz n1 d1 n2 d2 n3 d3 a1 a2 a3 G)) (fun i => go_r16_1_C.getD i 1000) (fun i => go_r16_1_D.getD i []) 11 _ rfl rfl (by kernel_rfl) (by kernel_rfl) (by kernel_rfl) (by kernel_rfl) (by kernel_rfl) (fun _ => Mod.refl _ _)
          (fun _ _ _ h k => h.trans k (fun _ _ e => e) (fun _ _ e => e)) ?_ ?_
        · refine opsOkU_cons ?_ ?_
          · intro K vs W hR hD hK
            clear hD
            simp only [putAll, Nat.zero_add, Nat.reduceAdd, Act.put, List.setIfInBounds_toArray, List.set_cons_succ, List.set_cons_zero] at hK ⊢
            have hz := (show B0 ≤ W.heap.size from (by have h1 := HB0.out; have h2 := hR.size; simp at h2; omega))
            go_wp2
            exact hK _ _ ⟨_, rfl, Own.rebase (own_empty W 48 2 W.heap.size rfl) (low_lit hz)⟩ (fun j u _ h => HST j u _ _ h (Mod.alloc _ _ _)) (Mod.alloc _ _ _)
          refine opsOkU_cons ?_ ?_
          · intro K vs W hR hD hK
            clear hD
            simp only [putAll, Nat.zero_add, Nat.reduceAdd, Act.put, List.setIfInBounds_toArray, List.set_cons_succ, List.set_cons_zero] at hK ⊢
            go_wp2
            exact hK _ _ rfl (fun _ _ _ h => h) (Mod.refl _ _)
          refine opsOkU_cons ?_ ?_
          · intro K vs W hR hD hK
            have d1 : vs 1 = .pointer (some ⟨bg, 2, none⟩) := hD 1 (by decide)
            clear hD
            simp only [putAll, Nat.zero_add, Nat.reduceAdd, Act.put, List.setIfInBounds_toArray, List.set_cons_succ, List.set_cons_zero] at hK ⊢
            generalize vs 1 = v1 at hK d1 ⊢
            subst v1
            have q0 := ((HSd.out.at (HOLD.out W hR)).2.2.2.2.1).cell 2 rfl
            go_wp2
            exact hK _ _ rfl (fun _ _ _ h => h) (Mod.refl _ _)
          refine opsOkU_cons ?_ ?_
          · intro K vs W hR hD hK
            have d0 : (EmpB B0) (vs 0) W := hD 0 (by decide)
            have d2 : vs 2 = .slice a3 n3 d3 := hD 2 (by decide)
            clear hD
            simp only [putAll, Nat.zero_add, Nat.reduceAdd, Act.put, List.setIfInBounds_toArray, List.set_cons_succ, List.set_cons_zero] at hK ⊢
            generalize vs 0 = v0 at hK d0 ⊢
            generalize vs 2 = v2 at hK d2 ⊢
            subst v2
            have hz := (show B0 ≤ W.heap.size from (by have h1 := HB0.out; have h2 := hR.size; simp at h2; omega))
            have hrb := ((HSd.out.at (HOLD.out W hR)).2.2.2.2.2.1).rb
            obtain ⟨ae, rfl, ho⟩ := d0
            go_wp2_with (at_builtin; refine wpList_append_any rfl (.tmp 99) (.tmp 101) 24 rfl 48 iB (.agg #[.int .i64 0, .int .i64 0]) 2 16 Try.underlying24 hiB hzB hsB hbB rfl (by decide) _ 0 ([]) rfl (Own.base ho (Nat.zero_le _)) _ n3 (G.B.flatMap c2) rfl hrb (one2 _) (by unfold maxLen; omega) (by omega) ?_; intro v' w' hap)
            obtain ⟨a4, c4, rfl⟩ := hap.form
            have ho4 := hap.own
            have lo4 := hap.low hz (fun k hk => (ho.lt k hk).1)
            have hm4 := hap.still ae 0 0 rfl (by omega)
            simp only [Nat.zero_add, List.nil_append] at ho4 lo4 ⊢
            exact hK _ _ ⟨a4, c4, rfl, fun _ _ => trivial, Own.rebase ho4 lo4⟩ (fun j u _ h => HST j u _ _ h hm4) (hm4.mono (fun _ _ e => e.elim))
          refine opsOkU_cons ?_ ?_
          · intro K vs W hR hD hK
            clear hD
            simp only [putAll, Nat.zero_add, Nat.reduceAdd, Act.put, List.setIfInBounds_toArray, List.set_cons_succ, List.set_cons_zero] at hK ⊢
            go_wp2
            exact hK _ _ rfl (fun _ _ _ h => h) (Mod.refl _ _)
          refine opsOkU_cons ?_ ?_
          · intro K vs W hR hD hK
            have d4 : vs 4 = .pointer (some ⟨bg, 1, none⟩) := hD 4 (by decide)
            clear hD
            simp only [putAll, Nat.zero_add, Nat.reduceAdd, Act.put, List.setIfInBounds_toArray, List.set_cons_succ, List.set_cons_zero] at hK ⊢
            generalize vs 4 = v4 at hK d4 ⊢
            subst v4
            have q0 := ((HSd.out.at (HOLD.out W hR)).2.2.2.2.1).cell 1 rfl
            go_wp2
            exact hK _ _ rfl (fun _ _ _ h => h) (Mod.refl _ _)
          refine opsOkU_cons ?_ ?_
          · intro K vs W hR hD hK
            have d5 : vs 5 = .slice a2 n2 d2 := hD 5 (by decide)
            clear hD
            simp only [putAll, Nat.zero_add, Nat.reduceAdd, Act.put, List.setIfInBounds_toArray, List.set_cons_succ, List.set_cons_zero] at hK ⊢
            generalize vs 5 = v5 at hK d5 ⊢
            subst v5
            go_wp2_with fail
            exact hK _ _ rfl (fun _ _ _ h => h) (Mod.refl _ _)
          refine opsOkU_cons ?_ ?_
          · intro K vs W hR hD hK
            have d6 : vs 6 = .int .i64 (n2 : Int) := hD 6 (by decide)
            clear hD
            simp only [putAll, Nat.zero_add, Nat.reduceAdd, Act.put, List.setIfInBounds_toArray, List.set_cons_succ, List.set_cons_zero] at hK ⊢
            generalize vs 6 = v6 at hK d6 ⊢
            subst v6
            go_wp2
            exact hK _ _ rfl (fun _ _ _ h => h) (Mod.refl _ _)
          refine opsOkU_cons ?_ ?_
          · intro K vs W hR hD hK
            have d7 : vs 7 = .agg #[.int .i64 0, .int .i64 (n2 : Int)] := hD 7 (by decide)
            clear hD
            simp only [putAll, Nat.zero_add, Nat.reduceAdd, Act.put, List.setIfInBounds_toArray, List.set_cons_succ, List.set_cons_zero] at hK ⊢
            generalize vs 7 = v7 at hK d7 ⊢
            subst v7
            go_wp2
            exact hK _ _ ⟨_, rfl, by exact Rd.litN _ _ _ _ _ 1 rfl rfl (by decide)⟩ (fun j u _ h => HST j u _ _ h (Mod.alloc _ _ _)) (Mod.alloc _ _ _)
          refine opsOkU_cons ?_ ?_
          · intro K vs W hR hD hK
            have d3 : (OwnB B0 n3 (G.B.flatMap c2)) (vs 3) W := hD 3 (by decide)
            have d8 : (LitB (0, (n2 : Int))) (vs 8) W := hD 8 (by decide)
            clear hD
            simp only [putAll, Nat.zero_add, Nat.reduceAdd, Act.put, List.setIfInBounds_toArray, List.set_cons_succ, List.set_cons_zero] at hK ⊢
            generalize vs 3 = v3 at hK d3 ⊢
            generalize vs 8 = v8 at hK d8 ⊢
            have hz := (show B0 ≤ W.heap.size from (by have h1 := HB0.out; have h2 := hR.size; simp at h2; omega))
            obtain ⟨ae, ce, rfl, _, ho⟩ := d3
            obtain ⟨pl, rfl, hl⟩ := d8
            go_wp2_with (at_builtin; refine wpList_append_any rfl (.tmp 102) (.tmp 107) 24 rfl 48 iB (.agg #[.int .i64 0, .int .i64 0]) 2 16 Try.underlying24 hiB hzB hsB hbB rfl (by decide) _ n3 (G.B.flatMap c2) rfl (Own.base ho (Nat.zero_le _)) _ 1 (c2 (0, (n2 : Int))) rfl hl (by intro u hu; simp [c2] at hu; rcases hu with rfl | rfl <;> rfl) (by unfold maxLen; omega) (by omega) ?_; intro v' w' hap)
            obtain ⟨a4, c4, rfl⟩ := hap.form
            have ho4 := hap.own
            have lo4 := hap.low hz (fun k hk => (ho.lt k hk).1)
            exact hK _ _ ⟨a4, c4, rfl, fun _ _ => trivial, by rw [c2_snoc']; exact Own.rebase ho4 lo4⟩ (fact_solid HSO 9 (by kernel_rfl)) (hap.mod.mono (fun k _ e => (ho.lt k e).1))
          refine opsOkU_cons ?_ ?_
          · intro K vs W hR hD hK
            clear hD
            simp only [putAll, Nat.zero_add, Nat.reduceAdd, Act.put, List.setIfInBounds_toArray, List.set_cons_succ, List.set_cons_zero] at hK ⊢
            go_wp2
            exact hK _ _ rfl (fun _ _ _ h => h) (Mod.refl _ _)
          exact opsOkU_nil
        · intro vs wq8 hR hF
          have d9 : (OwnB B0 (n3 + 1) ((G.B ++ [(0, (n2 : Int))]).flatMap c2)) (vs 9) wq8 := hF 9 (by decide) (by decide)
          have d10 : vs 10 = .pointer (some ⟨bz, 2, none⟩) := hF 10 (by decide) (by decide)
          clear hF
          simp only [putAll, Nat.zero_add, Nat.reduceAdd, Act.put, List.setIfInBounds_toArray, List.set_cons_succ, List.set_cons_zero]
          generalize vs 9 = v9 at d9 ⊢
          generalize vs 10 = v10 at d10 ⊢
          subst v10
          obtain ⟨a6, c6, rfl, _, ho6⟩ := d9
          have hmw : Mod (fun _ => False) wq7 wq8 := (Mod.drew _ _).of2 (HOLD.out _ hR)
          have hbz := ((HS.out.now).1).keep hmw (fun e => e)
          have qa := hbz.cell 2 rfl
          have qb := hbz.free 2
          have qc := hbz.cell 0 rfl
          have qd := hbz.cell 1 rfl
          have lq := hbz.lt
          go_wp2_with fail
          obtain ⟨ws, hws⟩ : ∃ W, World.setCell wq8 ⟨bz, 2, none⟩ (.slice a6 (n3 + 1) c6) = W := ⟨_, rfl⟩
          rw [hws]
          have k1 : Mod (fun _ => False) wq6 ws := by rw [← hws]; exact (((HS.out.now).2.1).of2 hmw).old (Mod.setCell (F := fun k => k = bz) _ ⟨bz, 2, none⟩ _ rfl) (fun i hi => by subst hi; exact lbz)
          have k2 : Blk ws bz 26 [.slice a1 n1 d1, .slice a2 n2 d2, .slice a6 (n3 + 1) c6] := by rw [← hws]; exact hbz.set 2 _
          have k3 : ws.ownsRow B0 48 2 (.slice a6 (n3 + 1) c6) (n3 + 1) ((G.B ++ [(0, (n2 : Int))]).flatMap c2) := by rw [← hws]; exact Own.keep ho6 (Mod.setCell (F := fun k => k = bz) _ ⟨bz, 2, none⟩ _ rfl) (fun k hk e => by have := (ho6.lt k hk).1; omega)
          replace HS := Lib.hid ((Ev.blk k2).and ((Ev.own k3).and (HSP.out.step k1)))
          clear k1 k2 k3 hws HSP qa qb qc qd lq ho6 hmw hbz HSd HOLD hR HSd0
          have hbbz := (HS.out.now).1
          have qbz_0 := hbbz.cell 0 rfl
          have qbz_1 := hbbz.cell 1 rfl
          have qbz_2 := hbbz.cell 2 rfl
          have lbz := hbbz.lt
          clear hbbz
          have hno : ¬ May ⟨G.N, G.E, G.B ++ [(0, (n2 : Int))]⟩ := by have h := not_may_ban G; rw [he.out] at h; exact h
          have HNO := Lib.hid hno
          clear hno
          refine (new_no ⟨G.N, G.E, G.B ++ [(0, (n2 : Int))]⟩ HNO.out _ a1 n1 d1 a2 n2 d2 a6 (n3 + 1) c6 ⟨hn.out, he.out, by simp [hb.out], (HS.out.now).2.2.2.2.2.1.rn, (HS.out.now).2.2.2.2.2.1.re, Rd.ofOwn ((HS.out.now).2.1)⟩).mono ?_
          rintro e wq9 ⟨rfl, hmm⟩
          replace HS := Lib.hid (HS.out.step hmm)
          clear hmm
          clear qbz_0 qbz_1 qbz_2 lbz
          go_wp2_with fail
          refine (awake_any _).mono ?_
          rintro e wq10 ⟨rfl, hmm⟩
          replace HS := Lib.hid (HS.out.step hmm)
          clear hmm
          go_wp2_with fail
          go_ret
          exact ⟨rfl, (HS.out.now).2.2.2.2.2.2.2⟩
      · skip
        have z5 : decide (kx < n3) = true := by simp; omega
        have z6 : decide (ky < n3) = false := by simp; omega
        clear qbg_0 qbg_1 qbg_2 lbg
        have hbbg := (HS.out.now).1
        have qbg_0 := hbbg.cell 0 rfl
        have qbg_1 := hbbg.cell 1 rfl
        have qbg_2 := hbbg.cell 2 rfl
        have lbg := hbbg.lt
        clear hbbg
        go_upto_region 13 with fail
        have HSP := HS
        replace HS := Lib.hid ((Ev.mod wq4).and HS.out)
        clear qbg_0 qbg_1 qbg_2 lbg
        obtain ⟨bq, hbq⟩ : ∃ b, wq4.heap.size = b := ⟨_, rfl⟩
        obtain ⟨wq11, hwq11⟩ : ∃ W, World.alloc wq4 (.cells #[.slice a1 n1 d1, .slice a2 n2 d2, .slice a3 n3 d3] 26) = W := ⟨_, rfl⟩
        have hBbq : Blk wq11 bq 26 [.slice a1 n1 d1, .slice a2 n2 d2, .slice a3 n3 d3] := by rw [← hwq11, ← hbq]; exact Blk.new _ 26 [.slice a1 n1 d1, .slice a2 n2 d2, .slice a3 n3 d3]
        have hzbq : wq11.heap.size = bq + 1 := by rw [← hwq11, ← hbq]; exact heap_size_alloc _ _
        replace HS := Lib.hid (HS.out.step (w' := wq11) (by rw [← hwq11]; exact Mod.alloc _ _ _))
        replace HS := Lib.hid ((Ev.blk hBbq).and HS.out)
        have lbq : wq4.heap.size ≤ bq := by omega
        try rw [hwq11]
        try rw [hbq]
        clear hzbq hBbq hbq hwq11
        have hbbg := (HS.out.now).2.2.1
        have qbg_0 := hbbg.cell 0 rfl
        have qbg_1 := hbbg.cell 1 rfl
        have qbg_2 := hbbg.cell 2 rfl
        have lbg := hbbg.lt
        clear hbbg
        have hbbq := (HS.out.now).1
        have qbq_0 := hbbq.cell 0 rfl
        have qbq_1 := hbbq.cell 1 rfl
        have qbq_2 := hbbq.cell 2 rfl
        have lbq := hbbq.lt
        clear hbbq
        have hre := (HS.out.now).2.2.2.1.re
        have hbq := (HS.out.now).1
        have hbg := (HS.out.now).2.2.1
        have lB : bq < wq11.heap.size := hbq.lt
        have HRE := Lib.hid hre
        have HBQ := Lib.hid hbq
        have HBG := Lib.hid hbg
        clear hre hbq hbg
        clear qbg_0 qbg_1 qbg_2 lbg qbq_0 qbq_1 qbq_2 lbq
        have qg0 := HBG.out.cell 1 rfl
        have lg0 := HBG.out.lt
        go_wp2_with (first | (at_builtin; refine wpList_append_any rfl (.tmp 85) (.tmp 87) 23 rfl 41 iE (.agg #[.int .i64 0, .int .i64 0, .int .i64 0]) 3 24 Try.underlying23 hiE hzE hsE hbE rfl (by decide) _ 0 [] rfl (own_empty _ _ _ _ rfl) _ n2 (G.E.flatMap c3) rfl (HRE.out.alloc _) (one3 _) (by unfold maxLen; omega) (by omega) ?_; intro v4 w4 hap; obtain ⟨a4, c4, rfl⟩ := hap.form; have ho4 := hap.own; have lo4 := hap.low (B := wq11.heap.size) (by simp) (low_lit (Nat.le_refl _)); have hm4 := hap.modOld (Mod.alloc (fun _ => False) wq11 _) (low_lit (Nat.le_refl _)); simp only [Nat.zero_add, List.nil_append] at ho4 lo4; have qa := ((HBQ.out.keep hm4 (fun e => e)).cell 1 rfl); have qb := ((HBQ.out.keep hm4 (fun e => e)).free 1); have qg := ((HBG.out.keep hm4 (fun e => e)).cell 1 rfl); have lq : bq < w4.heap.size := (HBQ.out.keep hm4 (fun e => e)).lt; clear hap) | (at_builtin; refine wpList_append_any rfl (.tmp 88) (.tmp 90) 23 rfl 41 iE (.agg #[.int .i64 0, .int .i64 0, .int .i64 0]) 3 24 Try.underlying23 hiE hzE hsE hbE rfl (by decide) _ n2 _ rfl (World.ownsRow.alloc ho4 _) _ 1 (c3 (0, 0, 1)) rfl (Rd.litN _ 3 _ _ _ 1 rfl rfl (by decide)) (by intro u hu; simp [c3] at hu; rcases hu with rfl | rfl <;> rfl) (by unfold maxLen; omega) (by omega) ?_; intro v5 w5 hap; obtain ⟨a5, c5, rfl⟩ := hap.form; have ho5 := hap.own; have lo5 := hap.low (B := wq11.heap.size) (by have := hm4.size; simp; omega) lo4; have hm5 := hap.modOld (hm4.thenAlloc _) lo4; have qa5 := ((HBQ.out.keep hm5 (fun e => e)).cell 1 rfl); have qb5 := ((HBQ.out.keep hm5 (fun e => e)).free 1); have qc5 := ((HBQ.out.keep hm5 (fun e => e)).cell 0 rfl); have qd5 := ((HBQ.out.keep hm5 (fun e => e)).cell 2 rfl); have lq5 : bq < w5.heap.size := (HBQ.out.keep hm5 (fun e => e)).lt; clear hap))
        obtain ⟨ws, hws⟩ : ∃ W, World.setCell w5 ⟨bq, 1, none⟩ (.slice a5 (n2 + 1) c5) = W := ⟨_, rfl⟩
        rw [hws]
        have k1 : Mod (fun _ => False) wq4 ws := by rw [← hws]; exact (((HS.out.now).2.1).of2 hm5).old (Mod.setCell (F := fun k => k = bq) _ ⟨bq, 1, none⟩ _ rfl) (fun i hi => by subst hi; exact lbq)
        have k2 : Blk ws bq 26 [.slice a1 n1 d1, .slice a5 (n2 + 1) c5, .slice a3 n3 d3] := by rw [← hws]; exact (HBQ.out.keep hm5 (fun e => e)).set 1 _
        have k3 : ws.ownsRow 0 41 3 (.slice a5 (n2 + 1) c5) (n2 + 1) ((G.E ++ [(0, 0, 1)]).flatMap c3) := by rw [← hws, c3_snoc']; exact Own.keep ho5 (Mod.setCell (F := fun k => k = bq) _ ⟨bq, 1, none⟩ _ rfl) (fun k hk e => by have := lo5 k hk; omega)
        replace HS := Lib.hid ((Ev.blk k2).and ((Ev.own k3).and (HSP.out.step k1)))
        clear k1 k2 k3 hws HSP qa qb qg lq qa5 qb5 qc5 qd5 lq5 ho4 lo4 hm4 ho5 lo5 hm5 HRE HBQ HBG qg0 lg0
        have hbbg := (HS.out.now).2.2.1
        have qbg_0 := hbbg.cell 0 rfl
        have qbg_1 := hbbg.cell 1 rfl
        have qbg_2 := hbbg.cell 2 rfl
        have lbg := hbbg.lt
        clear hbbg
        have hbbq := (HS.out.now).1
        have qbq_0 := hbbq.cell 0 rfl
        have qbq_1 := hbbq.cell 1 rfl
        have qbq_2 := hbbq.cell 2 rfl
        have lbq := hbbq.lt
        clear hbbq
        refine (new_ok ⟨G.N, G.E ++ [(0, 0, 1)], G.B⟩ (may_edge hmay.out (by have := hfew.out.1; omega) (by have := hfew.out.2.1; omega)) _ a1 n1 d1 a5 (n2 + 1) c5 a3 n3 d3 ⟨hn.out, by simp [he.out], hb.out, (HS.out.now).2.2.2.1.rn, Rd.ofOwn ((HS.out.now).2.1), (HS.out.now).2.2.2.1.rb⟩).mono ?_
        rintro e wq12 ⟨p2, B2, C2, rfl, hgo, hmm⟩
        replace HS := Lib.hid (HS.out.step hmm)
        clear hmm
        clear qbg_0 qbg_1 qbg_2 lbg qbq_0 qbq_1 qbq_2 lbq
        have hbbg := (HS.out.now).2.2.1
        have qbg_0 := hbbg.cell 0 rfl
        have qbg_1 := hbbg.cell 1 rfl
        have qbg_2 := hbbg.cell 2 rfl
        have lbg := hbbg.lt
        clear hbbg
        have hbbq := (HS.out.now).1
        have qbq_0 := hbbq.cell 0 rfl
        have qbq_1 := hbbq.cell 1 rfl
        have qbq_2 := hbbq.cell 2 rfl
        have lbq := hbbq.lt
        clear hbbq
        clear hgo
        clear qbg_0 qbg_1 qbg_2 lbg qbq_0 qbq_1 qbq_2 lbq
        have hbbg := (HS.out.now).2.2.1
        have qbg_0 := hbbg.cell 0 rfl
        have qbg_1 := hbbg.cell 1 rfl
        have qbg_2 := hbbg.cell 2 rfl
        have lbg := hbbg.lt
        clear hbbg
        go_upto_region 16 with fail
        have HSP := HS
        replace HS := Lib.hid ((Ev.mod wq12).and HS.out)
        clear qbg_0 qbg_1 qbg_2 lbg
        obtain ⟨bz, hbz⟩ : ∃ b, wq12.heap.size = b := ⟨_, rfl⟩
        obtain ⟨wq13, hwq13⟩ : ∃ W, World.alloc wq12 (.cells #[.slice a1 n1 d1, .slice a2 n2 d2, .slice a3 n3 d3] 26) = W := ⟨_, rfl⟩
        have hBbz : Blk wq13 bz 26 [.slice a1 n1 d1, .slice a2 n2 d2, .slice a3 n3 d3] := by rw [← hwq13, ← hbz]; exact Blk.new _ 26 [.slice a1 n1 d1, .slice a2 n2 d2, .slice a3 n3 d3]
        have hzbz : wq13.heap.size = bz + 1 := by rw [← hwq13, ← hbz]; exact heap_size_alloc _ _
        replace HS := Lib.hid (HS.out.step (w' := wq13) (by rw [← hwq13]; exact Mod.alloc _ _ _))
        replace HS := Lib.hid ((Ev.blk hBbz).and HS.out)
        have lbz : wq12.heap.size ≤ bz := by omega
        try rw [hwq13]
        try rw [hbz]
        clear hzbz hBbz hbz hwq13
        obtain ⟨B0, hB0⟩ : ∃ n, wq13.heap.size = n := ⟨_, rfl⟩
        have lzB : bz < B0 := by rw [← hB0]; exact ((HS.out.now).1).lt
        have HB0 := Lib.hid hB0
        clear hB0
        have HOLD : Hid (∀ W, Mod (fun k => B0 ≤ k) (World.drew wq13) W → Mod (fun _ => False) (World.drew wq13) W) := Lib.hid fun W h => h.mono (fun i hi e => by have := HB0.out; simp at hi; omega)
        have HSd0 := HS
        go_upto_region 16 with fail
        have HSd := Lib.hid HS.out.drew
        have HST : ∀ (ix : Nat) (vx : Value) (wx wy : World), factOf (go_r16_2_F B0 bg bz n1 d1 n2 d2 n3 d3 a1 a2 a3 G) ix vx wx → Mod (fun _ => False) wx wy → factOf (go_r16_2_F B0 bg bz n1 d1 n2 d2 n3 d3 a1 a2 a3 G) ix vx wy := by
          refine fact_stays ?_
          intro f hf
          simp only [go_r16_2_F, List.mem_cons, List.not_mem_nil, or_false] at hf
          rcases hf with rfl | rfl | rfl | rfl | rfl | rfl | rfl | rfl | rfl | rfl | rfl <;> first | exact stable_val _ | exact stable_new | exact EmpB.st | exact OwnB.st | exact LitB.st
        have HSO : ∀ px ∈ (go_r16_2_F B0 bg bz n1 d1 n2 d2 n3 d3 a1 a2 a3 G), px.1 = true → ∀ (vx : Value) (wx wy : World), px.2 vx wx → px.2 vx wy := by
          intro f hf
          simp only [go_r16_2_F, List.mem_cons, List.not_mem_nil, or_false] at hf
          rcases hf with rfl | rfl | rfl | rfl | rfl | rfl | rfl | rfl | rfl | rfl | rfl <;> first | exact fun _ _ _ _ h => h | (intro h; cases h)
        refine wp_region_use (Mod (fun k => B0 ≤ k)) (factOf (go_r16_2_F B0 bg bz n1 d1 n2 d2 n3 d3 a1 a2 a3 G)) (fun i => go_r16_2_C.getD i 1000) (fun i => go_r16_2_D.getD i []) 11 _ rfl rfl (by kernel_rfl) (by kernel_rfl) (by kernel_rfl) (by kernel_rfl) (by kernel_rfl) (fun _ => Mod.refl _ _)
          (fun _ _ _ h k => h.trans k (fun _ _ e => e) (fun _ _ e => e)) ?_ ?_
        · refine opsOkU_cons ?_ ?_
          · intro K vs W hR hD hK
            clear hD
            simp only [putAll, Nat.zero_add, Nat.reduceAdd, Act.put, List.setIfInBounds_toArray, List.set_cons_succ, List.set_cons_zero] at hK ⊢
            have hz := (show B0 ≤ W.heap.size from (by have h1 := HB0.out; have h2 := hR.size; simp at h2; omega))
            go_wp2
            exact hK _ _ ⟨_, rfl, Own.rebase (own_empty W 48 2 W.heap.size rfl) (low_lit hz)⟩ (fun j u _ h => HST j u _ _ h (Mod.alloc _ _ _)) (Mod.alloc _ _ _)
          refine opsOkU_cons ?_ ?_
          · intro K vs W hR hD hK
            clear hD
            simp only [putAll, Nat.zero_add, Nat.reduceAdd, Act.put, List.setIfInBounds_toArray, List.set_cons_succ, List.set_cons_zero] at hK ⊢
            go_wp2
            exact hK _ _ rfl (fun _ _ _ h => h) (Mod.refl _ _)
          refine opsOkU_cons ?_ ?_
          · intro K vs W hR hD hK
            have d1 : vs 1 = .pointer (some ⟨bg, 2, none⟩) := hD 1 (by decide)
            clear hD
            simp only [putAll, Nat.zero_add, Nat.reduceAdd, Act.put, List.setIfInBounds_toArray, List.set_cons_succ, List.set_cons_zero] at hK ⊢
            generalize vs 1 = v1 at hK d1 ⊢
            subst v1
            have q0 := ((HSd.out.at (HOLD.out W hR)).2.2.2.2.1).cell 2 rfl
            go_wp2
            exact hK _ _ rfl (fun _ _ _ h => h) (Mod.refl _ _)
          refine opsOkU_cons ?_ ?_
          · intro K vs W hR hD hK
            have d0 : (EmpB B0) (vs 0) W := hD 0 (by decide)
            have d2 : vs 2 = .slice a3 n3 d3 := hD 2 (by decide)
            clear hD
            simp only [putAll, Nat.zero_add, Nat.reduceAdd, Act.put, List.setIfInBounds_toArray, List.set_cons_succ, List.set_cons_zero] at hK ⊢
            generalize vs 0 = v0 at hK d0 ⊢
            generalize vs 2 = v2 at hK d2 ⊢
            subst v2
            have hz := (show B0 ≤ W.heap.size from (by have h1 := HB0.out; have h2 := hR.size; simp at h2; omega))
            have hrb := ((HSd.out.at (HOLD.out W hR)).2.2.2.2.2.1).rb
            obtain ⟨ae, rfl, ho⟩ := d0
            go_wp2_with (at_builtin; refine wpList_append_any rfl (.tmp 99) (.tmp 101) 24 rfl 48 iB (.agg #[.int .i64 0, .int .i64 0]) 2 16 Try.underlying24 hiB hzB hsB hbB rfl (by decide) _ 0 ([]) rfl (Own.base ho (Nat.zero_le _)) _ n3 (G.B.flatMap c2) rfl hrb (one2 _) (by unfold maxLen; omega) (by omega) ?_; intro v' w' hap)
            obtain ⟨a4, c4, rfl⟩ := hap.form
            have ho4 := hap.own
            have lo4 := hap.low hz (fun k hk => (ho.lt k hk).1)
            have hm4 := hap.still ae 0 0 rfl (by omega)
            simp only [Nat.zero_add, List.nil_append] at ho4 lo4 ⊢
            exact hK _ _ ⟨a4, c4, rfl, fun _ _ => trivial, Own.rebase ho4 lo4⟩ (fun j u _ h => HST j u _ _ h hm4) (hm4.mono (fun _ _ e => e.elim))
          refine opsOkU_cons ?_ ?_
          · intro K vs W hR hD hK
            clear hD
            simp only [putAll, Nat.zero_add, Nat.reduceAdd, Act.put, List.setIfInBounds_toArray, List.set_cons_succ, List.set_cons_zero] at hK ⊢
            go_wp2
            exact hK _ _ rfl (fun _ _ _ h => h) (Mod.refl _ _)
          refine opsOkU_cons ?_ ?_
          · intro K vs W hR hD hK
            have d4 : vs 4 = .pointer (some ⟨bg, 1, none⟩) := hD 4 (by decide)
            clear hD
            simp only [putAll, Nat.zero_add, Nat.reduceAdd, Act.put, List.setIfInBounds_toArray, List.set_cons_succ, List.set_cons_zero] at hK ⊢
            generalize vs 4 = v4 at hK d4 ⊢
            subst v4
            have q0 := ((HSd.out.at (HOLD.out W hR)).2.2.2.2.1).cell 1 rfl
            go_wp2
            exact hK _ _ rfl (fun _ _ _ h => h) (Mod.refl _ _)
          refine opsOkU_cons ?_ ?_
          · intro K vs W hR hD hK
            have d5 : vs 5 = .slice a2 n2 d2 := hD 5 (by decide)
            clear hD
            simp only [putAll, Nat.zero_add, Nat.reduceAdd, Act.put, List.setIfInBounds_toArray, List.set_cons_succ, List.set_cons_zero] at hK ⊢
            generalize vs 5 = v5 at hK d5 ⊢
            subst v5
            go_wp2_with fail
            exact hK _ _ rfl (fun _ _ _ h => h) (Mod.refl _ _)
          refine opsOkU_cons ?_ ?_
          · intro K vs W hR hD hK
            have d6 : vs 6 = .int .i64 (n2 : Int) := hD 6 (by decide)
            clear hD
            simp only [putAll, Nat.zero_add, Nat.reduceAdd, Act.put, List.setIfInBounds_toArray, List.set_cons_succ, List.set_cons_zero] at hK ⊢
            generalize vs 6 = v6 at hK d6 ⊢
            subst v6
            go_wp2
            exact hK _ _ rfl (fun _ _ _ h => h) (Mod.refl _ _)
          refine opsOkU_cons ?_ ?_
          · intro K vs W hR hD hK
            have d7 : vs 7 = .agg #[.int .i64 0, .int .i64 (n2 : Int)] := hD 7 (by decide)
            clear hD
            simp only [putAll, Nat.zero_add, Nat.reduceAdd, Act.put, List.setIfInBounds_toArray, List.set_cons_succ, List.set_cons_zero] at hK ⊢
            generalize vs 7 = v7 at hK d7 ⊢
            subst v7
            go_wp2
            exact hK _ _ ⟨_, rfl, by exact Rd.litN _ _ _ _ _ 1 rfl rfl (by decide)⟩ (fun j u _ h => HST j u _ _ h (Mod.alloc _ _ _)) (Mod.alloc _ _ _)
          refine opsOkU_cons ?_ ?_
          · intro K vs W hR hD hK
            have d3 : (OwnB B0 n3 (G.B.flatMap c2)) (vs 3) W := hD 3 (by decide)
            have d8 : (LitB (0, (n2 : Int))) (vs 8) W := hD 8 (by decide)
            clear hD
            simp only [putAll, Nat.zero_add, Nat.reduceAdd, Act.put, List.setIfInBounds_toArray, List.set_cons_succ, List.set_cons_zero] at hK ⊢
            generalize vs 3 = v3 at hK d3 ⊢
            generalize vs 8 = v8 at hK d8 ⊢
            have hz := (show B0 ≤ W.heap.size from (by have h1 := HB0.out; have h2 := hR.size; simp at h2; omega))
            obtain ⟨ae, ce, rfl, _, ho⟩ := d3
            obtain ⟨pl, rfl, hl⟩ := d8
            go_wp2_with (at_builtin; refine wpList_append_any rfl (.tmp 102) (.tmp 107) 24 rfl 48 iB (.agg #[.int .i64 0, .int .i64 0]) 2 16 Try.underlying24 hiB hzB hsB hbB rfl (by decide) _ n3 (G.B.flatMap c2) rfl (Own.base ho (Nat.zero_le _)) _ 1 (c2 (0, (n2 : Int))) rfl hl (by intro u hu; simp [c2] at hu; rcases hu with rfl | rfl <;> rfl) (by unfold maxLen; omega) (by omega) ?_; intro v' w' hap)
            obtain ⟨a4, c4, rfl⟩ := hap.form
            have ho4 := hap.own
            have lo4 := hap.low hz (fun k hk => (ho.lt k hk).1)
            exact hK _ _ ⟨a4, c4, rfl, fun _ _ => trivial, by rw [c2_snoc']; exact Own.rebase ho4 lo4⟩ (fact_solid HSO 9 (by kernel_rfl)) (hap.mod.mono (fun k _ e => (ho.lt k e).1))
          refine opsOkU_cons ?_ ?_
          · intro K vs W hR hD hK
            clear hD
            simp only [putAll, Nat.zero_add, Nat.reduceAdd, Act.put, List.setIfInBounds_toArray, List.set_cons_succ, List.set_cons_zero] at hK ⊢
            go_wp2
            exact hK _ _ rfl (fun _ _ _ h => h) (Mod.refl _ _)
          exact opsOkU_nil
        · intro vs wq14 hR hF
          have d9 : (OwnB B0 (n3 + 1) ((G.B ++ [(0, (n2 : Int))]).flatMap c2)) (vs 9) wq14 := hF 9 (by decide) (by decide)
          have d10 : vs 10 = .pointer (some ⟨bz, 2, none⟩) := hF 10 (by decide) (by decide)
          clear hF
          simp only [putAll, Nat.zero_add, Nat.reduceAdd, Act.put, List.setIfInBounds_toArray, List.set_cons_succ, List.set_cons_zero]
          generalize vs 9 = v9 at d9 ⊢
          generalize vs 10 = v10 at d10 ⊢
          subst v10
          obtain ⟨a6, c6, rfl, _, ho6⟩ := d9
          have hmw : Mod (fun _ => False) wq13 wq14 := (Mod.drew _ _).of2 (HOLD.out _ hR)
          have hbz := ((HS.out.now).1).keep hmw (fun e => e)
          have qa := hbz.cell 2 rfl
          have qb := hbz.free 2
          have qc := hbz.cell 0 rfl
          have qd := hbz.cell 1 rfl
          have lq := hbz.lt
          go_wp2_with fail
          obtain ⟨ws, hws⟩ : ∃ W, World.setCell wq14 ⟨bz, 2, none⟩ (.slice a6 (n3 + 1) c6) = W := ⟨_, rfl⟩
          rw [hws]
          have k1 : Mod (fun _ => False) wq12 ws := by rw [← hws]; exact (((HS.out.now).2.1).of2 hmw).old (Mod.setCell (F := fun k => k = bz) _ ⟨bz, 2, none⟩ _ rfl) (fun i hi => by subst hi; exact lbz)
          have k2 : Blk ws bz 26 [.slice a1 n1 d1, .slice a2 n2 d2, .slice a6 (n3 + 1) c6] := by rw [← hws]; exact hbz.set 2 _
          have k3 : ws.ownsRow B0 48 2 (.slice a6 (n3 + 1) c6) (n3 + 1) ((G.B ++ [(0, (n2 : Int))]).flatMap c2) := by rw [← hws]; exact Own.keep ho6 (Mod.setCell (F := fun k => k = bz) _ ⟨bz, 2, none⟩ _ rfl) (fun k hk e => by have := (ho6.lt k hk).1; omega)
          replace HS := Lib.hid ((Ev.blk k2).and ((Ev.own k3).and (HSP.out.step k1)))
          clear k1 k2 k3 hws HSP qa qb qc qd lq ho6 hmw hbz HSd HOLD hR HSd0
          have hbbz := (HS.out.now).1
          have qbz_0 := hbbz.cell 0 rfl
          have qbz_1 := hbbz.cell 1 rfl
          have qbz_2 := hbbz.cell 2 rfl
          have lbz := hbbz.lt
          clear hbbz
          have hno : ¬ May ⟨G.N, G.E, G.B ++ [(0, (n2 : Int))]⟩ := by have h := not_may_ban G; rw [he.out] at h; exact h
          have HNO := Lib.hid hno
          clear hno
          refine (new_no ⟨G.N, G.E, G.B ++ [(0, (n2 : Int))]⟩ HNO.out _ a1 n1 d1 a2 n2 d2 a6 (n3 + 1) c6 ⟨hn.out, he.out, by simp [hb.out], (HS.out.now).2.2.2.2.2.1.rn, (HS.out.now).2.2.2.2.2.1.re, Rd.ofOwn ((HS.out.now).2.1)⟩).mono ?_
          rintro e wq15 ⟨rfl, hmm⟩
          replace HS := Lib.hid (HS.out.step hmm)
          clear hmm
          clear qbz_0 qbz_1 qbz_2 lbz
          go_wp2_with fail
          refine (awake_any _).mono ?_
          rintro e wq16 ⟨rfl, hmm⟩
          replace HS := Lib.hid (HS.out.step hmm)
          clear hmm
          go_wp2_with fail
          go_ret
          exact ⟨rfl, (HS.out.now).2.2.2.2.2.2.2⟩
    obtain ⟨hk1, hk2⟩ := hkk
    clear hcase
    have z3 : decide ((kx : Int) < (n3 : Int)) = true := by simp; omega
    have z4 : decide ((ky : Int) < (n3 : Int)) = true := by simp; omega
    have hlx : kx < G.B.length := by rw [hb.out]; exact hk1
    have hly : ky < G.B.length := by rw [hb.out]; exact hk2
    obtain ⟨u1, hu1⟩ : ∃ x, (G.B[kx]).1 = x := ⟨_, rfl⟩
    obtain ⟨v1, hv1⟩ : ∃ x, (G.B[kx]).2 = x := ⟨_, rfl⟩
    obtain ⟨x1b, x1o, hpl, e0, e1⟩ := rd2 (HS.out.now).2.1.rb kx hlx
    have hix := fun wx => run_indexS (P := Try.prog) wx 24 48 iB 2 Try.underlying24 hiB hsB a3 n3 d3 kx hk1 ((HS.out.now).2.1.rb.some_ (by have := hk1; omega))
    rw [hpl] at hix
    have HIx1 := Lib.hid hix
    clear hix hpl
    rw [hu1] at e0
    replace HS := Lib.hid ((Ev.cell e0).and HS.out)
    clear e0
    rw [hv1] at e1
    replace HS := Lib.hid ((Ev.cell e1).and HS.out)
    clear e1
    obtain ⟨u2, hu2⟩ : ∃ x, (G.B[ky]).1 = x := ⟨_, rfl⟩
    obtain ⟨v2, hv2⟩ : ∃ x, (G.B[ky]).2 = x := ⟨_, rfl⟩
    obtain ⟨x2b, x2o, hpl, e0, e1⟩ := rd2 (HS.out.now).2.2.2.1.rb ky hly
    have hix := fun wx => run_indexS (P := Try.prog) wx 24 48 iB 2 Try.underlying24 hiB hsB a3 n3 d3 ky hk2 ((HS.out.now).2.2.2.1.rb.some_ (by have := hk2; omega))
    rw [hpl] at hix
    have HIx2 := Lib.hid hix
    clear hix hpl
    rw [hu2] at e0
    replace HS := Lib.hid ((Ev.cell e0).and HS.out)
    clear e0
    rw [hv2] at e1
    replace HS := Lib.hid ((Ev.cell e1).and HS.out)
    clear e1
    obtain ⟨tgt, htg⟩ : ∃ t, (swp G.B kx ky).flatMap c2 = t := ⟨_, rfl⟩
    have t1 := fm_at _ _ _ (swp_x G.B kx ky hlx hly)
    have t2 := fm_at _ _ _ (swp_y G.B kx ky hlx hly)
    rw [htg, hu2, hv2] at t1
    rw [htg, hu1, hv1] at t2
    have HTG := Lib.hid htg
    clear hu1 hv1 hu2 hv2 htg
    obtain ⟨ox, hox⟩ : ∃ n, kx * 2 = n := ⟨_, rfl⟩
    obtain ⟨oy, hoy⟩ : ∃ n, ky * 2 = n := ⟨_, rfl⟩
    rw [hox] at t1
    rw [hoy] at t2
    have HOX := Lib.hid hox
    have HOY := Lib.hid hoy
    have T1 := Lib.hid t1
    have T2 := Lib.hid t2
    clear hox hoy t1 t2
    clear qbg_0 qbg_1 qbg_2 lbg
    have hbbg := (HS.out.now).2.2.2.2.1
    have qbg_0 := hbbg.cell 0 rfl
    have qbg_1 := hbbg.cell 1 rfl
    have qbg_2 := hbbg.cell 2 rfl
    have lbg := hbbg.lt
    clear hbbg
    go_upto_region 7 with fail
    have HSP := HS
    replace HS := Lib.hid ((Ev.mod wq4).and HS.out)
    clear qbg_0 qbg_1 qbg_2 lbg
    obtain ⟨bo, hbo⟩ : ∃ b, wq4.heap.size = b := ⟨_, rfl⟩
    obtain ⟨wq17, hwq17⟩ : ∃ W, World.alloc wq4 (.cells #[.slice a1 n1 d1, .slice a2 n2 d2, .slice a3 n3 d3] 26) = W := ⟨_, rfl⟩
    have hBbo : Blk wq17 bo 26 [.slice a1 n1 d1, .slice a2 n2 d2, .slice a3 n3 d3] := by rw [← hwq17, ← hbo]; exact Blk.new _ 26 [.slice a1 n1 d1, .slice a2 n2 d2, .slice a3 n3 d3]
    have hzbo : wq17.heap.size = bo + 1 := by rw [← hwq17, ← hbo]; exact heap_size_alloc _ _
    replace HS := Lib.hid (HS.out.step (w' := wq17) (by rw [← hwq17]; exact Mod.alloc _ _ _))
    replace HS := Lib.hid ((Ev.blk hBbo).and HS.out)
    have lbo : wq4.heap.size ≤ bo := by omega
    try rw [hwq17]
    try rw [hbo]
    clear hzbo hBbo hbo hwq17
    have hrb := (HS.out.now).2.2.2.2.2.2.2.1.rb
    have hbo := (HS.out.now).1
    have hbg := (HS.out.now).2.2.2.2.2.2.1
    have HRB := Lib.hid hrb
    have HBO := Lib.hid hbo
    have HBG := Lib.hid hbg
    have qg := hbg.cell 2 rfl
    have lg := hbg.lt
    clear hrb hbo hbg
    go_wp2_with ((at_builtin; refine wpList_append_any rfl (.tmp 50) (.tmp 52) 24 rfl 48 iB (.agg #[.int .i64 0, .int .i64 0]) 2 16 Try.underlying24 hiB hzB hsB hbB rfl (by decide) _ 0 [] rfl (own_empty _ _ _ _ rfl) _ n3 (G.B.flatMap c2) rfl (HRB.out.alloc _) (one2 _) (by unfold maxLen; omega) (by omega) ?_; intro v4 w4 hap; have ho4 := hap.own; have lo4 := hap.low (B := wq17.heap.size) (by simp) (low_lit (Nat.le_refl _)); have hm4 := hap.modOld (Mod.alloc (fun _ => False) wq17 _) (low_lit (Nat.le_refl _)); simp only [Nat.zero_add, List.nil_append] at ho4 lo4; obtain ⟨rb, rc, rfl, lrb, lrb2⟩ := own_block (Own.rebase ho4 lo4) (by omega); have qa := ((HBO.out.keep hm4 (fun e => e)).cell 2 rfl); have qb := ((HBO.out.keep hm4 (fun e => e)).free 2); have lq : bo < w4.heap.size := (HBO.out.keep hm4 (fun e => e)).lt; clear hap))
    obtain ⟨ws, hws⟩ : ∃ W, World.setCell w4 ⟨bo, 2, none⟩ (.slice (some ⟨rb, 0, none⟩) n3 rc) = W := ⟨_, rfl⟩
    rw [hws]
    have lob : bo < rb := by have := HBO.out.lt; omega
    have k1 : Mod (fun _ => False) wq4 ws := by rw [← hws]; exact (((HS.out.now).2.1).of2 hm4).old (Mod.setCell (F := fun k => k = bo) _ ⟨bo, 2, none⟩ _ rfl) (fun i hi => by subst hi; exact lbo)
    have k2 : Blk ws bo 26 [.slice a1 n1 d1, .slice a2 n2 d2, .slice (some ⟨rb, 0, none⟩) n3 rc] := by rw [← hws]; exact (HBO.out.keep hm4 (fun e => e)).set 2 _
    have k3 : ws.ownsRow 0 48 2 (.slice (some ⟨rb, 0, none⟩) n3 rc) n3 (G.B.flatMap c2) := by rw [← hws]; exact Own.keep ho4 (Mod.setCell (F := fun k => k = bo) _ ⟨bo, 2, none⟩ _ rfl) (fun k hk e => by have : rb = k := Option.some.inj hk; omega)
    have lrp : wq4.heap.size ≤ rb := by have := ((HS.out.now).2.1).size; omega
    have K2 := Lib.hid k2
    have K3 := Lib.hid k3
    have K1 := Lib.hid k1
    clear k1 k2 k3 hws qa qb lq qg lg ho4 lo4 hm4 HRB HBO HBG lrb lrb2
    have hir : ∀ wx, (Instr.indexAt 24 (.slice (some ⟨rb, 0, none⟩) n3 rc) (.int .i64 (kx : Int))).run Try.prog wx = .ok (.pointer (some ⟨rb, ox, none⟩)) wx := fun wx => by have h := run_indexS (P := Try.prog) wx 24 48 iB 2 Try.underlying24 hiB hsB (some ⟨rb, 0, none⟩) n3 rc kx hk1 (by simp); have hp := (show elemA (some ⟨rb, 0, none⟩) kx 2 = ⟨rb, ox, none⟩ by unfold elemA; rw [Option.getD_some, Addr.add_lit, Nat.zero_add, HOX.out]); rw [hp] at h; exact h
    have HIR1 := Lib.hid hir
    clear hir
    have hir : ∀ wx, (Instr.indexAt 24 (.slice (some ⟨rb, 0, none⟩) n3 rc) (.int .i64 (ky : Int))).run Try.prog wx = .ok (.pointer (some ⟨rb, oy, none⟩)) wx := fun wx => by have h := run_indexS (P := Try.prog) wx 24 48 iB 2 Try.underlying24 hiB hsB (some ⟨rb, 0, none⟩) n3 rc ky hk2 (by simp); have hp := (show elemA (some ⟨rb, 0, none⟩) ky 2 = ⟨rb, oy, none⟩ by unfold elemA; rw [Option.getD_some, Addr.add_lit, Nat.zero_add, HOY.out]); rw [hp] at h; exact h
    have HIR2 := Lib.hid hir
    clear hir
    have HRX : Hid (∀ W, Tow rb 48 tgt (World.drew ws) W → Room W rb 48 ox ∧ Room W rb 48 (ox + 1) ∧ Room W rb 48 oy ∧ Room W rb 48 (oy + 1)) := Lib.hid fun W h => ⟨h.shp (Room.ofOwn (World.ownsRow.drew K3.out) _ (by have := HOX.out; omega)), h.shp (Room.ofOwn (World.ownsRow.drew K3.out) _ (by have := HOX.out; omega)), h.shp (Room.ofOwn (World.ownsRow.drew K3.out) _ (by have := HOY.out; omega)), h.shp (Room.ofOwn (World.ownsRow.drew K3.out) _ (by have := HOY.out; omega))⟩
    have HBO : Hid (∀ W, Tow rb 48 tgt (World.drew ws) W → Blk W bo 26 [.slice a1 n1 d1, .slice a2 n2 d2, .slice (some ⟨rb, 0, none⟩) n3 rc]) := Lib.hid fun W h => K2.out.drew.keep h.1 (fun e => by omega)
    have HPW : Hid (∀ W, Tow rb 48 tgt (World.drew ws) W → Mod (fun _ => False) wq4 W) := Lib.hid fun W h => (K1.out.thenDrew).old h.1 (fun i hi => by subst hi; exact lrp)
    go_upto_region 8 with fail
    have HSd := Lib.hid HS.out.drew
    refine wp_region_inv3 (act := ?actgo_r8_3) (Tow rb 48 tgt) (fun i => (go_r8_3_F bg bo rb rc kx ky ox oy x1b x1o x2b x2o n1 d1 n2 d2 n3 d3 u1 v1 u2 v2 a1 a2 a3 tgt).getD i (fun _ _ => True)) (fun i => go_r8_3_D.getD i []) (by kernel_rfl) (by kernel_rfl) (by kernel_rfl) (by kernel_rfl) (fun _ => Tow.refl _ _ _ _)
      (fun _ _ _ h k => h.trans k) ?hactgo_r8_3 (stable_list ?_) ?_ ?_
    case hactgo_r8_3 => intro vs; simp only [putAll, Nat.zero_add, Nat.reduceAdd, Act.put, List.setIfInBounds_toArray, List.set_cons_succ, List.set_cons_zero]; exact rfl
    · unfold go_r8_3_F
      exact stable_cons (stable_val _) <| stable_cons (stable_val _) <| stable_cons (stable_val _) <| stable_cons (stable_val _) <| stable_cons (stable_val _) <| stable_cons (stable_val _) <| stable_cons (stable_val _) <| stable_cons (stable_val _) <| stable_cons (stable_val _) <| stable_cons (stable_val _) <| stable_cons (stable_val _) <| stable_cons (stable_val _) <| stable_cons (stable_val _) <| stable_cons (stable_val _) <| stable_cons (stable_val _) <| stable_cons (stable_val _) <| stable_cons (stable_val _) <| stable_cons (Placed2.st) <| stable_cons (stable_val _) <| stable_cons (Placed2.st) <| stable_nil
    · refine opsOkA_cons ?_ ?_
      · intro K vs W hR hD hK
        clear hD
        try dsimp only at hK ⊢
        simp only [Act.put, List.setIfInBounds_toArray, List.set_cons_succ, List.set_cons_zero] at hK
        go_wp2
        exact hK _ _ rfl (Tow.refl _ _ _ _)
      refine opsOkA_cons ?_ ?_
      · intro K vs W hR hD hK
        have d0 : vs 0 = .pointer (some ⟨bo, 2, none⟩) := hD 0 (by decide)
        clear hD
        try dsimp only at hK ⊢
        simp only [Act.put, List.setIfInBounds_toArray, List.set_cons_succ, List.set_cons_zero] at hK
        generalize vs 0 = v0 at hK d0 ⊢
        subst v0
        have q0 := (HBO.out W hR).cell 2 rfl
        go_wp2
        exact hK _ _ rfl (Tow.refl _ _ _ _)
      refine opsOkA_cons ?_ ?_
      · intro K vs W hR hD hK
        clear hD
        try dsimp only at hK ⊢
        simp only [Act.put, List.setIfInBounds_toArray, List.set_cons_succ, List.set_cons_zero] at hK
        go_wp2
        exact hK _ _ rfl (Tow.refl _ _ _ _)
      refine opsOkA_cons ?_ ?_
      · intro K vs W hR hD hK
        clear hD
        try dsimp only at hK ⊢
        simp only [Act.put, List.setIfInBounds_toArray, List.set_cons_succ, List.set_cons_zero] at hK
        go_wp2
        exact hK _ _ rfl (Tow.refl _ _ _ _)
      refine opsOkA_cons ?_ ?_
      · intro K vs W hR hD hK
        have d3 : vs 3 = .pointer (some ⟨bo, 2, none⟩) := hD 3 (by decide)
        clear hD
        try dsimp only at hK ⊢
        simp only [Act.put, List.setIfInBounds_toArray, List.set_cons_succ, List.set_cons_zero] at hK
        generalize vs 3 = v3 at hK d3 ⊢
        subst v3
        have q0 := (HBO.out W hR).cell 2 rfl
        go_wp2
        exact hK _ _ rfl (Tow.refl _ _ _ _)
      refine opsOkA_cons ?_ ?_
      · intro K vs W hR hD hK
        clear hD
        try dsimp only at hK ⊢
        simp only [Act.put, List.setIfInBounds_toArray, List.set_cons_succ, List.set_cons_zero] at hK
        go_wp2
        exact hK _ _ rfl (Tow.refl _ _ _ _)
      refine opsOkA_cons ?_ ?_
      · intro K vs W hR hD hK
        clear hD
        try dsimp only at hK ⊢
        simp only [Act.put, List.setIfInBounds_toArray, List.set_cons_succ, List.set_cons_zero] at hK
        go_wp2
        exact hK _ _ rfl (Tow.refl _ _ _ _)
      refine opsOkA_cons ?_ ?_
      · intro K vs W hR hD hK
        have d6 : vs 6 = .pointer (some ⟨bg, 2, none⟩) := hD 6 (by decide)
        clear hD
        try dsimp only at hK ⊢
        simp only [Act.put, List.setIfInBounds_toArray, List.set_cons_succ, List.set_cons_zero] at hK
        generalize vs 6 = v6 at hK d6 ⊢
        subst v6
        have q0 := ((HSP.out.at (HPW.out W hR)).2.2.2.2.1).cell 2 rfl
        go_wp2
        exact hK _ _ rfl (Tow.refl _ _ _ _)
      refine opsOkA_cons ?_ ?_
      · intro K vs W hR hD hK
        clear hD
        try dsimp only at hK ⊢
        simp only [Act.put, List.setIfInBounds_toArray, List.set_cons_succ, List.set_cons_zero] at hK
        go_wp2
        exact hK _ _ rfl (Tow.refl _ _ _ _)
      refine opsOkA_cons ?_ ?_
      · intro K vs W hR hD hK
        have d7 : vs 7 = .slice a3 n3 d3 := hD 7 (by decide)
        have d8 : vs 8 = .int .i64 (ky : Int) := hD 8 (by decide)
        clear hD
        try dsimp only at hK ⊢
        simp only [Act.put, List.setIfInBounds_toArray, List.set_cons_succ, List.set_cons_zero] at hK
        generalize vs 7 = v7 at hK d7 ⊢
        subst v7
        generalize vs 8 = v8 at hK d8 ⊢
        subst v8
        have hix := HIx2.out
        go_wp2_with fail
        exact hK _ _ rfl (Tow.refl _ _ _ _)
      refine opsOkA_cons ?_ ?_
      · intro K vs W hR hD hK
        have d9 : vs 9 = .pointer (some ⟨x2b, x2o, none⟩) := hD 9 (by decide)
        clear hD
        try dsimp only at hK ⊢
        simp only [Act.put, List.setIfInBounds_toArray, List.set_cons_succ, List.set_cons_zero] at hK
        generalize vs 9 = v9 at hK d9 ⊢
        subst v9
        have c0 := (HSP.out.at (HPW.out W hR)).2.1
        have c1 := (HSP.out.at (HPW.out W hR)).1
        go_wp2
        exact hK _ _ rfl (Tow.refl _ _ _ _)
      refine opsOkA_cons ?_ ?_
      · intro K vs W hR hD hK
        clear hD
        try dsimp only at hK ⊢
        simp only [Act.put, List.setIfInBounds_toArray, List.set_cons_succ, List.set_cons_zero] at hK
        go_wp2
        exact hK _ _ rfl (Tow.refl _ _ _ _)
      refine opsOkA_cons ?_ ?_
      · intro K vs W hR hD hK
        have d11 : vs 11 = .pointer (some ⟨bg, 2, none⟩) := hD 11 (by decide)
        clear hD
        try dsimp only at hK ⊢
        simp only [Act.put, List.setIfInBounds_toArray, List.set_cons_succ, List.set_cons_zero] at hK
        generalize vs 11 = v11 at hK d11 ⊢
        subst v11
        have q0 := ((HSP.out.at (HPW.out W hR)).2.2.2.2.1).cell 2 rfl
        go_wp2
        exact hK _ _ rfl (Tow.refl _ _ _ _)
      refine opsOkA_cons ?_ ?_
      · intro K vs W hR hD hK
        clear hD
        try dsimp only at hK ⊢
        simp only [Act.put, List.setIfInBounds_toArray, List.set_cons_succ, List.set_cons_zero] at hK
        go_wp2
        exact hK _ _ rfl (Tow.refl _ _ _ _)
      refine opsOkA_cons ?_ ?_
      · intro K vs W hR hD hK
        have d12 : vs 12 = .slice a3 n3 d3 := hD 12 (by decide)
        have d13 : vs 13 = .int .i64 (kx : Int) := hD 13 (by decide)
        clear hD
        try dsimp only at hK ⊢
        simp only [Act.put, List.setIfInBounds_toArray, List.set_cons_succ, List.set_cons_zero] at hK
        generalize vs 12 = v12 at hK d12 ⊢
        subst v12
        generalize vs 13 = v13 at hK d13 ⊢
        subst v13
        have hix := HIx1.out
        go_wp2_with fail
        exact hK _ _ rfl (Tow.refl _ _ _ _)
      refine opsOkA_cons ?_ ?_
      · intro K vs W hR hD hK
        have d14 : vs 14 = .pointer (some ⟨x1b, x1o, none⟩) := hD 14 (by decide)
        clear hD
        try dsimp only at hK ⊢
        simp only [Act.put, List.setIfInBounds_toArray, List.set_cons_succ, List.set_cons_zero] at hK
        generalize vs 14 = v14 at hK d14 ⊢
        subst v14
        have c0 := (HSP.out.at (HPW.out W hR)).2.2.2.1
        have c1 := (HSP.out.at (HPW.out W hR)).2.2.1
        go_wp2
        exact hK _ _ rfl (Tow.refl _ _ _ _)
      refine opsOkA_cons ?_ ?_
      · intro K vs W hR hD hK
        have d1 : vs 1 = .slice (some ⟨rb, 0, none⟩) n3 rc := hD 1 (by decide)
        have d2 : vs 2 = .int .i64 (kx : Int) := hD 2 (by decide)
        clear hD
        try dsimp only at hK ⊢
        simp only [Act.put, List.setIfInBounds_toArray, List.set_cons_succ, List.set_cons_zero] at hK
        generalize vs 1 = v1 at hK d1 ⊢
        subst v1
        generalize vs 2 = v2 at hK d2 ⊢
        subst v2
        have hix := HIR1.out
        go_wp2_with fail
        exact hK _ _ rfl (Tow.refl _ _ _ _)
      refine opsOkA_cons ?_ ?_
      · intro K vs W hR hD hK
        have d10 : vs 10 = .agg #[.int .i64 u2, .int .i64 v2] := hD 10 (by decide)
        have d16 : vs 16 = .pointer (some ⟨rb, ox, none⟩) := hD 16 (by decide)
        clear hD
        try dsimp only at hK ⊢
        simp only [Act.put, List.setIfInBounds_toArray, List.set_cons_succ, List.set_cons_zero] at hK
        generalize vs 10 = v10 at hK d10 ⊢
        subst v10
        generalize vs 16 = v16 at hK d16 ⊢
        subst v16
        have hrx := HRX.out W hR
        obtain ⟨y0, q0⟩ := hrx.1.cell
        obtain ⟨y1, q1⟩ := hrx.2.1.cell
        have f0 := hrx.1.free
        have f1 := hrx.2.1.free
        have hp := placed_set hrx.1 hrx.2.1 T1.out.1 T1.out.2
        have HP := Lib.hid hp
        clear hp hrx
        go_wp2
        exact hK undef _ HP.out.1 HP.out.2
      refine opsOkA_cons ?_ ?_
      · intro K vs W hR hD hK
        have d4 : vs 4 = .slice (some ⟨rb, 0, none⟩) n3 rc := hD 4 (by decide)
        have d5 : vs 5 = .int .i64 (ky : Int) := hD 5 (by decide)
        clear hD
        try dsimp only at hK ⊢
        simp only [Act.put, List.setIfInBounds_toArray, List.set_cons_succ, List.set_cons_zero] at hK
        generalize vs 4 = v4 at hK d4 ⊢
        subst v4
        generalize vs 5 = v5 at hK d5 ⊢
        subst v5
        have hix := HIR2.out
        go_wp2_with fail
        exact hK _ _ rfl (Tow.refl _ _ _ _)
      refine opsOkA_cons ?_ ?_
      · intro K vs W hR hD hK
        have d15 : vs 15 = .agg #[.int .i64 u1, .int .i64 v1] := hD 15 (by decide)
        have d18 : vs 18 = .pointer (some ⟨rb, oy, none⟩) := hD 18 (by decide)
        clear hD
        try dsimp only at hK ⊢
        simp only [Act.put, List.setIfInBounds_toArray, List.set_cons_succ, List.set_cons_zero] at hK
        generalize vs 15 = v15 at hK d15 ⊢
        subst v15
        generalize vs 18 = v18 at hK d18 ⊢
        subst v18
        have hrx := HRX.out W hR
        obtain ⟨y0, q0⟩ := hrx.2.2.1.cell
        obtain ⟨y1, q1⟩ := hrx.2.2.2.cell
        have f0 := hrx.2.2.1.free
        have f1 := hrx.2.2.2.free
        have hp := placed_set hrx.2.2.1 hrx.2.2.2 T2.out.1 T2.out.2
        have HP := Lib.hid hp
        clear hp hrx
        go_wp2
        exact hK undef _ HP.out.1 HP.out.2
      exact opsOkA_nil
    · intro vs wq18 hR hF
      have d17 : (Placed2 rb 48 tgt ox) (vs 17) wq18 := hF 17 (by decide)
      have d19 : (Placed2 rb 48 tgt oy) (vs 19) wq18 := hF 19 (by decide)
      clear hF
      try dsimp only
      generalize vs 17 = v17 at d17 ⊢
      generalize vs 19 = v19 at d19 ⊢
      clear HSd
      have k1 := HPW.out _ hR
      have k2 := HBO.out _ hR
      have k3 : World.ownsRow wq18 0 48 2 (.slice (some ⟨rb, 0, none⟩) n3 rc) n3 tgt := by
        refine hR.done (World.ownsRow.drew K3.out) (by rw [← HTG.out, c2_len, c2_len, swp_len]) fun k hk => ?_
        obtain ⟨i, b, hi, rfl, hbb⟩ := fm_len G.B k (by rw [hb.out]; exact hk)
        obtain ⟨⟨_, ua, pa, qa⟩, ⟨_, ub, pb, qb⟩⟩ := d17
        obtain ⟨⟨_, uc, pc, qc⟩, ⟨_, ud, pd, qd⟩⟩ := d19
        have hox := HOX.out
        have hoy := HOY.out
        by_cases h1 : i = kx
        · right; subst h1; rw [hox]
          rcases hbb with rfl | rfl
          · rw [Nat.add_zero, qa, pa]
          · rw [qb, pb]
        by_cases h2 : i = ky
        · right; subst h2; rw [hoy]
          rcases hbb with rfl | rfl
          · rw [Nat.add_zero, qc, pc]
          · rw [qd, pd]
        left; rw [← HTG.out]; exact fm_eq _ _ i hi (swp_other G.B kx ky i h1 h2).symm b hbb
      replace HS := Lib.hid ((Ev.blk k2).and ((Ev.own k3).and (HSP.out.step k1)))
      clear k1 k2 k3 hR HSP HRX HBO HPW K1 K2 K3 d17 d19 HIR1 HIR2
      have hbbg := (HS.out.now).2.2.2.2.2.2.1
      have qbg_0 := hbbg.cell 0 rfl
      have qbg_1 := hbbg.cell 1 rfl
      have qbg_2 := hbbg.cell 2 rfl
      have lbg := hbbg.lt
      clear hbbg
      have hbbo := (HS.out.now).1
      have qbo_0 := hbbo.cell 0 rfl
      have qbo_1 := hbbo.cell 1 rfl
      have qbo_2 := hbbo.cell 2 rfl
      have lbo := hbbo.lt
      clear hbbo
      by_cases hxy : kx = ky
      case neg =>
        have z5 : ((kx : Int) == (ky : Int)) = false := by rw [beq_eq_false_iff_ne]; omega
        have z5b : (kx == ky) = false := by rw [beq_eq_false_iff_ne]; exact hxy
        go_wp2_with fail
        refine (new_no ⟨G.N, G.E, swp G.B kx ky⟩ (swp_not hmay.out kx ky hlx hly hxy) _ a1 n1 d1 a2 n2 d2 _ n3 rc ⟨hn.out, he.out, by show (swp G.B kx ky).length = n3; rw [swp_len]; exact hb.out, (HS.out.now).2.2.2.2.2.2.2.1.rn, (HS.out.now).2.2.2.2.2.2.2.1.re, by show Rd _ 2 _ _ ((swp G.B kx ky).flatMap c2); rw [HTG.out]; exact Rd.ofOwn ((HS.out.now).2.1)⟩).mono ?_
        rintro e wq19 ⟨rfl, hmm⟩
        replace HS := Lib.hid (HS.out.step hmm)
        clear hmm
        have HXY := Lib.hid hxy
        clear hxy
        clear qbg_0 qbg_1 qbg_2 lbg qbo_0 qbo_1 qbo_2 lbo
        have hbbg := (HS.out.now).2.2.2.2.2.2.1
        have qbg_0 := hbbg.cell 0 rfl
        have qbg_1 := hbbg.cell 1 rfl
        have qbg_2 := hbbg.cell 2 rfl
        have lbg := hbbg.lt
        clear hbbg
        go_upto_region 13 with fail
        have HSP := HS
        replace HS := Lib.hid ((Ev.mod wq19).and HS.out)
        clear qbg_0 qbg_1 qbg_2 lbg
        obtain ⟨bq, hbq⟩ : ∃ b, wq19.heap.size = b := ⟨_, rfl⟩
        obtain ⟨wq20, hwq20⟩ : ∃ W, World.alloc wq19 (.cells #[.slice a1 n1 d1, .slice a2 n2 d2, .slice a3 n3 d3] 26) = W := ⟨_, rfl⟩
        have hBbq : Blk wq20 bq 26 [.slice a1 n1 d1, .slice a2 n2 d2, .slice a3 n3 d3] := by rw [← hwq20, ← hbq]; exact Blk.new _ 26 [.slice a1 n1 d1, .slice a2 n2 d2, .slice a3 n3 d3]
        have hzbq : wq20.heap.size = bq + 1 := by rw [← hwq20, ← hbq]; exact heap_size_alloc _ _
        replace HS := Lib.hid (HS.out.step (w' := wq20) (by rw [← hwq20]; exact Mod.alloc _ _ _))
        replace HS := Lib.hid ((Ev.blk hBbq).and HS.out)
        have lbq : wq19.heap.size ≤ bq := by omega
        try rw [hwq20]
        try rw [hbq]
        clear hzbq hBbq hbq hwq20
        have hbbg := (HS.out.now).2.2.2.2.2.2.2.2.1
        have qbg_0 := hbbg.cell 0 rfl
        have qbg_1 := hbbg.cell 1 rfl
        have qbg_2 := hbbg.cell 2 rfl
        have lbg := hbbg.lt
        clear hbbg
        have hbbq := (HS.out.now).1
        have qbq_0 := hbbq.cell 0 rfl
        have qbq_1 := hbbq.cell 1 rfl
        have qbq_2 := hbbq.cell 2 rfl
        have lbq := hbbq.lt
        clear hbbq
        have hre := (HS.out.now).2.2.2.2.2.2.2.2.2.1.re
        have hbq := (HS.out.now).1
        have hbg := (HS.out.now).2.2.2.2.2.2.2.2.1
        have lB : bq < wq20.heap.size := hbq.lt
        have HRE := Lib.hid hre
        have HBQ := Lib.hid hbq
        have HBG := Lib.hid hbg
        clear hre hbq hbg
        clear qbg_0 qbg_1 qbg_2 lbg qbq_0 qbq_1 qbq_2 lbq
        have qg0 := HBG.out.cell 1 rfl
        have lg0 := HBG.out.lt
        go_wp2_with (first | (at_builtin; refine wpList_append_any rfl (.tmp 85) (.tmp 87) 23 rfl 41 iE (.agg #[.int .i64 0, .int .i64 0, .int .i64 0]) 3 24 Try.underlying23 hiE hzE hsE hbE rfl (by decide) _ 0 [] rfl (own_empty _ _ _ _ rfl) _ n2 (G.E.flatMap c3) rfl (HRE.out.alloc _) (one3 _) (by unfold maxLen; omega) (by omega) ?_; intro v4 w4 hap; obtain ⟨a4, c4, rfl⟩ := hap.form; have ho4 := hap.own; have lo4 := hap.low (B := wq20.heap.size) (by simp) (low_lit (Nat.le_refl _)); have hm4 := hap.modOld (Mod.alloc (fun _ => False) wq20 _) (low_lit (Nat.le_refl _)); simp only [Nat.zero_add, List.nil_append] at ho4 lo4; have qa := ((HBQ.out.keep hm4 (fun e => e)).cell 1 rfl); have qb := ((HBQ.out.keep hm4 (fun e => e)).free 1); have qg := ((HBG.out.keep hm4 (fun e => e)).cell 1 rfl); have lq : bq < w4.heap.size := (HBQ.out.keep hm4 (fun e => e)).lt; clear hap) | (at_builtin; refine wpList_append_any rfl (.tmp 88) (.tmp 90) 23 rfl 41 iE (.agg #[.int .i64 0, .int .i64 0, .int .i64 0]) 3 24 Try.underlying23 hiE hzE hsE hbE rfl (by decide) _ n2 _ rfl (World.ownsRow.alloc ho4 _) _ 1 (c3 (0, 0, 1)) rfl (Rd.litN _ 3 _ _ _ 1 rfl rfl (by decide)) (by intro u hu; simp [c3] at hu; rcases hu with rfl | rfl <;> rfl) (by unfold maxLen; omega) (by omega) ?_; intro v5 w5 hap; obtain ⟨a5, c5, rfl⟩ := hap.form; have ho5 := hap.own; have lo5 := hap.low (B := wq20.heap.size) (by have := hm4.size; simp; omega) lo4; have hm5 := hap.modOld (hm4.thenAlloc _) lo4; have qa5 := ((HBQ.out.keep hm5 (fun e => e)).cell 1 rfl); have qb5 := ((HBQ.out.keep hm5 (fun e => e)).free 1); have qc5 := ((HBQ.out.keep hm5 (fun e => e)).cell 0 rfl); have qd5 := ((HBQ.out.keep hm5 (fun e => e)).cell 2 rfl); have lq5 : bq < w5.heap.size := (HBQ.out.keep hm5 (fun e => e)).lt; clear hap))
        obtain ⟨ws, hws⟩ : ∃ W, World.setCell w5 ⟨bq, 1, none⟩ (.slice a5 (n2 + 1) c5) = W := ⟨_, rfl⟩
        rw [hws]
        have k1 : Mod (fun _ => False) wq19 ws := by rw [← hws]; exact (((HS.out.now).2.1).of2 hm5).old (Mod.setCell (F := fun k => k = bq) _ ⟨bq, 1, none⟩ _ rfl) (fun i hi => by subst hi; exact lbq)
        have k2 : Blk ws bq 26 [.slice a1 n1 d1, .slice a5 (n2 + 1) c5, .slice a3 n3 d3] := by rw [← hws]; exact (HBQ.out.keep hm5 (fun e => e)).set 1 _
        have k3 : ws.ownsRow 0 41 3 (.slice a5 (n2 + 1) c5) (n2 + 1) ((G.E ++ [(0, 0, 1)]).flatMap c3) := by rw [← hws, c3_snoc']; exact Own.keep ho5 (Mod.setCell (F := fun k => k = bq) _ ⟨bq, 1, none⟩ _ rfl) (fun k hk e => by have := lo5 k hk; omega)
        replace HS := Lib.hid ((Ev.blk k2).and ((Ev.own k3).and (HSP.out.step k1)))
        clear k1 k2 k3 hws HSP qa qb qg lq qa5 qb5 qc5 qd5 lq5 ho4 lo4 hm4 ho5 lo5 hm5 HRE HBQ HBG qg0 lg0
        have hbbg := (HS.out.now).2.2.2.2.2.2.2.2.1
        have qbg_0 := hbbg.cell 0 rfl
        have qbg_1 := hbbg.cell 1 rfl
        have qbg_2 := hbbg.cell 2 rfl
        have lbg := hbbg.lt
        clear hbbg
        have hbbq := (HS.out.now).1
        have qbq_0 := hbbq.cell 0 rfl
        have qbq_1 := hbbq.cell 1 rfl
        have qbq_2 := hbbq.cell 2 rfl
        have lbq := hbbq.lt
        clear hbbq
        refine (new_ok ⟨G.N, G.E ++ [(0, 0, 1)], G.B⟩ (may_edge hmay.out (by have := hfew.out.1; omega) (by have := hfew.out.2.1; omega)) _ a1 n1 d1 a5 (n2 + 1) c5 a3 n3 d3 ⟨hn.out, by simp [he.out], hb.out, (HS.out.now).2.2.2.2.2.2.2.2.2.1.rn, Rd.ofOwn ((HS.out.now).2.1), (HS.out.now).2.2.2.2.2.2.2.2.2.1.rb⟩).mono ?_
        rintro e wq21 ⟨p2, B2, C2, rfl, hgo, hmm⟩
        replace HS := Lib.hid (HS.out.step hmm)
        clear hmm
        clear qbg_0 qbg_1 qbg_2 lbg qbq_0 qbq_1 qbq_2 lbq
        have hbbg := (HS.out.now).2.2.2.2.2.2.2.2.1
        have qbg_0 := hbbg.cell 0 rfl
        have qbg_1 := hbbg.cell 1 rfl
        have qbg_2 := hbbg.cell 2 rfl
        have lbg := hbbg.lt
        clear hbbg
        have hbbq := (HS.out.now).1
        have qbq_0 := hbbq.cell 0 rfl
        have qbq_1 := hbbq.cell 1 rfl
        have qbq_2 := hbbq.cell 2 rfl
        have lbq := hbbq.lt
        clear hbbq
        clear hgo
        clear qbg_0 qbg_1 qbg_2 lbg qbq_0 qbq_1 qbq_2 lbq
        have hbbg := (HS.out.now).2.2.2.2.2.2.2.2.1
        have qbg_0 := hbbg.cell 0 rfl
        have qbg_1 := hbbg.cell 1 rfl
        have qbg_2 := hbbg.cell 2 rfl
        have lbg := hbbg.lt
        clear hbbg
        go_upto_region 16 with fail
        have HSP := HS
        replace HS := Lib.hid ((Ev.mod wq21).and HS.out)
        clear qbg_0 qbg_1 qbg_2 lbg
        obtain ⟨bz, hbz⟩ : ∃ b, wq21.heap.size = b := ⟨_, rfl⟩
        obtain ⟨wq22, hwq22⟩ : ∃ W, World.alloc wq21 (.cells #[.slice a1 n1 d1, .slice a2 n2 d2, .slice a3 n3 d3] 26) = W := ⟨_, rfl⟩
        have hBbz : Blk wq22 bz 26 [.slice a1 n1 d1, .slice a2 n2 d2, .slice a3 n3 d3] := by rw [← hwq22, ← hbz]; exact Blk.new _ 26 [.slice a1 n1 d1, .slice a2 n2 d2, .slice a3 n3 d3]
        have hzbz : wq22.heap.size = bz + 1 := by rw [← hwq22, ← hbz]; exact heap_size_alloc _ _
        replace HS := Lib.hid (HS.out.step (w' := wq22) (by rw [← hwq22]; exact Mod.alloc _ _ _))
        replace HS := Lib.hid ((Ev.blk hBbz).and HS.out)
        have lbz : wq21.heap.size ≤ bz := by omega
        try rw [hwq22]
        try rw [hbz]
        clear hzbz hBbz hbz hwq22
        obtain ⟨B0, hB0⟩ : ∃ n, wq22.heap.size = n := ⟨_, rfl⟩
        have lzB : bz < B0 := by rw [← hB0]; exact ((HS.out.now).1).lt
        have HB0 := Lib.hid hB0
        clear hB0
        have HOLD : Hid (∀ W, Mod (fun k => B0 ≤ k) (World.drew wq22) W → Mod (fun _ => False) (World.drew wq22) W) := Lib.hid fun W h => h.mono (fun i hi e => by have := HB0.out; simp at hi; omega)
        have HSd0 := HS
        go_upto_region 16 with fail
        have HSd := Lib.hid HS.out.drew
        have HST : ∀ (ix : Nat) (vx : Value) (wx wy : World), factOf (go_r16_4_F B0 bg bz n1 d1 n2 d2 n3 d3 a1 a2 a3 G) ix vx wx → Mod (fun _ => False) wx wy → factOf (go_r16_4_F B0 bg bz n1 d1 n2 d2 n3 d3 a1 a2 a3 G) ix vx wy := by
          refine fact_stays ?_
          intro f hf
          simp only [go_r16_4_F, List.mem_cons, List.not_mem_nil, or_false] at hf
          rcases hf with rfl | rfl | rfl | rfl | rfl | rfl | rfl | rfl | rfl | rfl | rfl <;> first | exact stable_val _ | exact stable_new | exact EmpB.st | exact OwnB.st | exact LitB.st
        have HSO : ∀ px ∈ (go_r16_4_F B0 bg bz n1 d1 n2 d2 n3 d3 a1 a2 a3 G), px.1 = true → ∀ (vx : Value) (wx wy : World), px.2 vx wx → px.2 vx wy := by
          intro f hf
          simp only [go_r16_4_F, List.mem_cons, List.not_mem_nil, or_false] at hf
          rcases hf with rfl | rfl | rfl | rfl | rfl | rfl | rfl | rfl | rfl | rfl | rfl <;> first | exact fun _ _ _ _ h => h | (intro h; cases h)
        refine wp_region_use (Mod (fun k => B0 ≤ k)) (factOf (go_r16_4_F B0 bg bz n1 d1 n2 d2 n3 d3 a1 a2 a3 G)) (fun i => go_r16_4_C.getD i 1000) (fun i => go_r16_4_D.getD i []) 11 _ rfl rfl (by kernel_rfl) (by kernel_rfl) (by kernel_rfl) (by kernel_rfl) (by kernel_rfl) (fun _ => Mod.refl _ _)
          (fun _ _ _ h k => h.trans k (fun _ _ e => e) (fun _ _ e => e)) ?_ ?_
        · refine opsOkU_cons ?_ ?_
          · intro K vs W hR hD hK
            clear hD
            simp only [putAll, Nat.zero_add, Nat.reduceAdd, Act.put, List.setIfInBounds_toArray, List.set_cons_succ, List.set_cons_zero] at hK ⊢
            have hz := (show B0 ≤ W.heap.size from (by have h1 := HB0.out; have h2 := hR.size; simp at h2; omega))
            go_wp2
            exact hK _ _ ⟨_, rfl, Own.rebase (own_empty W 48 2 W.heap.size rfl) (low_lit hz)⟩ (fun j u _ h => HST j u _ _ h (Mod.alloc _ _ _)) (Mod.alloc _ _ _)
          refine opsOkU_cons ?_ ?_
          · intro K vs W hR hD hK
            clear hD
            simp only [putAll, Nat.zero_add, Nat.reduceAdd, Act.put, List.setIfInBounds_toArray, List.set_cons_succ, List.set_cons_zero] at hK ⊢
            go_wp2
            exact hK _ _ rfl (fun _ _ _ h => h) (Mod.refl _ _)
          refine opsOkU_cons ?_ ?_
          · intro K vs W hR hD hK
            have d1 : vs 1 = .pointer (some ⟨bg, 2, none⟩) := hD 1 (by decide)
            clear hD
            simp only [putAll, Nat.zero_add, Nat.reduceAdd, Act.put, List.setIfInBounds_toArray, List.set_cons_succ, List.set_cons_zero] at hK ⊢
            generalize vs 1 = v1 at hK d1 ⊢
            subst v1
            have q0 := ((HSd.out.at (HOLD.out W hR)).2.2.2.2.2.2.2.2.2.2.1).cell 2 rfl
            go_wp2
            exact hK _ _ rfl (fun _ _ _ h => h) (Mod.refl _ _)
          refine opsOkU_cons ?_ ?_
          · intro K vs W hR hD hK
            have d0 : (EmpB B0) (vs 0) W := hD 0 (by decide)
            have d2 : vs 2 = .slice a3 n3 d3 := hD 2 (by decide)
            clear hD
            simp only [putAll, Nat.zero_add, Nat.reduceAdd, Act.put, List.setIfInBounds_toArray, List.set_cons_succ, List.set_cons_zero] at hK ⊢
            generalize vs 0 = v0 at hK d0 ⊢
            generalize vs 2 = v2 at hK d2 ⊢
            subst v2
            have hz := (show B0 ≤ W.heap.size from (by have h1 := HB0.out; have h2 := hR.size; simp at h2; omega))
            have hrb := ((HSd.out.at (HOLD.out W hR)).2.2.2.2.2.2.2.2.2.2.2.1).rb
            obtain ⟨ae, rfl, ho⟩ := d0
            go_wp2_with (at_builtin; refine wpList_append_any rfl (.tmp 99) (.tmp 101) 24 rfl 48 iB (.agg #[.int .i64 0, .int .i64 0]) 2 16 Try.underlying24 hiB hzB hsB hbB rfl (by decide) _ 0 ([]) rfl (Own.base ho (Nat.zero_le _)) _ n3 (G.B.flatMap c2) rfl hrb (one2 _) (by unfold maxLen; omega) (by omega) ?_; intro v' w' hap)
            obtain ⟨a4, c4, rfl⟩ := hap.form
            have ho4 := hap.own
            have lo4 := hap.low hz (fun k hk => (ho.lt k hk).1)
            have hm4 := hap.still ae 0 0 rfl (by omega)
            simp only [Nat.zero_add, List.nil_append] at ho4 lo4 ⊢
            exact hK _ _ ⟨a4, c4, rfl, fun _ _ => trivial, Own.rebase ho4 lo4⟩ (fun j u _ h => HST j u _ _ h hm4) (hm4.mono (fun _ _ e => e.elim))
          refine opsOkU_cons ?_ ?_
          · intro K vs W hR hD hK
            clear hD
            simp only [putAll, Nat.zero_add, Nat.reduceAdd, Act.put, List.setIfInBounds_toArray, List.set_cons_succ, List.set_cons_zero] at hK ⊢
            go_wp2
            exact hK _ _ rfl (fun _ _ _ h => h) (Mod.refl _ _)
          refine opsOkU_cons ?_ ?_
          · intro K vs W hR hD hK
            have d4 : vs 4 = .pointer (some ⟨bg, 1, none⟩) := hD 4 (by decide)
            clear hD
            simp only [putAll, Nat.zero_add, Nat.reduceAdd, Act.put, List.setIfInBounds_toArray, List.set_cons_succ, List.set_cons_zero] at hK ⊢
            generalize vs 4 = v4 at hK d4 ⊢
            subst v4
            have q0 := ((HSd.out.at (HOLD.out W hR)).2.2.2.2.2.2.2.2.2.2.1).cell 1 rfl
            go_wp2
            exact hK _ _ rfl (fun _ _ _ h => h) (Mod.refl _ _)
          refine opsOkU_cons ?_ ?_
          · intro K vs W hR hD hK
            have d5 : vs 5 = .slice a2 n2 d2 := hD 5 (by decide)
            clear hD
            simp only [putAll, Nat.zero_add, Nat.reduceAdd, Act.put, List.setIfInBounds_toArray, List.set_cons_succ, List.set_cons_zero] at hK ⊢
            generalize vs 5 = v5 at hK d5 ⊢
            subst v5
            go_wp2_with fail
            exact hK _ _ rfl (fun _ _ _ h => h) (Mod.refl _ _)
          refine opsOkU_cons ?_ ?_
          · intro K vs W hR hD hK
            have d6 : vs 6 = .int .i64 (n2 : Int) := hD 6 (by decide)
            clear hD
            simp only [putAll, Nat.zero_add, Nat.reduceAdd, Act.put, List.setIfInBounds_toArray, List.set_cons_succ, List.set_cons_zero] at hK ⊢
            generalize vs 6 = v6 at hK d6 ⊢
            subst v6
            go_wp2
            exact hK _ _ rfl (fun _ _ _ h => h) (Mod.refl _ _)
          refine opsOkU_cons ?_ ?_
          · intro K vs W hR hD hK
            have d7 : vs 7 = .agg #[.int .i64 0, .int .i64 (n2 : Int)] := hD 7 (by decide)
            clear hD
            simp only [putAll, Nat.zero_add, Nat.reduceAdd, Act.put, List.setIfInBounds_toArray, List.set_cons_succ, List.set_cons_zero] at hK ⊢
            generalize vs 7 = v7 at hK d7 ⊢
            subst v7
            go_wp2
            exact hK _ _ ⟨_, rfl, by exact Rd.litN _ _ _ _ _ 1 rfl rfl (by decide)⟩ (fun j u _ h => HST j u _ _ h (Mod.alloc _ _ _)) (Mod.alloc _ _ _)
          refine opsOkU_cons ?_ ?_
          · intro K vs W hR hD hK
            have d3 : (OwnB B0 n3 (G.B.flatMap c2)) (vs 3) W := hD 3 (by decide)
            have d8 : (LitB (0, (n2 : Int))) (vs 8) W := hD 8 (by decide)
            clear hD
            simp only [putAll, Nat.zero_add, Nat.reduceAdd, Act.put, List.setIfInBounds_toArray, List.set_cons_succ, List.set_cons_zero] at hK ⊢
            generalize vs 3 = v3 at hK d3 ⊢
            generalize vs 8 = v8 at hK d8 ⊢
            have hz := (show B0 ≤ W.heap.size from (by have h1 := HB0.out; have h2 := hR.size; simp at h2; omega))
            obtain ⟨ae, ce, rfl, _, ho⟩ := d3
            obtain ⟨pl, rfl, hl⟩ := d8
            go_wp2_with (at_builtin; refine wpList_append_any rfl (.tmp 102) (.tmp 107) 24 rfl 48 iB (.agg #[.int .i64 0, .int .i64 0]) 2 16 Try.underlying24 hiB hzB hsB hbB rfl (by decide) _ n3 (G.B.flatMap c2) rfl (Own.base ho (Nat.zero_le _)) _ 1 (c2 (0, (n2 : Int))) rfl hl (by intro u hu; simp [c2] at hu; rcases hu with rfl | rfl <;> rfl) (by unfold maxLen; omega) (by omega) ?_; intro v' w' hap)
            obtain ⟨a4, c4, rfl⟩ := hap.form
            have ho4 := hap.own
            have lo4 := hap.low hz (fun k hk => (ho.lt k hk).1)
            exact hK _ _ ⟨a4, c4, rfl, fun _ _ => trivial, by rw [c2_snoc']; exact Own.rebase ho4 lo4⟩ (fact_solid HSO 9 (by kernel_rfl)) (hap.mod.mono (fun k _ e => (ho.lt k e).1))
          refine opsOkU_cons ?_ ?_
          · intro K vs W hR hD hK
            clear hD
            simp only [putAll, Nat.zero_add, Nat.reduceAdd, Act.put, List.setIfInBounds_toArray, List.set_cons_succ, List.set_cons_zero] at hK ⊢
            go_wp2
            exact hK _ _ rfl (fun _ _ _ h => h) (Mod.refl _ _)
          exact opsOkU_nil
        · intro vs wq23 hR hF
          have d9 : (OwnB B0 (n3 + 1) ((G.B ++ [(0, (n2 : Int))]).flatMap c2)) (vs 9) wq23 := hF 9 (by decide) (by decide)
          have d10 : vs 10 = .pointer (some ⟨bz, 2, none⟩) := hF 10 (by decide) (by decide)
          clear hF
          simp only [putAll, Nat.zero_add, Nat.reduceAdd, Act.put, List.setIfInBounds_toArray, List.set_cons_succ, List.set_cons_zero]
          generalize vs 9 = v9 at d9 ⊢
          generalize vs 10 = v10 at d10 ⊢
          subst v10
          obtain ⟨a6, c6, rfl, _, ho6⟩ := d9
          have hmw : Mod (fun _ => False) wq22 wq23 := (Mod.drew _ _).of2 (HOLD.out _ hR)
          have hbz := ((HS.out.now).1).keep hmw (fun e => e)
          have qa := hbz.cell 2 rfl
          have qb := hbz.free 2
          have qc := hbz.cell 0 rfl
          have qd := hbz.cell 1 rfl
          have lq := hbz.lt
          go_wp2_with fail
          obtain ⟨ws, hws⟩ : ∃ W, World.setCell wq23 ⟨bz, 2, none⟩ (.slice a6 (n3 + 1) c6) = W := ⟨_, rfl⟩
          rw [hws]
          have k1 : Mod (fun _ => False) wq21 ws := by rw [← hws]; exact (((HS.out.now).2.1).of2 hmw).old (Mod.setCell (F := fun k => k = bz) _ ⟨bz, 2, none⟩ _ rfl) (fun i hi => by subst hi; exact lbz)
          have k2 : Blk ws bz 26 [.slice a1 n1 d1, .slice a2 n2 d2, .slice a6 (n3 + 1) c6] := by rw [← hws]; exact hbz.set 2 _
          have k3 : ws.ownsRow B0 48 2 (.slice a6 (n3 + 1) c6) (n3 + 1) ((G.B ++ [(0, (n2 : Int))]).flatMap c2) := by rw [← hws]; exact Own.keep ho6 (Mod.setCell (F := fun k => k = bz) _ ⟨bz, 2, none⟩ _ rfl) (fun k hk e => by have := (ho6.lt k hk).1; omega)
          replace HS := Lib.hid ((Ev.blk k2).and ((Ev.own k3).and (HSP.out.step k1)))
          clear k1 k2 k3 hws HSP qa qb qc qd lq ho6 hmw hbz HSd HOLD hR HSd0
          have hbbz := (HS.out.now).1
          have qbz_0 := hbbz.cell 0 rfl
          have qbz_1 := hbbz.cell 1 rfl
          have qbz_2 := hbbz.cell 2 rfl
          have lbz := hbbz.lt
          clear hbbz
          have hno : ¬ May ⟨G.N, G.E, G.B ++ [(0, (n2 : Int))]⟩ := by have h := not_may_ban G; rw [he.out] at h; exact h
          have HNO := Lib.hid hno
          clear hno
          refine (new_no ⟨G.N, G.E, G.B ++ [(0, (n2 : Int))]⟩ HNO.out _ a1 n1 d1 a2 n2 d2 a6 (n3 + 1) c6 ⟨hn.out, he.out, by simp [hb.out], (HS.out.now).2.2.2.2.2.2.2.2.2.2.2.1.rn, (HS.out.now).2.2.2.2.2.2.2.2.2.2.2.1.re, Rd.ofOwn ((HS.out.now).2.1)⟩).mono ?_
          rintro e wq24 ⟨rfl, hmm⟩
          replace HS := Lib.hid (HS.out.step hmm)
          clear hmm
          clear qbz_0 qbz_1 qbz_2 lbz
          go_wp2_with fail
          refine (awake_any _).mono ?_
          rintro e wq25 ⟨rfl, hmm⟩
          replace HS := Lib.hid (HS.out.step hmm)
          clear hmm
          go_wp2_with fail
          go_ret
          exact ⟨rfl, (HS.out.now).2.2.2.2.2.2.2.2.2.2.2.2.2⟩
      have z5 : ((kx : Int) == (ky : Int)) = true := by simp; omega
      have z5b : (kx == ky) = true := by simpa using hxy
      have HXY := Lib.hid hxy
      clear hxy
      go_wp2_with fail
      refine (new_ok ⟨G.N, G.E, swp G.B kx ky⟩ (by have h := HXY.out; rw [← h, swp_same G.B kx hlx]; exact hmay.out) _ a1 n1 d1 a2 n2 d2 _ n3 rc ⟨hn.out, he.out, by show (swp G.B kx ky).length = n3; rw [swp_len]; exact hb.out, (HS.out.now).2.2.2.2.2.2.2.1.rn, (HS.out.now).2.2.2.2.2.2.2.1.re, by show Rd _ 2 _ _ ((swp G.B kx ky).flatMap c2); rw [HTG.out]; exact Rd.ofOwn ((HS.out.now).2.1)⟩).mono ?_
      rintro e wq26 ⟨p1, B1, C1, rfl, hgo, hmm⟩
      replace HS := Lib.hid (HS.out.step hmm)
      clear hmm
      clear hgo
      clear qbg_0 qbg_1 qbg_2 lbg qbo_0 qbo_1 qbo_2 lbo
      have hbbg := (HS.out.now).2.2.2.2.2.2.1
      have qbg_0 := hbbg.cell 0 rfl
      have qbg_1 := hbbg.cell 1 rfl
      have qbg_2 := hbbg.cell 2 rfl
      have lbg := hbbg.lt
      clear hbbg
      go_upto_region 13 with fail
      have HSP := HS
      replace HS := Lib.hid ((Ev.mod wq26).and HS.out)
      clear qbg_0 qbg_1 qbg_2 lbg
      obtain ⟨bq, hbq⟩ : ∃ b, wq26.heap.size = b := ⟨_, rfl⟩
      obtain ⟨wq27, hwq27⟩ : ∃ W, World.alloc wq26 (.cells #[.slice a1 n1 d1, .slice a2 n2 d2, .slice a3 n3 d3] 26) = W := ⟨_, rfl⟩
      have hBbq : Blk wq27 bq 26 [.slice a1 n1 d1, .slice a2 n2 d2, .slice a3 n3 d3] := by rw [← hwq27, ← hbq]; exact Blk.new _ 26 [.slice a1 n1 d1, .slice a2 n2 d2, .slice a3 n3 d3]
      have hzbq : wq27.heap.size = bq + 1 := by rw [← hwq27, ← hbq]; exact heap_size_alloc _ _
      replace HS := Lib.hid (HS.out.step (w' := wq27) (by rw [← hwq27]; exact Mod.alloc _ _ _))
      replace HS := Lib.hid ((Ev.blk hBbq).and HS.out)
      have lbq : wq26.heap.size ≤ bq := by omega
      try rw [hwq27]
      try rw [hbq]
      clear hzbq hBbq hbq hwq27
      have hbbg := (HS.out.now).2.2.2.2.2.2.2.2.1
      have qbg_0 := hbbg.cell 0 rfl
      have qbg_1 := hbbg.cell 1 rfl
      have qbg_2 := hbbg.cell 2 rfl
      have lbg := hbbg.lt
      clear hbbg
      have hbbq := (HS.out.now).1
      have qbq_0 := hbbq.cell 0 rfl
      have qbq_1 := hbbq.cell 1 rfl
      have qbq_2 := hbbq.cell 2 rfl
      have lbq := hbbq.lt
      clear hbbq
      have hre := (HS.out.now).2.2.2.2.2.2.2.2.2.1.re
      have hbq := (HS.out.now).1
      have hbg := (HS.out.now).2.2.2.2.2.2.2.2.1
      have lB : bq < wq27.heap.size := hbq.lt
      have HRE := Lib.hid hre
      have HBQ := Lib.hid hbq
      have HBG := Lib.hid hbg
      clear hre hbq hbg
      clear qbg_0 qbg_1 qbg_2 lbg qbq_0 qbq_1 qbq_2 lbq
      have qg0 := HBG.out.cell 1 rfl
      have lg0 := HBG.out.lt
      go_wp2_with (first | (at_builtin; refine wpList_append_any rfl (.tmp 85) (.tmp 87) 23 rfl 41 iE (.agg #[.int .i64 0, .int .i64 0, .int .i64 0]) 3 24 Try.underlying23 hiE hzE hsE hbE rfl (by decide) _ 0 [] rfl (own_empty _ _ _ _ rfl) _ n2 (G.E.flatMap c3) rfl (HRE.out.alloc _) (one3 _) (by unfold maxLen; omega) (by omega) ?_; intro v4 w4 hap; obtain ⟨a4, c4, rfl⟩ := hap.form; have ho4 := hap.own; have lo4 := hap.low (B := wq27.heap.size) (by simp) (low_lit (Nat.le_refl _)); have hm4 := hap.modOld (Mod.alloc (fun _ => False) wq27 _) (low_lit (Nat.le_refl _)); simp only [Nat.zero_add, List.nil_append] at ho4 lo4; have qa := ((HBQ.out.keep hm4 (fun e => e)).cell 1 rfl); have qb := ((HBQ.out.keep hm4 (fun e => e)).free 1); have qg := ((HBG.out.keep hm4 (fun e => e)).cell 1 rfl); have lq : bq < w4.heap.size := (HBQ.out.keep hm4 (fun e => e)).lt; clear hap) | (at_builtin; refine wpList_append_any rfl (.tmp 88) (.tmp 90) 23 rfl 41 iE (.agg #[.int .i64 0, .int .i64 0, .int .i64 0]) 3 24 Try.underlying23 hiE hzE hsE hbE rfl (by decide) _ n2 _ rfl (World.ownsRow.alloc ho4 _) _ 1 (c3 (0, 0, 1)) rfl (Rd.litN _ 3 _ _ _ 1 rfl rfl (by decide)) (by intro u hu; simp [c3] at hu; rcases hu with rfl | rfl <;> rfl) (by unfold maxLen; omega) (by omega) ?_; intro v5 w5 hap; obtain ⟨a5, c5, rfl⟩ := hap.form; have ho5 := hap.own; have lo5 := hap.low (B := wq27.heap.size) (by have := hm4.size; simp; omega) lo4; have hm5 := hap.modOld (hm4.thenAlloc _) lo4; have qa5 := ((HBQ.out.keep hm5 (fun e => e)).cell 1 rfl); have qb5 := ((HBQ.out.keep hm5 (fun e => e)).free 1); have qc5 := ((HBQ.out.keep hm5 (fun e => e)).cell 0 rfl); have qd5 := ((HBQ.out.keep hm5 (fun e => e)).cell 2 rfl); have lq5 : bq < w5.heap.size := (HBQ.out.keep hm5 (fun e => e)).lt; clear hap))
      obtain ⟨ws, hws⟩ : ∃ W, World.setCell w5 ⟨bq, 1, none⟩ (.slice a5 (n2 + 1) c5) = W := ⟨_, rfl⟩
      rw [hws]
      have k1 : Mod (fun _ => False) wq26 ws := by rw [← hws]; exact (((HS.out.now).2.1).of2 hm5).old (Mod.setCell (F := fun k => k = bq) _ ⟨bq, 1, none⟩ _ rfl) (fun i hi => by subst hi; exact lbq)
      have k2 : Blk ws bq 26 [.slice a1 n1 d1, .slice a5 (n2 + 1) c5, .slice a3 n3 d3] := by rw [← hws]; exact (HBQ.out.keep hm5 (fun e => e)).set 1 _
      have k3 : ws.ownsRow 0 41 3 (.slice a5 (n2 + 1) c5) (n2 + 1) ((G.E ++ [(0, 0, 1)]).flatMap c3) := by rw [← hws, c3_snoc']; exact Own.keep ho5 (Mod.setCell (F := fun k => k = bq) _ ⟨bq, 1, none⟩ _ rfl) (fun k hk e => by have := lo5 k hk; omega)
      replace HS := Lib.hid ((Ev.blk k2).and ((Ev.own k3).and (HSP.out.step k1)))
      clear k1 k2 k3 hws HSP qa qb qg lq qa5 qb5 qc5 qd5 lq5 ho4 lo4 hm4 ho5 lo5 hm5 HRE HBQ HBG qg0 lg0
      have hbbg := (HS.out.now).2.2.2.2.2.2.2.2.1
      have qbg_0 := hbbg.cell 0 rfl
      have qbg_1 := hbbg.cell 1 rfl
      have qbg_2 := hbbg.cell 2 rfl
      have lbg := hbbg.lt
      clear hbbg
      have hbbq := (HS.out.now).1
      have qbq_0 := hbbq.cell 0 rfl
      have qbq_1 := hbbq.cell 1 rfl
      have qbq_2 := hbbq.cell 2 rfl
      have lbq := hbbq.lt
      clear hbbq
      refine (new_ok ⟨G.N, G.E ++ [(0, 0, 1)], G.B⟩ (may_edge hmay.out (by have := hfew.out.1; omega) (by have := hfew.out.2.1; omega)) _ a1 n1 d1 a5 (n2 + 1) c5 a3 n3 d3 ⟨hn.out, by simp [he.out], hb.out, (HS.out.now).2.2.2.2.2.2.2.2.2.1.rn, Rd.ofOwn ((HS.out.now).2.1), (HS.out.now).2.2.2.2.2.2.2.2.2.1.rb⟩).mono ?_
      rintro e wq28 ⟨p2, B2, C2, rfl, hgo, hmm⟩
      replace HS := Lib.hid (HS.out.step hmm)
      clear hmm
      clear qbg_0 qbg_1 qbg_2 lbg qbq_0 qbq_1 qbq_2 lbq
      have hbbg := (HS.out.now).2.2.2.2.2.2.2.2.1
      have qbg_0 := hbbg.cell 0 rfl
      have qbg_1 := hbbg.cell 1 rfl
      have qbg_2 := hbbg.cell 2 rfl
      have lbg := hbbg.lt
      clear hbbg
      have hbbq := (HS.out.now).1
      have qbq_0 := hbbq.cell 0 rfl
      have qbq_1 := hbbq.cell 1 rfl
      have qbq_2 := hbbq.cell 2 rfl
      have lbq := hbbq.lt
      clear hbbq
      clear hgo
      clear qbg_0 qbg_1 qbg_2 lbg qbq_0 qbq_1 qbq_2 lbq
      have hbbg := (HS.out.now).2.2.2.2.2.2.2.2.1
      have qbg_0 := hbbg.cell 0 rfl
      have qbg_1 := hbbg.cell 1 rfl
      have qbg_2 := hbbg.cell 2 rfl
      have lbg := hbbg.lt
      clear hbbg
      go_upto_region 16 with fail
      have HSP := HS
      replace HS := Lib.hid ((Ev.mod wq28).and HS.out)
      clear qbg_0 qbg_1 qbg_2 lbg
      obtain ⟨bz, hbz⟩ : ∃ b, wq28.heap.size = b := ⟨_, rfl⟩
      obtain ⟨wq29, hwq29⟩ : ∃ W, World.alloc wq28 (.cells #[.slice a1 n1 d1, .slice a2 n2 d2, .slice a3 n3 d3] 26) = W := ⟨_, rfl⟩
      have hBbz : Blk wq29 bz 26 [.slice a1 n1 d1, .slice a2 n2 d2, .slice a3 n3 d3] := by rw [← hwq29, ← hbz]; exact Blk.new _ 26 [.slice a1 n1 d1, .slice a2 n2 d2, .slice a3 n3 d3]
      have hzbz : wq29.heap.size = bz + 1 := by rw [← hwq29, ← hbz]; exact heap_size_alloc _ _
      replace HS := Lib.hid (HS.out.step (w' := wq29) (by rw [← hwq29]; exact Mod.alloc _ _ _))
      replace HS := Lib.hid ((Ev.blk hBbz).and HS.out)
      have lbz : wq28.heap.size ≤ bz := by omega
      try rw [hwq29]
      try rw [hbz]
      clear hzbz hBbz hbz hwq29
      obtain ⟨B0, hB0⟩ : ∃ n, wq29.heap.size = n := ⟨_, rfl⟩
      have lzB : bz < B0 := by rw [← hB0]; exact ((HS.out.now).1).lt
      have HB0 := Lib.hid hB0
      clear hB0
      have HOLD : Hid (∀ W, Mod (fun k => B0 ≤ k) (World.drew wq29) W → Mod (fun _ => False) (World.drew wq29) W) := Lib.hid fun W h => h.mono (fun i hi e => by have := HB0.out; simp at hi; omega)
      have HSd0 := HS
      go_upto_region 16 with fail
      have HSd := Lib.hid HS.out.drew
      have HST : ∀ (ix : Nat) (vx : Value) (wx wy : World), factOf (go_r16_5_F B0 bg bz n1 d1 n2 d2 n3 d3 a1 a2 a3 G) ix vx wx → Mod (fun _ => False) wx wy → factOf (go_r16_5_F B0 bg bz n1 d1 n2 d2 n3 d3 a1 a2 a3 G) ix vx wy := by
        refine fact_stays ?_
        intro f hf
        simp only [go_r16_5_F, List.mem_cons, List.not_mem_nil, or_false] at hf
        rcases hf with rfl | rfl | rfl | rfl | rfl | rfl | rfl | rfl | rfl | rfl | rfl <;> first | exact stable_val _ | exact stable_new | exact EmpB.st | exact OwnB.st | exact LitB.st
      have HSO : ∀ px ∈ (go_r16_5_F B0 bg bz n1 d1 n2 d2 n3 d3 a1 a2 a3 G), px.1 = true → ∀ (vx : Value) (wx wy : World), px.2 vx wx → px.2 vx wy := by
        intro f hf
        simp only [go_r16_5_F, List.mem_cons, List.not_mem_nil, or_false] at hf
        rcases hf with rfl | rfl | rfl | rfl | rfl | rfl | rfl | rfl | rfl | rfl | rfl <;> first | exact fun _ _ _ _ h => h | (intro h; cases h)
      refine wp_region_use (Mod (fun k => B0 ≤ k)) (factOf (go_r16_5_F B0 bg bz n1 d1 n2 d2 n3 d3 a1 a2 a3 G)) (fun i => go_r16_5_C.getD i 1000) (fun i => go_r16_5_D.getD i []) 11 _ rfl rfl (by kernel_rfl) (by kernel_rfl) (by kernel_rfl) (by kernel_rfl) (by kernel_rfl) (fun _ => Mod.refl _ _)
        (fun _ _ _ h k => h.trans k (fun _ _ e => e) (fun _ _ e => e)) ?_ ?_
      · refine opsOkU_cons ?_ ?_
        · intro K vs W hR hD hK
          clear hD
          simp only [putAll, Nat.zero_add, Nat.reduceAdd, Act.put, List.setIfInBounds_toArray, List.set_cons_succ, List.set_cons_zero] at hK ⊢
          have hz := (show B0 ≤ W.heap.size from (by have h1 := HB0.out; have h2 := hR.size; simp at h2; omega))
          go_wp2
          exact hK _ _ ⟨_, rfl, Own.rebase (own_empty W 48 2 W.heap.size rfl) (low_lit hz)⟩ (fun j u _ h => HST j u _ _ h (Mod.alloc _ _ _)) (Mod.alloc _ _ _)
        refine opsOkU_cons ?_ ?_
        · intro K vs W hR hD hK
          clear hD
          simp only [putAll, Nat.zero_add, Nat.reduceAdd, Act.put, List.setIfInBounds_toArray, List.set_cons_succ, List.set_cons_zero] at hK ⊢
          go_wp2
          exact hK _ _ rfl (fun _ _ _ h => h) (Mod.refl _ _)
        refine opsOkU_cons ?_ ?_
        · intro K vs W hR hD hK
          have d1 : vs 1 = .pointer (some ⟨bg, 2, none⟩) := hD 1 (by decide)
          clear hD
          simp only [putAll, Nat.zero_add, Nat.reduceAdd, Act.put, List.setIfInBounds_toArray, List.set_cons_succ, List.set_cons_zero] at hK ⊢
          generalize vs 1 = v1 at hK d1 ⊢
          subst v1
          have q0 := ((HSd.out.at (HOLD.out W hR)).2.2.2.2.2.2.2.2.2.2.1).cell 2 rfl
          go_wp2
          exact hK _ _ rfl (fun _ _ _ h => h) (Mod.refl _ _)
        refine opsOkU_cons ?_ ?_
        · intro K vs W hR hD hK
          have d0 : (EmpB B0) (vs 0) W := hD 0 (by decide)
          have d2 : vs 2 = .slice a3 n3 d3 := hD 2 (by decide)
          clear hD
          simp only [putAll, Nat.zero_add, Nat.reduceAdd, Act.put, List.setIfInBounds_toArray, List.set_cons_succ, List.set_cons_zero] at hK ⊢
          generalize vs 0 = v0 at hK d0 ⊢
          generalize vs 2 = v2 at hK d2 ⊢
          subst v2
          have hz := (show B0 ≤ W.heap.size from (by have h1 := HB0.out; have h2 := hR.size; simp at h2; omega))
          have hrb := ((HSd.out.at (HOLD.out W hR)).2.2.2.2.2.2.2.2.2.2.2.1).rb
          obtain ⟨ae, rfl, ho⟩ := d0
          go_wp2_with (at_builtin; refine wpList_append_any rfl (.tmp 99) (.tmp 101) 24 rfl 48 iB (.agg #[.int .i64 0, .int .i64 0]) 2 16 Try.underlying24 hiB hzB hsB hbB rfl (by decide) _ 0 ([]) rfl (Own.base ho (Nat.zero_le _)) _ n3 (G.B.flatMap c2) rfl hrb (one2 _) (by unfold maxLen; omega) (by omega) ?_; intro v' w' hap)
          obtain ⟨a4, c4, rfl⟩ := hap.form
          have ho4 := hap.own
          have lo4 := hap.low hz (fun k hk => (ho.lt k hk).1)
          have hm4 := hap.still ae 0 0 rfl (by omega)
          simp only [Nat.zero_add, List.nil_append] at ho4 lo4 ⊢
          exact hK _ _ ⟨a4, c4, rfl, fun _ _ => trivial, Own.rebase ho4 lo4⟩ (fun j u _ h => HST j u _ _ h hm4) (hm4.mono (fun _ _ e => e.elim))
        refine opsOkU_cons ?_ ?_
        · intro K vs W hR hD hK
          clear hD
          simp only [putAll, Nat.zero_add, Nat.reduceAdd, Act.put, List.setIfInBounds_toArray, List.set_cons_succ, List.set_cons_zero] at hK ⊢
          go_wp2
          exact hK _ _ rfl (fun _ _ _ h => h) (Mod.refl _ _)
        refine opsOkU_cons ?_ ?_
        · intro K vs W hR hD hK
          have d4 : vs 4 = .pointer (some ⟨bg, 1, none⟩) := hD 4 (by decide)
          clear hD
          simp only [putAll, Nat.zero_add, Nat.reduceAdd, Act.put, List.setIfInBounds_toArray, List.set_cons_succ, List.set_cons_zero] at hK ⊢
          generalize vs 4 = v4 at hK d4 ⊢
          subst v4
          have q0 := ((HSd.out.at (HOLD.out W hR)).2.2.2.2.2.2.2.2.2.2.1).cell 1 rfl
          go_wp2
          exact hK _ _ rfl (fun _ _ _ h => h) (Mod.refl _ _)
        refine opsOkU_cons ?_ ?_
        · intro K vs W hR hD hK
          have d5 : vs 5 = .slice a2 n2 d2 := hD 5 (by decide)
          clear hD
          simp only [putAll, Nat.zero_add, Nat.reduceAdd, Act.put, List.setIfInBounds_toArray, List.set_cons_succ, List.set_cons_zero] at hK ⊢
          generalize vs 5 = v5 at hK d5 ⊢
          subst v5
          go_wp2_with fail
          exact hK _ _ rfl (fun _ _ _ h => h) (Mod.refl _ _)
        refine opsOkU_cons ?_ ?_
        · intro K vs W hR hD hK
          have d6 : vs 6 = .int .i64 (n2 : Int) := hD 6 (by decide)
          clear hD
          simp only [putAll, Nat.zero_add, Nat.reduceAdd, Act.put, List.setIfInBounds_toArray, List.set_cons_succ, List.set_cons_zero] at hK ⊢
          generalize vs 6 = v6 at hK d6 ⊢
          subst v6
          go_wp2
          exact hK _ _ rfl (fun _ _ _ h => h) (Mod.refl _ _)
        refine opsOkU_cons ?_ ?_
        · intro K vs W hR hD hK
          have d7 : vs 7 = .agg #[.int .i64 0, .int .i64 (n2 : Int)] := hD 7 (by decide)
          clear hD
          simp only [putAll, Nat.zero_add, Nat.reduceAdd, Act.put, List.setIfInBounds_toArray, List.set_cons_succ, List.set_cons_zero] at hK ⊢
          generalize vs 7 = v7 at hK d7 ⊢
          subst v7
          go_wp2
          exact hK _ _ ⟨_, rfl, by exact Rd.litN _ _ _ _ _ 1 rfl rfl (by decide)⟩ (fun j u _ h => HST j u _ _ h (Mod.alloc _ _ _)) (Mod.alloc _ _ _)
        refine opsOkU_cons ?_ ?_
        · intro K vs W hR hD hK
          have d3 : (OwnB B0 n3 (G.B.flatMap c2)) (vs 3) W := hD 3 (by decide)
          have d8 : (LitB (0, (n2 : Int))) (vs 8) W := hD 8 (by decide)
          clear hD
          simp only [putAll, Nat.zero_add, Nat.reduceAdd, Act.put, List.setIfInBounds_toArray, List.set_cons_succ, List.set_cons_zero] at hK ⊢
          generalize vs 3 = v3 at hK d3 ⊢
          generalize vs 8 = v8 at hK d8 ⊢
          have hz := (show B0 ≤ W.heap.size from (by have h1 := HB0.out; have h2 := hR.size; simp at h2; omega))
          obtain ⟨ae, ce, rfl, _, ho⟩ := d3
          obtain ⟨pl, rfl, hl⟩ := d8
          go_wp2_with (at_builtin; refine wpList_append_any rfl (.tmp 102) (.tmp 107) 24 rfl 48 iB (.agg #[.int .i64 0, .int .i64 0]) 2 16 Try.underlying24 hiB hzB hsB hbB rfl (by decide) _ n3 (G.B.flatMap c2) rfl (Own.base ho (Nat.zero_le _)) _ 1 (c2 (0, (n2 : Int))) rfl hl (by intro u hu; simp [c2] at hu; rcases hu with rfl | rfl <;> rfl) (by unfold maxLen; omega) (by omega) ?_; intro v' w' hap)
          obtain ⟨a4, c4, rfl⟩ := hap.form
          have ho4 := hap.own
          have lo4 := hap.low hz (fun k hk => (ho.lt k hk).1)
          exact hK _ _ ⟨a4, c4, rfl, fun _ _ => trivial, by rw [c2_snoc']; exact Own.rebase ho4 lo4⟩ (fact_solid HSO 9 (by kernel_rfl)) (hap.mod.mono (fun k _ e => (ho.lt k e).1))
        refine opsOkU_cons ?_ ?_
        · intro K vs W hR hD hK
          clear hD
          simp only [putAll, Nat.zero_add, Nat.reduceAdd, Act.put, List.setIfInBounds_toArray, List.set_cons_succ, List.set_cons_zero] at hK ⊢
          go_wp2
          exact hK _ _ rfl (fun _ _ _ h => h) (Mod.refl _ _)
        exact opsOkU_nil
      · intro vs wq30 hR hF
        have d9 : (OwnB B0 (n3 + 1) ((G.B ++ [(0, (n2 : Int))]).flatMap c2)) (vs 9) wq30 := hF 9 (by decide) (by decide)
        have d10 : vs 10 = .pointer (some ⟨bz, 2, none⟩) := hF 10 (by decide) (by decide)
        clear hF
        simp only [putAll, Nat.zero_add, Nat.reduceAdd, Act.put, List.setIfInBounds_toArray, List.set_cons_succ, List.set_cons_zero]
        generalize vs 9 = v9 at d9 ⊢
        generalize vs 10 = v10 at d10 ⊢
        subst v10
        obtain ⟨a6, c6, rfl, _, ho6⟩ := d9
        have hmw : Mod (fun _ => False) wq29 wq30 := (Mod.drew _ _).of2 (HOLD.out _ hR)
        have hbz := ((HS.out.now).1).keep hmw (fun e => e)
        have qa := hbz.cell 2 rfl
        have qb := hbz.free 2
        have qc := hbz.cell 0 rfl
        have qd := hbz.cell 1 rfl
        have lq := hbz.lt
        go_wp2_with fail
        obtain ⟨ws, hws⟩ : ∃ W, World.setCell wq30 ⟨bz, 2, none⟩ (.slice a6 (n3 + 1) c6) = W := ⟨_, rfl⟩
        rw [hws]
        have k1 : Mod (fun _ => False) wq28 ws := by rw [← hws]; exact (((HS.out.now).2.1).of2 hmw).old (Mod.setCell (F := fun k => k = bz) _ ⟨bz, 2, none⟩ _ rfl) (fun i hi => by subst hi; exact lbz)
        have k2 : Blk ws bz 26 [.slice a1 n1 d1, .slice a2 n2 d2, .slice a6 (n3 + 1) c6] := by rw [← hws]; exact hbz.set 2 _
        have k3 : ws.ownsRow B0 48 2 (.slice a6 (n3 + 1) c6) (n3 + 1) ((G.B ++ [(0, (n2 : Int))]).flatMap c2) := by rw [← hws]; exact Own.keep ho6 (Mod.setCell (F := fun k => k = bz) _ ⟨bz, 2, none⟩ _ rfl) (fun k hk e => by have := (ho6.lt k hk).1; omega)
        replace HS := Lib.hid ((Ev.blk k2).and ((Ev.own k3).and (HSP.out.step k1)))
        clear k1 k2 k3 hws HSP qa qb qc qd lq ho6 hmw hbz HSd HOLD hR HSd0
        have hbbz := (HS.out.now).1
        have qbz_0 := hbbz.cell 0 rfl
        have qbz_1 := hbbz.cell 1 rfl
        have qbz_2 := hbbz.cell 2 rfl
        have lbz := hbbz.lt
        clear hbbz
        have hno : ¬ May ⟨G.N, G.E, G.B ++ [(0, (n2 : Int))]⟩ := by have h := not_may_ban G; rw [he.out] at h; exact h
        have HNO := Lib.hid hno
        clear hno
        refine (new_no ⟨G.N, G.E, G.B ++ [(0, (n2 : Int))]⟩ HNO.out _ a1 n1 d1 a2 n2 d2 a6 (n3 + 1) c6 ⟨hn.out, he.out, by simp [hb.out], (HS.out.now).2.2.2.2.2.2.2.2.2.2.2.1.rn, (HS.out.now).2.2.2.2.2.2.2.2.2.2.2.1.re, Rd.ofOwn ((HS.out.now).2.1)⟩).mono ?_
        rintro e wq31 ⟨rfl, hmm⟩
        replace HS := Lib.hid (HS.out.step hmm)
        clear hmm
        clear qbz_0 qbz_1 qbz_2 lbz
        go_wp2_with fail
        refine (awake_any _).mono ?_
        rintro e wq32 ⟨rfl, hmm⟩
        replace HS := Lib.hid (HS.out.step hmm)
        clear hmm
        go_wp2_with fail
        go_ret
        exact ⟨rfl, (HS.out.now).2.2.2.2.2.2.2.2.2.2.2.2.2⟩
theorem gorder_law (w : World) (a0 : Option Addr) (m c0 : Nat) (l : List Int) (ok : (encSlice (encInt .i64)).ok w (.slice a0 m c0, l)) (va : Int) (_ : (Lit.int .i64 va).wf = true) (vb : Int) (_ : (Lit.int .i64 vb).wf = true) :
    Calls Try.prog 6 #[.slice a0 m c0, .int .i64 va, .int .i64 vb] w fun e w' => e = .returned (.bool true) ∧ Below w.heap.size w w' := by
  obtain ⟨hn, hr, _⟩ := ok_ints ok
  exact (gorder_all w a0 m c0 l hn hr va vb).mono fun e w' h => ⟨h.1, h.2.below (Nat.le_refl _) (fun _ e => e.elim)⟩
end Go.Proofs.Ytnibokikmckfiaa
