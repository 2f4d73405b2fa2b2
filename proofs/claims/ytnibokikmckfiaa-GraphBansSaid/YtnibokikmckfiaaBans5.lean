/- GraphBans walked. -/
import Derived.Test.YtnibokikmckfiaaLawGR
import Derived.Test.YtnibokikmckfiaaAwake5
import Derived.Test.YtnibokikmckfiaaBan
import Derived.Test.YtnibokikmckfiaaR4
import Derived.Test.YtnibokikmckfiaaRound
import Derived.Test.YtnibokikmckfiaaRegion2
import Derived.Deep.DeepCutAuto
import Derived.Deep.CutBlock
namespace Go.Proofs.Ytnibokikmckfiaa
open Go.RowKit Mile
theorem out_noB (G : GD) (v : Int) : gOut ⟨G.N, G.E, []⟩ v = gOut G v := rfl
theorem in_noB (G : GD) (v : Int) : gIn ⟨G.N, G.E, []⟩ v = gIn G v := rfl
theorem may_noB {G : GD} (h : May G) : May ⟨G.N, G.E, []⟩ := ⟨⟨h.1.1, h.1.2.1, by simp⟩, h.2.1, h.2.2.1, fun i hi => by simp at hi⟩
theorem ban_low {G : GD} (h : May G) (a : Int) : decide ((a, -1) ∈ G.B) = false := by
  refine decide_eq_false fun hin => ?_
  obtain ⟨i, hi, he⟩ := List.getElem_of_mem hin
  have := (h.2.2.2 i hi).1.2.1.1
  rw [he] at this
  simp at this
/-- What each operation of the statement leaves. -/
def gb_r10_0_F (p p2 bg bo ki n1 d1 n2 d2 n3 d3 : Nat) (va vb vk : Int) (a1 a2 a3 : Option Addr) (bb : Bool) : List (Value → World → Prop) :=
  [IsV (.int .i64 va),
   IsV (.pointer (some ⟨bg, 1, none⟩)),
   IsV (.slice a2 n2 d2),
   IsV (.int .i64 (n2 : Int)),
   IsV (.int .i64 (ki : Int)),
   IsV (.int .i64 vb),
   IsV (.pointer (some ⟨bg, 1, none⟩)),
   IsV (.slice a2 n2 d2),
   IsV (.int .i64 (n2 : Int)),
   IsV (.int .i64 vk),
   IsV (.int .i64 (ki : Int)),
   IsV (.int .i64 vk)]
def gb_r10_0_D : List (List Nat) := [[], [], [1], [2], [0, 3], [], [], [6], [7], [5, 8], [4], [9]]

/-- What each operation of the statement leaves. -/
def gb_r11_1_F (p p2 bg bo ki n1 d1 n2 d2 n3 d3 : Nat) (va vb vk : Int) (a1 a2 a3 : Option Addr) (bb : Bool) : List (Value → World → Prop) :=
  [IsV (.pointer (some ⟨p, 0, none⟩)),
   IsV (.int .i64 (ki : Int)),
   IsV (.int .i64 vk),
   IsV (.bool bb),
   IsV (.agg #[.slice a1 n1 d1, .slice a2 n2 d2, .slice a3 n3 d3]),
   IsV (.int .i64 (ki : Int)),
   IsV (.int .i64 vk),
   IsV (.bool bb),
   IsV (.bool false),
   IsV (.bool false),
   IsV (.pointer (some ⟨p2, 0, none⟩)),
   IsV (.int .i64 (ki : Int)),
   IsV (.int .i64 vk),
   IsV (.bool false),
   IsV (.bool false),
   IsV (.bool false),
   IsV (.pointer (some ⟨p, 0, none⟩)),
   IsV (.int .i64 va),
   IsV (.bool false),
   IsV (.bool false)]
def gb_r11_1_D : List (List Nat) := [[], [], [], [0, 1, 2], [], [], [], [4, 5, 6], [3, 7], [8], [9], [9], [9], [9, 10, 11, 12], [9, 13], [14], [15], [15], [15, 16, 17], [15, 18]]

/-- What each operation of the statement leaves. -/
def gb_r17_2_F (p p2 bg bo nb eb eo j ki n1 d1 n2 d2 n3 d3 : Nat) (va vb vk x y : Int) (a1 a2 a3 : Option Addr) (bb : Bool) (G : GD) : List (Value → World → Prop) :=
  [IsV (.bool true),
   IsV (.bool false),
   IsV (.bool false),
   IsV (.agg #[.int .i64 x, .int .i64 y]),
   IsV (.pointer (some ⟨bg, 0, none⟩)),
   IsV (.slice a1 n1 d1),
   IsV (.int .i64 (j : Int)),
   IsV (.pointer (some ⟨eb, eo, none⟩)),
   IsV (.agg #[.int .i64 x, .int .i64 y]),
   IsV (.bool false),
   IsV (.bool false),
   IsV (.bool false),
   IsV (.pointer (some ⟨p, 0, none⟩)),
   IsV (.int .i64 (j : Int)),
   (IRow (gOut G (j : Int))),
   IsV (.pointer (some ⟨p2, 0, none⟩)),
   IsV (.int .i64 (j : Int)),
   (IRow (gOut ⟨G.N, G.E, []⟩ (j : Int))),
   IsV (.bool true),
   IsV (.bool false),
   IsV (.bool false),
   IsV (.bool false),
   IsV (.pointer (some ⟨p, 0, none⟩)),
   IsV (.int .i64 (j : Int)),
   (IRow (gIn G (j : Int))),
   IsV (.pointer (some ⟨p2, 0, none⟩)),
   IsV (.int .i64 (j : Int)),
   (IRow (gIn ⟨G.N, G.E, []⟩ (j : Int))),
   IsV (.bool true),
   IsV (.bool false),
   IsV (.bool false)]
def gb_r17_2_D : List (List Nat) := [[], [0], [1], [2], [2], [2, 4], [2], [2, 5, 6], [2, 7], [2, 3, 8], [2, 9], [10], [11], [11], [11, 12, 13], [11], [11], [11, 15, 16], [11, 14, 17], [11, 18], [11, 19], [20], [21], [21], [21, 22, 23], [21], [21], [21, 25, 26], [21, 24, 27], [21, 28], [21, 29]]

/-- What each operation of the statement leaves. -/
def gb_r20_3_F (p p2 bg bo xb fb fo ki n1 d1 n2 d2 n3 d3 : Nat) (va vb vk x y z : Int) (a1 a2 a3 : Option Addr) (bb : Bool) : List (Value → World → Prop) :=
  [IsV (.bool true),
   IsV (.bool true),
   IsV (.agg #[.int .i64 x, .int .i64 y, .int .i64 z]),
   IsV (.pointer (some ⟨bg, 1, none⟩)),
   IsV (.slice a2 n2 d2),
   IsV (.int .i64 (ki : Int)),
   IsV (.pointer (some ⟨fb, fo, none⟩)),
   IsV (.agg #[.int .i64 x, .int .i64 y, .int .i64 z]),
   IsV (.bool true),
   IsV (.bool true),
   IsV (.bool true),
   IsV (.bool true),
   IsV (.bool true),
   IsV (.bool true)]
def gb_r20_3_D : List (List Nat) := [[], [0], [1], [1], [1, 3], [1], [1, 4, 5], [1, 6], [1, 2, 7], [1, 8], [9], [10], [10, 11], [12]]

set_option maxHeartbeats 64000000 in
set_option maxRecDepth 100000 in
theorem gbans_all (w : World) (a0 : Option Addr) (m c0 : Nat) (l : List Int) (hm : l.length = m) (hr : Rd w 1 (.slice a0 m c0) m (l.map (Value.int .i64))) (va vb : Int) :
    Calls Try.prog 7 #[.slice a0 m c0, .int .i64 va, .int .i64 vb] w fun e w' => e = .returned (.bool true) ∧ Mod (fun _ => False) w w' := by
  obtain ⟨iN, hiN, hzN, hsN, hbN⟩ := info_parts GR.infoN
  obtain ⟨iE, hiE, hzE, hsE, hbE⟩ := info_parts GR.infoE
  by_cases hlen : m ≤ 100
  case neg =>
    have HS : Hid (Ev (Mod (fun _ => False) w) w) := Lib.hid (Ev.mod w)
    have d0 : decide (100 < (m : Int)) = true := by simp; omega
    have d1 : decide (100 < m) = true := by simp; omega
    go_enter Try.func7, Try.ntmps7
    go_wp2_with fail
    refine (awake_any _).mono ?_
    rintro e wq1 ⟨rfl, hm⟩
    replace HS := Lib.hid (HS.out.step hm)
    clear hm
    go_wp2_with fail
    go_ret
    exact ⟨rfl, HS.out.now⟩
  have HS : Hid (Ev (Mod (fun _ => False) w) w) := Lib.hid (Ev.mod w)
  replace HS := Lib.hid ((Ev.rd hr).and HS.out)
  have z0 : decide (100 < (m : Int)) = false := by simp; omega
  have z1 : decide (100 < m) = false := by simp; omega
  go_enter Try.func7, Try.ntmps7
  go_wp2_with fail
  refine (town_gv _ a0 m c0 l hm ((HS.out.now).1)).mono ?_
  rintro e wq2 ⟨a1, n1, d1, a2, n2, d2, a3, n3, d3, rfl, hg, hmm⟩
  replace HS := Lib.hid (HS.out.step hmm)
  clear hmm
  replace HS := Lib.hid ((Ev.gv hg).and HS.out)
  clear hg z0 z1
  have hmay := Lib.hid (town_may l)
  have hfew := Lib.hid (town_few l)
  obtain ⟨G, hG⟩ : ∃ G, townG l = G := ⟨_, rfl⟩
  rw [hG] at hmay hfew
  rw [hG] at HS
  clear hG
  have hn := Lib.hid ((HS.out.now).1.n)
  have he := Lib.hid ((HS.out.now).1.e)
  go_wp2_with fail
  obtain ⟨bg, hbg⟩ : ∃ b, wq2.heap.size = b := ⟨_, rfl⟩
  obtain ⟨wq3, hwq3⟩ : ∃ W, World.alloc wq2 (.cells #[.slice a1 n1 d1, .slice a2 n2 d2, .slice a3 n3 d3] 26) = W := ⟨_, rfl⟩
  have hBbg : Blk wq3 bg 26 [.slice a1 n1 d1, .slice a2 n2 d2, .slice a3 n3 d3] := by rw [← hwq3, ← hbg]; exact Blk.new _ 26 [.slice a1 n1 d1, .slice a2 n2 d2, .slice a3 n3 d3]
  have hzbg : wq3.heap.size = bg + 1 := by rw [← hwq3, ← hbg]; exact heap_size_alloc _ _
  replace HS := Lib.hid (HS.out.step (w' := wq3) (by rw [← hwq3]; exact Mod.alloc _ _ _))
  replace HS := Lib.hid ((Ev.blk hBbg).and HS.out)
  obtain ⟨bo, hbo⟩ : ∃ b, bg + 1 = b := ⟨_, rfl⟩
  obtain ⟨wq4, hwq4⟩ : ∃ W, World.alloc wq3 (.cells #[.slice a1 n1 d1, .slice a2 n2 d2, .slice none 0 0] 26) = W := ⟨_, rfl⟩
  have hBbo : Blk wq4 bo 26 [.slice a1 n1 d1, .slice a2 n2 d2, .slice none 0 0] := by rw [← hwq4, ← hbo, ← hzbg]; exact Blk.new _ 26 [.slice a1 n1 d1, .slice a2 n2 d2, .slice none 0 0]
  have hzbo : wq4.heap.size = bo + 1 := by rw [← hwq4, ← hbo, ← hzbg]; exact heap_size_alloc _ _
  replace HS := Lib.hid (HS.out.step (w' := wq4) (by rw [← hwq4]; exact Mod.alloc _ _ _))
  replace HS := Lib.hid ((Ev.blk hBbo).and HS.out)
  try rw [hwq3]
  try rw [hbg]
  try rw [hwq4]
  try rw [hbo]
  clear hzbo hBbo hbo hwq4 hzbg hBbg hbg hwq3
  refine (new_ok G hmay.out _ a1 n1 d1 a2 n2 d2 a3 n3 d3 ((HS.out.now).2.2.1)).mono ?_
  rintro e wq5 ⟨p, B, C, rfl, hgo, hmm⟩
  replace HS := Lib.hid (HS.out.step hmm)
  clear hmm
  replace HS := Lib.hid ((Ev.go hgo).and HS.out)
  clear hgo
  have hbbg := (HS.out.now).2.2.1
  have qbg_0 := hbbg.cell 0 rfl
  have qbg_1 := hbbg.cell 1 rfl
  have qbg_2 := hbbg.cell 2 rfl
  have lbg := hbbg.lt
  clear hbbg
  have hbbo := (HS.out.now).2.1
  have qbo_0 := hbbo.cell 0 rfl
  have qbo_1 := hbbo.cell 1 rfl
  have qbo_2 := hbbo.cell 2 rfl
  have lbo := hbbo.lt
  clear hbbo
  go_wp2_with fail
  refine (new_ok ⟨G.N, G.E, []⟩ (may_noB hmay.out) _ a1 n1 d1 a2 n2 d2 none 0 0 ⟨(HS.out.now).2.2.2.1.n, (HS.out.now).2.2.2.1.e, rfl, (HS.out.now).2.2.2.1.rn, (HS.out.now).2.2.2.1.re, Rd.nil _ _⟩).mono ?_
  rintro e wq6 ⟨p2, B2, C2, rfl, hgo, hmm⟩
  replace HS := Lib.hid (HS.out.step hmm)
  clear hmm
  replace HS := Lib.hid ((Ev.go hgo).and HS.out)
  clear hgo
  clear qbg_0 qbg_1 qbg_2 lbg qbo_0 qbo_1 qbo_2 lbo
  have hbbg := (HS.out.now).2.2.2.1
  have qbg_0 := hbbg.cell 0 rfl
  have qbg_1 := hbbg.cell 1 rfl
  have qbg_2 := hbbg.cell 2 rfl
  have lbg := hbbg.lt
  clear hbbg
  have hbbo := (HS.out.now).2.2.1
  have qbo_0 := hbbo.cell 0 rfl
  have qbo_1 := hbbo.cell 1 rfl
  have qbo_2 := hbbo.cell 2 rfl
  have lbo := hbbo.lt
  clear hbbo
  go_wp2_with fail
  have h0n : 0 < n2 := by have := hfew.out.2.1.1; have := he.out; omega
  have h1n : (n2 : Int) ≤ 67 := by have := hfew.out.2.1.2; have := he.out; omega
  obtain ⟨ki, hvi⟩ := Int.eq_ofNat_of_zero_le (Int.emod_nonneg va (show (n2 : Int) ≠ 0 by omega))
  obtain ⟨vk, hvk⟩ : ∃ x, vb % (n2 : Int) = x := ⟨_, rfl⟩
  obtain ⟨bb, hbb⟩ : ∃ x, decide (((ki : Int), vk) ∈ G.B) = x := ⟨_, rfl⟩
  have hkn : ki < n2 := by have := Int.emod_lt_of_pos va (show 0 < (n2 : Int) by omega); omega
  have HVI := Lib.hid hvi
  have HVK := Lib.hid hvk
  have HBB := Lib.hid hbb
  clear hvi hvk hbb
  clear qbg_0 qbg_1 qbg_2 lbg qbo_0 qbo_1 qbo_2 lbo
  go_upto_region 10 with fail
  have HSd := Lib.hid HS.out.drew
  refine wp_region_inv3 (act := ?actgb_r10_0) (Mod (fun _ => False)) (fun i => (gb_r10_0_F p p2 bg bo ki n1 d1 n2 d2 n3 d3 va vb vk a1 a2 a3 bb).getD i (fun _ _ => True)) (fun i => gb_r10_0_D.getD i []) (by kernel_rfl) (by kernel_rfl) (by kernel_rfl) (by kernel_rfl) (fun _ => Mod.refl _ _)
    (fun _ _ _ h k => h.trans k (fun _ _ e => e) (fun _ _ e => e)) ?hactgb_r10_0 (stable_list ?_) ?_ ?_
  case hactgb_r10_0 => intro vs; simp only [putAll, Nat.zero_add, Nat.reduceAdd, Act.put, List.setIfInBounds_toArray, List.set_cons_succ, List.set_cons_zero]; exact rfl
  · unfold gb_r10_0_F
    exact stable_cons (stable_val _) <| stable_cons (stable_val _) <| stable_cons (stable_val _) <| stable_cons (stable_val _) <| stable_cons (stable_val _) <| stable_cons (stable_val _) <| stable_cons (stable_val _) <| stable_cons (stable_val _) <| stable_cons (stable_val _) <| stable_cons (stable_val _) <| stable_cons (stable_val _) <| stable_cons (stable_val _) <| stable_nil
  · refine opsOkA_cons ?_ ?_
    · intro K vs W hR hD hK
      clear hD
      try dsimp only at hK ⊢
      simp only [Act.put, List.setIfInBounds_toArray, List.set_cons_succ, List.set_cons_zero] at hK
      go_wp2
      exact hK _ _ rfl (Mod.refl _ _)
    refine opsOkA_cons ?_ ?_
    · intro K vs W hR hD hK
      clear hD
      try dsimp only at hK ⊢
      simp only [Act.put, List.setIfInBounds_toArray, List.set_cons_succ, List.set_cons_zero] at hK
      go_wp2
      exact hK _ _ rfl (Mod.refl _ _)
    refine opsOkA_cons ?_ ?_
    · intro K vs W hR hD hK
      have d1 : vs 1 = .pointer (some ⟨bg, 1, none⟩) := hD 1 (by decide)
      clear hD
      try dsimp only at hK ⊢
      simp only [Act.put, List.setIfInBounds_toArray, List.set_cons_succ, List.set_cons_zero] at hK
      generalize vs 1 = v1 at hK d1 ⊢
      subst v1
      have q0 := ((HSd.out.at (hR)).2.2.2.1).cell 1 rfl
      go_wp2
      exact hK _ _ rfl (Mod.refl _ _)
    refine opsOkA_cons ?_ ?_
    · intro K vs W hR hD hK
      have d2 : vs 2 = .slice a2 n2 d2 := hD 2 (by decide)
      clear hD
      try dsimp only at hK ⊢
      simp only [Act.put, List.setIfInBounds_toArray, List.set_cons_succ, List.set_cons_zero] at hK
      generalize vs 2 = v2 at hK d2 ⊢
      subst v2
      go_wp2_with fail
      exact hK _ _ rfl (Mod.refl _ _)
    refine opsOkA_cons ?_ ?_
    · intro K vs W hR hD hK
      have d0 : vs 0 = .int .i64 va := hD 0 (by decide)
      have d3 : vs 3 = .int .i64 (n2 : Int) := hD 3 (by decide)
      clear hD
      try dsimp only at hK ⊢
      simp only [Act.put, List.setIfInBounds_toArray, List.set_cons_succ, List.set_cons_zero] at hK
      generalize vs 0 = v0 at hK d0 ⊢
      subst v0
      generalize vs 3 = v3 at hK d3 ⊢
      subst v3
      go_wp2_with (go_at_call 26; refine (round_any va (n2 : Int) W (by omega) (by omega)).mono ?_; rintro e' w' ⟨rfl, rfl⟩; rw [HVI.out])
      exact hK _ _ rfl (Mod.refl _ _)
    refine opsOkA_cons ?_ ?_
    · intro K vs W hR hD hK
      clear hD
      try dsimp only at hK ⊢
      simp only [Act.put, List.setIfInBounds_toArray, List.set_cons_succ, List.set_cons_zero] at hK
      go_wp2
      exact hK _ _ rfl (Mod.refl _ _)
    refine opsOkA_cons ?_ ?_
    · intro K vs W hR hD hK
      clear hD
      try dsimp only at hK ⊢
      simp only [Act.put, List.setIfInBounds_toArray, List.set_cons_succ, List.set_cons_zero] at hK
      go_wp2
      exact hK _ _ rfl (Mod.refl _ _)
    refine opsOkA_cons ?_ ?_
    · intro K vs W hR hD hK
      have d6 : vs 6 = .pointer (some ⟨bg, 1, none⟩) := hD 6 (by decide)
      clear hD
      try dsimp only at hK ⊢
      simp only [Act.put, List.setIfInBounds_toArray, List.set_cons_succ, List.set_cons_zero] at hK
      generalize vs 6 = v6 at hK d6 ⊢
      subst v6
      have q0 := ((HSd.out.at (hR)).2.2.2.1).cell 1 rfl
      go_wp2
      exact hK _ _ rfl (Mod.refl _ _)
    refine opsOkA_cons ?_ ?_
    · intro K vs W hR hD hK
      have d7 : vs 7 = .slice a2 n2 d2 := hD 7 (by decide)
      clear hD
      try dsimp only at hK ⊢
      simp only [Act.put, List.setIfInBounds_toArray, List.set_cons_succ, List.set_cons_zero] at hK
      generalize vs 7 = v7 at hK d7 ⊢
      subst v7
      go_wp2_with fail
      exact hK _ _ rfl (Mod.refl _ _)
    refine opsOkA_cons ?_ ?_
    · intro K vs W hR hD hK
      have d5 : vs 5 = .int .i64 vb := hD 5 (by decide)
      have d8 : vs 8 = .int .i64 (n2 : Int) := hD 8 (by decide)
      clear hD
      try dsimp only at hK ⊢
      simp only [Act.put, List.setIfInBounds_toArray, List.set_cons_succ, List.set_cons_zero] at hK
      generalize vs 5 = v5 at hK d5 ⊢
      subst v5
      generalize vs 8 = v8 at hK d8 ⊢
      subst v8
      go_wp2_with (go_at_call 26; refine (round_any vb (n2 : Int) W (by omega) (by omega)).mono ?_; rintro e' w' ⟨rfl, rfl⟩; rw [HVK.out])
      exact hK _ _ rfl (Mod.refl _ _)
    refine opsOkA_cons ?_ ?_
    · intro K vs W hR hD hK
      have d4 : vs 4 = .int .i64 (ki : Int) := hD 4 (by decide)
      clear hD
      try dsimp only at hK ⊢
      simp only [Act.put, List.setIfInBounds_toArray, List.set_cons_succ, List.set_cons_zero] at hK
      generalize vs 4 = v4 at hK d4 ⊢
      subst v4
      go_wp2
      exact hK _ _ rfl (Mod.refl _ _)
    refine opsOkA_cons ?_ ?_
    · intro K vs W hR hD hK
      have d9 : vs 9 = .int .i64 vk := hD 9 (by decide)
      clear hD
      try dsimp only at hK ⊢
      simp only [Act.put, List.setIfInBounds_toArray, List.set_cons_succ, List.set_cons_zero] at hK
      generalize vs 9 = v9 at hK d9 ⊢
      subst v9
      go_wp2
      exact hK _ _ rfl (Mod.refl _ _)
    exact opsOkA_nil
  · intro vs wq7 hR hF
    have d10 : vs 10 = .int .i64 (ki : Int) := hF 10 (by decide)
    have d11 : vs 11 = .int .i64 vk := hF 11 (by decide)
    clear hF
    try dsimp only
    generalize vs 10 = v10 at d10 ⊢
    subst d10
    generalize vs 11 = v11 at d11 ⊢
    subst d11
    replace HS := Lib.hid (HSd.out.step hR)
    clear HSd hR
    have hbbg := (HS.out.now).2.2.2.1
    have qbg_0 := hbbg.cell 0 rfl
    have qbg_1 := hbbg.cell 1 rfl
    have qbg_2 := hbbg.cell 2 rfl
    have lbg := hbbg.lt
    clear hbbg
    have hbbo := (HS.out.now).2.2.1
    have qbo_0 := hbbo.cell 0 rfl
    have qbo_1 := hbbo.cell 1 rfl
    have qbo_2 := hbbo.cell 2 rfl
    have lbo := hbbo.lt
    clear hbbo
    go_wp2_with fail
    clear qbg_0 qbg_1 qbg_2 lbg qbo_0 qbo_1 qbo_2 lbo
    go_upto_region 11 with fail
    have HSd := Lib.hid HS.out.drew
    refine wp_region_inv3 (act := ?actgb_r11_1) (Mod (fun _ => False)) (fun i => (gb_r11_1_F p p2 bg bo ki n1 d1 n2 d2 n3 d3 va vb vk a1 a2 a3 bb).getD i (fun _ _ => True)) (fun i => gb_r11_1_D.getD i []) (by kernel_rfl) (by kernel_rfl) (by kernel_rfl) (by kernel_rfl) (fun _ => Mod.refl _ _)
      (fun _ _ _ h k => h.trans k (fun _ _ e => e) (fun _ _ e => e)) ?hactgb_r11_1 (stable_list ?_) ?_ ?_
    case hactgb_r11_1 => intro vs; simp only [putAll, Nat.zero_add, Nat.reduceAdd, Act.put, List.setIfInBounds_toArray, List.set_cons_succ, List.set_cons_zero]; exact rfl
    · unfold gb_r11_1_F
      exact stable_cons (stable_val _) <| stable_cons (stable_val _) <| stable_cons (stable_val _) <| stable_cons (stable_val _) <| stable_cons (stable_val _) <| stable_cons (stable_val _) <| stable_cons (stable_val _) <| stable_cons (stable_val _) <| stable_cons (stable_val _) <| stable_cons (stable_val _) <| stable_cons (stable_val _) <| stable_cons (stable_val _) <| stable_cons (stable_val _) <| stable_cons (stable_val _) <| stable_cons (stable_val _) <| stable_cons (stable_val _) <| stable_cons (stable_val _) <| stable_cons (stable_val _) <| stable_cons (stable_val _) <| stable_cons (stable_val _) <| stable_nil
    · refine opsOkA_cons ?_ ?_
      · intro K vs W hR hD hK
        clear hD
        try dsimp only at hK ⊢
        simp only [Act.put, List.setIfInBounds_toArray, List.set_cons_succ, List.set_cons_zero] at hK
        go_wp2
        exact hK _ _ rfl (Mod.refl _ _)
      refine opsOkA_cons ?_ ?_
      · intro K vs W hR hD hK
        clear hD
        try dsimp only at hK ⊢
        simp only [Act.put, List.setIfInBounds_toArray, List.set_cons_succ, List.set_cons_zero] at hK
        go_wp2
        exact hK _ _ rfl (Mod.refl _ _)
      refine opsOkA_cons ?_ ?_
      · intro K vs W hR hD hK
        clear hD
        try dsimp only at hK ⊢
        simp only [Act.put, List.setIfInBounds_toArray, List.set_cons_succ, List.set_cons_zero] at hK
        go_wp2
        exact hK _ _ rfl (Mod.refl _ _)
      refine opsOkA_cons ?_ ?_
      · intro K vs W hR hD hK
        have d0 : vs 0 = .pointer (some ⟨p, 0, none⟩) := hD 0 (by decide)
        have d1 : vs 1 = .int .i64 (ki : Int) := hD 1 (by decide)
        have d2 : vs 2 = .int .i64 vk := hD 2 (by decide)
        clear hD
        try dsimp only at hK ⊢
        simp only [Act.put, List.setIfInBounds_toArray, List.set_cons_succ, List.set_cons_zero] at hK
        generalize vs 0 = v0 at hK d0 ⊢
        subst v0
        generalize vs 1 = v1 at hK d1 ⊢
        subst v1
        generalize vs 2 = v2 at hK d2 ⊢
        subst v2
        go_wp2_with (go_at_call 20; refine (banned_any p B C W G ((HSd.out.at (hR)).2.1) (ki : Int) vk).mono ?_; rintro e' w' ⟨rfl, hm'⟩; rw [HBB.out])
        exact hK _ _ rfl hm'
      refine opsOkA_cons ?_ ?_
      · intro K vs W hR hD hK
        clear hD
        try dsimp only at hK ⊢
        simp only [Act.put, List.setIfInBounds_toArray, List.set_cons_succ, List.set_cons_zero] at hK
        have hbx := (HSd.out.at (hR)).2.2.2.1
        have q0 := hbx.cell 0 rfl
        have q1 := hbx.cell 1 rfl
        have q2 := hbx.cell 2 rfl
        go_wp2
        exact hK _ _ rfl (Mod.refl _ _)
      refine opsOkA_cons ?_ ?_
      · intro K vs W hR hD hK
        clear hD
        try dsimp only at hK ⊢
        simp only [Act.put, List.setIfInBounds_toArray, List.set_cons_succ, List.set_cons_zero] at hK
        go_wp2
        exact hK _ _ rfl (Mod.refl _ _)
      refine opsOkA_cons ?_ ?_
      · intro K vs W hR hD hK
        clear hD
        try dsimp only at hK ⊢
        simp only [Act.put, List.setIfInBounds_toArray, List.set_cons_succ, List.set_cons_zero] at hK
        go_wp2
        exact hK _ _ rfl (Mod.refl _ _)
      refine opsOkA_cons ?_ ?_
      · intro K vs W hR hD hK
        have d4 : vs 4 = .agg #[.slice a1 n1 d1, .slice a2 n2 d2, .slice a3 n3 d3] := hD 4 (by decide)
        have d5 : vs 5 = .int .i64 (ki : Int) := hD 5 (by decide)
        have d6 : vs 6 = .int .i64 vk := hD 6 (by decide)
        clear hD
        try dsimp only at hK ⊢
        simp only [Act.put, List.setIfInBounds_toArray, List.set_cons_succ, List.set_cons_zero] at hK
        generalize vs 4 = v4 at hK d4 ⊢
        subst v4
        generalize vs 5 = v5 at hK d5 ⊢
        subst v5
        generalize vs 6 = v6 at hK d6 ⊢
        subst v6
        go_wp2_with (go_at_call 21; refine (r4banned_any G W a1 n1 d1 a2 n2 d2 a3 n3 d3 ((HSd.out.at (hR)).2.2.2.2.1) (by have := hfew.out.2.2; have := ((HSd.out.at (hR)).2.2.2.2.1).b; omega) (ki : Int) vk).mono ?_; rintro e' w' ⟨rfl, hm'⟩; rw [HBB.out])
        exact hK _ _ rfl hm'
      refine opsOkA_cons ?_ ?_
      · intro K vs W hR hD hK
        have d3 : vs 3 = .bool bb := hD 3 (by decide)
        have d7 : vs 7 = .bool bb := hD 7 (by decide)
        clear hD
        try dsimp only at hK ⊢
        simp only [Act.put, List.setIfInBounds_toArray, List.set_cons_succ, List.set_cons_zero] at hK
        generalize vs 3 = v3 at hK d3 ⊢
        subst v3
        generalize vs 7 = v7 at hK d7 ⊢
        subst v7
        go_wp2
        exact hK _ _ rfl (Mod.refl _ _)
      refine opsOkA_cons ?_ ?_
      · intro K vs W hR hD hK
        have d8 : vs 8 = .bool false := hD 8 (by decide)
        clear hD
        try dsimp only at hK ⊢
        simp only [Act.put, List.setIfInBounds_toArray, List.set_cons_succ, List.set_cons_zero] at hK
        generalize vs 8 = v8 at hK d8 ⊢
        subst v8
        go_wp2
        exact hK _ _ rfl (Mod.refl _ _)
      refine opsOkA_cons ?_ ?_
      · intro K vs W hR hD hK
        have d9 : vs 9 = .bool false := hD 9 (by decide)
        clear hD
        try dsimp only at hK ⊢
        simp only [Act.put, List.setIfInBounds_toArray, List.set_cons_succ, List.set_cons_zero] at hK
        generalize vs 9 = v9 at hK d9 ⊢
        subst v9
        go_wp2
        exact hK _ _ rfl (Mod.refl _ _)
      refine opsOkA_cons ?_ ?_
      · intro K vs W hR hD hK
        have d9 : vs 9 = .bool false := hD 9 (by decide)
        clear hD
        try dsimp only at hK ⊢
        simp only [Act.put, List.setIfInBounds_toArray, List.set_cons_succ, List.set_cons_zero] at hK
        generalize vs 9 = v9 at hK d9 ⊢
        subst v9
        go_wp2
        exact hK _ _ rfl (Mod.refl _ _)
      refine opsOkA_cons ?_ ?_
      · intro K vs W hR hD hK
        have d9 : vs 9 = .bool false := hD 9 (by decide)
        clear hD
        try dsimp only at hK ⊢
        simp only [Act.put, List.setIfInBounds_toArray, List.set_cons_succ, List.set_cons_zero] at hK
        generalize vs 9 = v9 at hK d9 ⊢
        subst v9
        go_wp2
        exact hK _ _ rfl (Mod.refl _ _)
      refine opsOkA_cons ?_ ?_
      · intro K vs W hR hD hK
        have d9 : vs 9 = .bool false := hD 9 (by decide)
        have d10 : vs 10 = .pointer (some ⟨p2, 0, none⟩) := hD 10 (by decide)
        have d11 : vs 11 = .int .i64 (ki : Int) := hD 11 (by decide)
        have d12 : vs 12 = .int .i64 vk := hD 12 (by decide)
        clear hD
        try dsimp only at hK ⊢
        simp only [Act.put, List.setIfInBounds_toArray, List.set_cons_succ, List.set_cons_zero] at hK
        generalize vs 9 = v9 at hK d9 ⊢
        subst v9
        generalize vs 10 = v10 at hK d10 ⊢
        subst v10
        generalize vs 11 = v11 at hK d11 ⊢
        subst v11
        generalize vs 12 = v12 at hK d12 ⊢
        subst v12
        go_wp2_with (go_at_call 20; refine (banned_any p2 B2 C2 W ⟨G.N, G.E, []⟩ ((HSd.out.at (hR)).1) (ki : Int) vk).mono ?_; rintro e' w' ⟨rfl, hm'⟩; rw [show decide (((ki : Int), vk) ∈ (⟨G.N, G.E, []⟩ : GD).B) = false by simp])
        exact hK _ _ rfl hm'
      refine opsOkA_cons ?_ ?_
      · intro K vs W hR hD hK
        have d9 : vs 9 = .bool false := hD 9 (by decide)
        have d13 : vs 13 = .bool false := hD 13 (by decide)
        clear hD
        try dsimp only at hK ⊢
        simp only [Act.put, List.setIfInBounds_toArray, List.set_cons_succ, List.set_cons_zero] at hK
        generalize vs 9 = v9 at hK d9 ⊢
        subst v9
        generalize vs 13 = v13 at hK d13 ⊢
        subst v13
        go_wp2
        exact hK _ _ rfl (Mod.refl _ _)
      refine opsOkA_cons ?_ ?_
      · intro K vs W hR hD hK
        have d14 : vs 14 = .bool false := hD 14 (by decide)
        clear hD
        try dsimp only at hK ⊢
        simp only [Act.put, List.setIfInBounds_toArray, List.set_cons_succ, List.set_cons_zero] at hK
        generalize vs 14 = v14 at hK d14 ⊢
        subst v14
        go_wp2
        exact hK _ _ rfl (Mod.refl _ _)
      refine opsOkA_cons ?_ ?_
      · intro K vs W hR hD hK
        have d15 : vs 15 = .bool false := hD 15 (by decide)
        clear hD
        try dsimp only at hK ⊢
        simp only [Act.put, List.setIfInBounds_toArray, List.set_cons_succ, List.set_cons_zero] at hK
        generalize vs 15 = v15 at hK d15 ⊢
        subst v15
        go_wp2
        exact hK _ _ rfl (Mod.refl _ _)
      refine opsOkA_cons ?_ ?_
      · intro K vs W hR hD hK
        have d15 : vs 15 = .bool false := hD 15 (by decide)
        clear hD
        try dsimp only at hK ⊢
        simp only [Act.put, List.setIfInBounds_toArray, List.set_cons_succ, List.set_cons_zero] at hK
        generalize vs 15 = v15 at hK d15 ⊢
        subst v15
        go_wp2
        exact hK _ _ rfl (Mod.refl _ _)
      refine opsOkA_cons ?_ ?_
      · intro K vs W hR hD hK
        have d15 : vs 15 = .bool false := hD 15 (by decide)
        have d16 : vs 16 = .pointer (some ⟨p, 0, none⟩) := hD 16 (by decide)
        have d17 : vs 17 = .int .i64 va := hD 17 (by decide)
        clear hD
        try dsimp only at hK ⊢
        simp only [Act.put, List.setIfInBounds_toArray, List.set_cons_succ, List.set_cons_zero] at hK
        generalize vs 15 = v15 at hK d15 ⊢
        subst v15
        generalize vs 16 = v16 at hK d16 ⊢
        subst v16
        generalize vs 17 = v17 at hK d17 ⊢
        subst v17
        go_wp2_with (go_at_call 20; refine (banned_any p B C W G ((HSd.out.at (hR)).2.1) va (-1)).mono ?_; rintro e' w' ⟨rfl, hm'⟩; rw [ban_low hmay.out va])
        exact hK _ _ rfl hm'
      refine opsOkA_cons ?_ ?_
      · intro K vs W hR hD hK
        have d15 : vs 15 = .bool false := hD 15 (by decide)
        have d18 : vs 18 = .bool false := hD 18 (by decide)
        clear hD
        try dsimp only at hK ⊢
        simp only [Act.put, List.setIfInBounds_toArray, List.set_cons_succ, List.set_cons_zero] at hK
        generalize vs 15 = v15 at hK d15 ⊢
        subst v15
        generalize vs 18 = v18 at hK d18 ⊢
        subst v18
        go_wp2
        exact hK _ _ rfl (Mod.refl _ _)
      exact opsOkA_nil
    · intro vs wq8 hR hF
      have d19 : vs 19 = .bool false := hF 19 (by decide)
      clear hF
      try dsimp only
      generalize vs 19 = v19 at d19 ⊢
      subst d19
      replace HS := Lib.hid (HSd.out.step hR)
      clear HSd hR
      have hbbg := (HS.out.now).2.2.2.1
      have qbg_0 := hbbg.cell 0 rfl
      have qbg_1 := hbbg.cell 1 rfl
      have qbg_2 := hbbg.cell 2 rfl
      have lbg := hbbg.lt
      clear hbbg
      have hbbo := (HS.out.now).2.2.1
      have qbo_0 := hbbo.cell 0 rfl
      have qbo_1 := hbbo.cell 1 rfl
      have qbo_2 := hbbo.cell 2 rfl
      have lbo := hbbo.lt
      clear hbbo
      go_wp2_with fail
      clear qbg_0 qbg_1 qbg_2 lbg qbo_0 qbo_1 qbo_2 lbo
      replace HS := Lib.hid ((Ev.mod wq8).and HS.out)
      have HN1 : Hid (G.N.length = n1) := hn
      have h2n : n1 ≤ 16 := by have := hfew.out.1.2; have := hn.out; omega
      go_loopw [15] (fun i wr => ∃ j : Nat, j ≤ n1 ∧ i = .int .i64 j ∧ Mod (fun _ => False) wq8 wr) (fun i _ => n1 - (intOf i).toNat)
      case atStart => exact ⟨0, by omega, rfl, Mod.refl _ _⟩
      case round =>
        obtain ⟨j, hj, rfl, hmr⟩ := hrel
        replace HS := Lib.hid (HS.out.step hmr)
        clear hmr
        by_cases hlt : j < n1
        case pos =>
          have hjl : j < G.N.length := by rw [HN1.out]; exact hlt
          have z0 : decide ((j : Int) < (n1 : Int)) = true := by simp; omega
          obtain ⟨x, hx⟩ : ∃ x, (G.N[j]).1 = x := ⟨_, rfl⟩
          obtain ⟨y, hy⟩ : ∃ x, (G.N[j]).2 = x := ⟨_, rfl⟩
          obtain ⟨eb, eo, hpl, e0, e1⟩ := rd2 (HS.out.now).2.2.2.2.2.1.rn j hjl
          have hix := fun wx => run_indexS (P := Try.prog) wx 22 37 iN 2 Try.underlying22 hiN hsN a1 n1 d1 j hlt ((HS.out.now).2.2.2.2.2.1.rn.some_ (by have := hlt; omega))
          rw [hpl] at hix
          have HIe := Lib.hid hix
          clear hix hpl
          rw [hx] at e0
          replace HS := Lib.hid ((Ev.cell e0).and HS.out)
          clear e0
          rw [hy] at e1
          replace HS := Lib.hid ((Ev.cell e1).and HS.out)
          clear e1
          have HX := Lib.hid hx
          have HY := Lib.hid hy
          clear hx hy
          have hbbg := (HS.out.now).2.2.2.2.2.2.1
          have qbg_0 := hbbg.cell 0 rfl
          have qbg_1 := hbbg.cell 1 rfl
          have qbg_2 := hbbg.cell 2 rfl
          have lbg := hbbg.lt
          clear hbbg
          have hbbo := (HS.out.now).2.2.2.2.2.1
          have qbo_0 := hbbo.cell 0 rfl
          have qbo_1 := hbbo.cell 1 rfl
          have qbo_2 := hbbo.cell 2 rfl
          have lbo := hbbo.lt
          clear hbbo
          go_wp2_with fail
          refine (node_at p B C _ G ((HS.out.now).2.2.2.2.1) j hjl x y HX.out HY.out).mono ?_
          rintro e wq9 ⟨rfl, hmm⟩
          replace HS := Lib.hid (HS.out.step hmm)
          clear hmm
          clear qbg_0 qbg_1 qbg_2 lbg qbo_0 qbo_1 qbo_2 lbo
          have hbbg := (HS.out.now).2.2.2.2.2.2.1
          have qbg_0 := hbbg.cell 0 rfl
          have qbg_1 := hbbg.cell 1 rfl
          have qbg_2 := hbbg.cell 2 rfl
          have lbg := hbbg.lt
          clear hbbg
          have hbbo := (HS.out.now).2.2.2.2.2.1
          have qbo_0 := hbbo.cell 0 rfl
          have qbo_1 := hbbo.cell 1 rfl
          have qbo_2 := hbbo.cell 2 rfl
          have lbo := hbbo.lt
          clear hbbo
          go_wp2_with fail
          obtain ⟨nb, hnb⟩ : ∃ b, wq9.heap.size = b := ⟨_, rfl⟩
          obtain ⟨wq10, hwq10⟩ : ∃ W, World.alloc wq9 (.cells #[.int .i64 x, .int .i64 y] 37) = W := ⟨_, rfl⟩
          have hBnb : Blk wq10 nb 37 [.int .i64 x, .int .i64 y] := by rw [← hwq10, ← hnb]; exact Blk.new _ 37 [.int .i64 x, .int .i64 y]
          have hznb : wq10.heap.size = nb + 1 := by rw [← hwq10, ← hnb]; exact heap_size_alloc _ _
          replace HS := Lib.hid (HS.out.step (w' := wq10) (by rw [← hwq10]; exact Mod.alloc _ _ _))
          replace HS := Lib.hid ((Ev.blk hBnb).and HS.out)
          try rw [hwq10]
          try rw [hnb]
          clear hznb hBnb hnb hwq10
          clear qbg_0 qbg_1 qbg_2 lbg qbo_0 qbo_1 qbo_2 lbo
          go_upto_region 17 with fail
          have HSd := Lib.hid HS.out.drew
          refine wp_region_inv3 (act := ?actgb_r17_2) (Mod (fun _ => False)) (fun i => (gb_r17_2_F p p2 bg bo nb eb eo j ki n1 d1 n2 d2 n3 d3 va vb vk x y a1 a2 a3 bb G).getD i (fun _ _ => True)) (fun i => gb_r17_2_D.getD i []) (by kernel_rfl) (by kernel_rfl) (by kernel_rfl) (by kernel_rfl) (fun _ => Mod.refl _ _)
            (fun _ _ _ h k => h.trans k (fun _ _ e => e) (fun _ _ e => e)) ?hactgb_r17_2 (stable_list ?_) ?_ ?_
          case hactgb_r17_2 => intro vs; simp only [putAll, Nat.zero_add, Nat.reduceAdd, Act.put, List.setIfInBounds_toArray, List.set_cons_succ, List.set_cons_zero]; exact rfl
          · unfold gb_r17_2_F
            exact stable_cons (stable_val _) <| stable_cons (stable_val _) <| stable_cons (stable_val _) <| stable_cons (stable_val _) <| stable_cons (stable_val _) <| stable_cons (stable_val _) <| stable_cons (stable_val _) <| stable_cons (stable_val _) <| stable_cons (stable_val _) <| stable_cons (stable_val _) <| stable_cons (stable_val _) <| stable_cons (stable_val _) <| stable_cons (stable_val _) <| stable_cons (stable_val _) <| stable_cons (IRow.st _) <| stable_cons (stable_val _) <| stable_cons (stable_val _) <| stable_cons (IRow.st _) <| stable_cons (stable_val _) <| stable_cons (stable_val _) <| stable_cons (stable_val _) <| stable_cons (stable_val _) <| stable_cons (stable_val _) <| stable_cons (stable_val _) <| stable_cons (IRow.st _) <| stable_cons (stable_val _) <| stable_cons (stable_val _) <| stable_cons (IRow.st _) <| stable_cons (stable_val _) <| stable_cons (stable_val _) <| stable_cons (stable_val _) <| stable_nil
          · refine opsOkA_cons ?_ ?_
            · intro K vs W hR hD hK
              clear hD
              try dsimp only at hK ⊢
              simp only [Act.put, List.setIfInBounds_toArray, List.set_cons_succ, List.set_cons_zero] at hK
              go_wp2
              exact hK _ _ rfl (Mod.refl _ _)
            refine opsOkA_cons ?_ ?_
            · intro K vs W hR hD hK
              have d0 : vs 0 = .bool true := hD 0 (by decide)
              clear hD
              try dsimp only at hK ⊢
              simp only [Act.put, List.setIfInBounds_toArray, List.set_cons_succ, List.set_cons_zero] at hK
              generalize vs 0 = v0 at hK d0 ⊢
              subst v0
              go_wp2
              exact hK _ _ rfl (Mod.refl _ _)
            refine opsOkA_cons ?_ ?_
            · intro K vs W hR hD hK
              have d1 : vs 1 = .bool false := hD 1 (by decide)
              clear hD
              try dsimp only at hK ⊢
              simp only [Act.put, List.setIfInBounds_toArray, List.set_cons_succ, List.set_cons_zero] at hK
              generalize vs 1 = v1 at hK d1 ⊢
              subst v1
              go_wp2
              exact hK _ _ rfl (Mod.refl _ _)
            refine opsOkA_cons ?_ ?_
            · intro K vs W hR hD hK
              have d2 : vs 2 = .bool false := hD 2 (by decide)
              clear hD
              try dsimp only at hK ⊢
              simp only [Act.put, List.setIfInBounds_toArray, List.set_cons_succ, List.set_cons_zero] at hK
              generalize vs 2 = v2 at hK d2 ⊢
              subst v2
              have hbx := (HSd.out.at (hR)).1
              have q0 := hbx.cell 0 rfl
              have q1 := hbx.cell 1 rfl
              go_wp2
              exact hK _ _ rfl (Mod.refl _ _)
            refine opsOkA_cons ?_ ?_
            · intro K vs W hR hD hK
              have d2 : vs 2 = .bool false := hD 2 (by decide)
              clear hD
              try dsimp only at hK ⊢
              simp only [Act.put, List.setIfInBounds_toArray, List.set_cons_succ, List.set_cons_zero] at hK
              generalize vs 2 = v2 at hK d2 ⊢
              subst v2
              go_wp2
              exact hK _ _ rfl (Mod.refl _ _)
            refine opsOkA_cons ?_ ?_
            · intro K vs W hR hD hK
              have d2 : vs 2 = .bool false := hD 2 (by decide)
              have d4 : vs 4 = .pointer (some ⟨bg, 0, none⟩) := hD 4 (by decide)
              clear hD
              try dsimp only at hK ⊢
              simp only [Act.put, List.setIfInBounds_toArray, List.set_cons_succ, List.set_cons_zero] at hK
              generalize vs 2 = v2 at hK d2 ⊢
              subst v2
              generalize vs 4 = v4 at hK d4 ⊢
              subst v4
              have q0 := ((HSd.out.at (hR)).2.2.2.2.2.2.2.1).cell 0 rfl
              go_wp2
              exact hK _ _ rfl (Mod.refl _ _)
            refine opsOkA_cons ?_ ?_
            · intro K vs W hR hD hK
              have d2 : vs 2 = .bool false := hD 2 (by decide)
              clear hD
              try dsimp only at hK ⊢
              simp only [Act.put, List.setIfInBounds_toArray, List.set_cons_succ, List.set_cons_zero] at hK
              generalize vs 2 = v2 at hK d2 ⊢
              subst v2
              go_wp2
              exact hK _ _ rfl (Mod.refl _ _)
            refine opsOkA_cons ?_ ?_
            · intro K vs W hR hD hK
              have d2 : vs 2 = .bool false := hD 2 (by decide)
              have d5 : vs 5 = .slice a1 n1 d1 := hD 5 (by decide)
              have d6 : vs 6 = .int .i64 (j : Int) := hD 6 (by decide)
              clear hD
              try dsimp only at hK ⊢
              simp only [Act.put, List.setIfInBounds_toArray, List.set_cons_succ, List.set_cons_zero] at hK
              generalize vs 2 = v2 at hK d2 ⊢
              subst v2
              generalize vs 5 = v5 at hK d5 ⊢
              subst v5
              generalize vs 6 = v6 at hK d6 ⊢
              subst v6
              have hix := HIe.out
              go_wp2_with fail
              exact hK _ _ rfl (Mod.refl _ _)
            refine opsOkA_cons ?_ ?_
            · intro K vs W hR hD hK
              have d2 : vs 2 = .bool false := hD 2 (by decide)
              have d7 : vs 7 = .pointer (some ⟨eb, eo, none⟩) := hD 7 (by decide)
              clear hD
              try dsimp only at hK ⊢
              simp only [Act.put, List.setIfInBounds_toArray, List.set_cons_succ, List.set_cons_zero] at hK
              generalize vs 2 = v2 at hK d2 ⊢
              subst v2
              generalize vs 7 = v7 at hK d7 ⊢
              subst v7
              have c0 := (HSd.out.at (hR)).2.2.1
              have c1 := (HSd.out.at (hR)).2.1
              go_wp2
              exact hK _ _ rfl (Mod.refl _ _)
            refine opsOkA_cons ?_ ?_
            · intro K vs W hR hD hK
              have d2 : vs 2 = .bool false := hD 2 (by decide)
              have d3 : vs 3 = .agg #[.int .i64 x, .int .i64 y] := hD 3 (by decide)
              have d8 : vs 8 = .agg #[.int .i64 x, .int .i64 y] := hD 8 (by decide)
              clear hD
              try dsimp only at hK ⊢
              simp only [Act.put, List.setIfInBounds_toArray, List.set_cons_succ, List.set_cons_zero] at hK
              generalize vs 2 = v2 at hK d2 ⊢
              subst v2
              generalize vs 3 = v3 at hK d3 ⊢
              subst v3
              generalize vs 8 = v8 at hK d8 ⊢
              subst v8
              go_wp2
              exact hK _ _ rfl (Mod.refl _ _)
            refine opsOkA_cons ?_ ?_
            · intro K vs W hR hD hK
              have d2 : vs 2 = .bool false := hD 2 (by decide)
              have d9 : vs 9 = .bool false := hD 9 (by decide)
              clear hD
              try dsimp only at hK ⊢
              simp only [Act.put, List.setIfInBounds_toArray, List.set_cons_succ, List.set_cons_zero] at hK
              generalize vs 2 = v2 at hK d2 ⊢
              subst v2
              generalize vs 9 = v9 at hK d9 ⊢
              subst v9
              go_wp2
              exact hK _ _ rfl (Mod.refl _ _)
            refine opsOkA_cons ?_ ?_
            · intro K vs W hR hD hK
              have d10 : vs 10 = .bool false := hD 10 (by decide)
              clear hD
              try dsimp only at hK ⊢
              simp only [Act.put, List.setIfInBounds_toArray, List.set_cons_succ, List.set_cons_zero] at hK
              generalize vs 10 = v10 at hK d10 ⊢
              subst v10
              go_wp2
              exact hK _ _ rfl (Mod.refl _ _)
            refine opsOkA_cons ?_ ?_
            · intro K vs W hR hD hK
              have d11 : vs 11 = .bool false := hD 11 (by decide)
              clear hD
              try dsimp only at hK ⊢
              simp only [Act.put, List.setIfInBounds_toArray, List.set_cons_succ, List.set_cons_zero] at hK
              generalize vs 11 = v11 at hK d11 ⊢
              subst v11
              go_wp2
              exact hK _ _ rfl (Mod.refl _ _)
            refine opsOkA_cons ?_ ?_
            · intro K vs W hR hD hK
              have d11 : vs 11 = .bool false := hD 11 (by decide)
              clear hD
              try dsimp only at hK ⊢
              simp only [Act.put, List.setIfInBounds_toArray, List.set_cons_succ, List.set_cons_zero] at hK
              generalize vs 11 = v11 at hK d11 ⊢
              subst v11
              go_wp2
              exact hK _ _ rfl (Mod.refl _ _)
            refine opsOkA_cons ?_ ?_
            · intro K vs W hR hD hK
              have d11 : vs 11 = .bool false := hD 11 (by decide)
              have d12 : vs 12 = .pointer (some ⟨p, 0, none⟩) := hD 12 (by decide)
              have d13 : vs 13 = .int .i64 (j : Int) := hD 13 (by decide)
              clear hD
              try dsimp only at hK ⊢
              simp only [Act.put, List.setIfInBounds_toArray, List.set_cons_succ, List.set_cons_zero] at hK
              generalize vs 11 = v11 at hK d11 ⊢
              subst v11
              generalize vs 12 = v12 at hK d12 ⊢
              subst v12
              generalize vs 13 = v13 at hK d13 ⊢
              subst v13
              go_wp2_with (go_at_call 23; refine (out_row p B C W G ((HSd.out.at (hR)).2.2.2.2.2.1) (j : Int)).mono ?_; rintro e' w' ⟨x', rfl, hx', hm'⟩)
              exact hK _ _ hx' hm'
            refine opsOkA_cons ?_ ?_
            · intro K vs W hR hD hK
              have d11 : vs 11 = .bool false := hD 11 (by decide)
              clear hD
              try dsimp only at hK ⊢
              simp only [Act.put, List.setIfInBounds_toArray, List.set_cons_succ, List.set_cons_zero] at hK
              generalize vs 11 = v11 at hK d11 ⊢
              subst v11
              go_wp2
              exact hK _ _ rfl (Mod.refl _ _)
            refine opsOkA_cons ?_ ?_
            · intro K vs W hR hD hK
              have d11 : vs 11 = .bool false := hD 11 (by decide)
              clear hD
              try dsimp only at hK ⊢
              simp only [Act.put, List.setIfInBounds_toArray, List.set_cons_succ, List.set_cons_zero] at hK
              generalize vs 11 = v11 at hK d11 ⊢
              subst v11
              go_wp2
              exact hK _ _ rfl (Mod.refl _ _)
            refine opsOkA_cons ?_ ?_
            · intro K vs W hR hD hK
              have d11 : vs 11 = .bool false := hD 11 (by decide)
              have d15 : vs 15 = .pointer (some ⟨p2, 0, none⟩) := hD 15 (by decide)
              have d16 : vs 16 = .int .i64 (j : Int) := hD 16 (by decide)
              clear hD
              try dsimp only at hK ⊢
              simp only [Act.put, List.setIfInBounds_toArray, List.set_cons_succ, List.set_cons_zero] at hK
              generalize vs 11 = v11 at hK d11 ⊢
              subst v11
              generalize vs 15 = v15 at hK d15 ⊢
              subst v15
              generalize vs 16 = v16 at hK d16 ⊢
              subst v16
              go_wp2_with (go_at_call 23; refine (out_row p2 B2 C2 W ⟨G.N, G.E, []⟩ ((HSd.out.at (hR)).2.2.2.2.1) (j : Int)).mono ?_; rintro e' w' ⟨x', rfl, hx', hm'⟩)
              exact hK _ _ hx' hm'
            refine opsOkA_cons ?_ ?_
            · intro K vs W hR hD hK
              have d11 : vs 11 = .bool false := hD 11 (by decide)
              have d14 : (IRow (gOut G (j : Int))) (vs 14) W := hD 14 (by decide)
              have d17 : (IRow (gOut ⟨G.N, G.E, []⟩ (j : Int))) (vs 17) W := hD 17 (by decide)
              clear hD
              try dsimp only at hK ⊢
              simp only [Act.put, List.setIfInBounds_toArray, List.set_cons_succ, List.set_cons_zero] at hK
              generalize vs 11 = v11 at hK d11 ⊢
              subst v11
              generalize vs 14 = v14 at hK d14 ⊢
              generalize vs 17 = v17 at hK d17 ⊢
              obtain ⟨ax14, cx14, rfl, hx14⟩ := d14
              obtain ⟨ax17, cx17, rfl, hx17⟩ := d17
              go_wp2_with (go_at_call 25; refine (ints_same W _ _ _ _ rfl hx14 _ _ _ _ rfl hx17 (by have := gOut_len G (j : Int); have := hfew.out.2.1; omega) true (decide_eq_true rfl)).mono ?_; rintro e' w' ⟨rfl, hm'⟩)
              exact hK _ _ rfl hm'
            refine opsOkA_cons ?_ ?_
            · intro K vs W hR hD hK
              have d11 : vs 11 = .bool false := hD 11 (by decide)
              have d18 : vs 18 = .bool true := hD 18 (by decide)
              clear hD
              try dsimp only at hK ⊢
              simp only [Act.put, List.setIfInBounds_toArray, List.set_cons_succ, List.set_cons_zero] at hK
              generalize vs 11 = v11 at hK d11 ⊢
              subst v11
              generalize vs 18 = v18 at hK d18 ⊢
              subst v18
              go_wp2
              exact hK _ _ rfl (Mod.refl _ _)
            refine opsOkA_cons ?_ ?_
            · intro K vs W hR hD hK
              have d11 : vs 11 = .bool false := hD 11 (by decide)
              have d19 : vs 19 = .bool false := hD 19 (by decide)
              clear hD
              try dsimp only at hK ⊢
              simp only [Act.put, List.setIfInBounds_toArray, List.set_cons_succ, List.set_cons_zero] at hK
              generalize vs 11 = v11 at hK d11 ⊢
              subst v11
              generalize vs 19 = v19 at hK d19 ⊢
              subst v19
              go_wp2
              exact hK _ _ rfl (Mod.refl _ _)
            refine opsOkA_cons ?_ ?_
            · intro K vs W hR hD hK
              have d20 : vs 20 = .bool false := hD 20 (by decide)
              clear hD
              try dsimp only at hK ⊢
              simp only [Act.put, List.setIfInBounds_toArray, List.set_cons_succ, List.set_cons_zero] at hK
              generalize vs 20 = v20 at hK d20 ⊢
              subst v20
              go_wp2
              exact hK _ _ rfl (Mod.refl _ _)
            refine opsOkA_cons ?_ ?_
            · intro K vs W hR hD hK
              have d21 : vs 21 = .bool false := hD 21 (by decide)
              clear hD
              try dsimp only at hK ⊢
              simp only [Act.put, List.setIfInBounds_toArray, List.set_cons_succ, List.set_cons_zero] at hK
              generalize vs 21 = v21 at hK d21 ⊢
              subst v21
              go_wp2
              exact hK _ _ rfl (Mod.refl _ _)
            refine opsOkA_cons ?_ ?_
            · intro K vs W hR hD hK
              have d21 : vs 21 = .bool false := hD 21 (by decide)
              clear hD
              try dsimp only at hK ⊢
              simp only [Act.put, List.setIfInBounds_toArray, List.set_cons_succ, List.set_cons_zero] at hK
              generalize vs 21 = v21 at hK d21 ⊢
              subst v21
              go_wp2
              exact hK _ _ rfl (Mod.refl _ _)
            refine opsOkA_cons ?_ ?_
            · intro K vs W hR hD hK
              have d21 : vs 21 = .bool false := hD 21 (by decide)
              have d22 : vs 22 = .pointer (some ⟨p, 0, none⟩) := hD 22 (by decide)
              have d23 : vs 23 = .int .i64 (j : Int) := hD 23 (by decide)
              clear hD
              try dsimp only at hK ⊢
              simp only [Act.put, List.setIfInBounds_toArray, List.set_cons_succ, List.set_cons_zero] at hK
              generalize vs 21 = v21 at hK d21 ⊢
              subst v21
              generalize vs 22 = v22 at hK d22 ⊢
              subst v22
              generalize vs 23 = v23 at hK d23 ⊢
              subst v23
              go_wp2_with (go_at_call 24; refine (in_row p B C W G ((HSd.out.at (hR)).2.2.2.2.2.1) (j : Int)).mono ?_; rintro e' w' ⟨x', rfl, hx', hm'⟩)
              exact hK _ _ hx' hm'
            refine opsOkA_cons ?_ ?_
            · intro K vs W hR hD hK
              have d21 : vs 21 = .bool false := hD 21 (by decide)
              clear hD
              try dsimp only at hK ⊢
              simp only [Act.put, List.setIfInBounds_toArray, List.set_cons_succ, List.set_cons_zero] at hK
              generalize vs 21 = v21 at hK d21 ⊢
              subst v21
              go_wp2
              exact hK _ _ rfl (Mod.refl _ _)
            refine opsOkA_cons ?_ ?_
            · intro K vs W hR hD hK
              have d21 : vs 21 = .bool false := hD 21 (by decide)
              clear hD
              try dsimp only at hK ⊢
              simp only [Act.put, List.setIfInBounds_toArray, List.set_cons_succ, List.set_cons_zero] at hK
              generalize vs 21 = v21 at hK d21 ⊢
              subst v21
              go_wp2
              exact hK _ _ rfl (Mod.refl _ _)
            refine opsOkA_cons ?_ ?_
            · intro K vs W hR hD hK
              have d21 : vs 21 = .bool false := hD 21 (by decide)
              have d25 : vs 25 = .pointer (some ⟨p2, 0, none⟩) := hD 25 (by decide)
              have d26 : vs 26 = .int .i64 (j : Int) := hD 26 (by decide)
              clear hD
              try dsimp only at hK ⊢
              simp only [Act.put, List.setIfInBounds_toArray, List.set_cons_succ, List.set_cons_zero] at hK
              generalize vs 21 = v21 at hK d21 ⊢
              subst v21
              generalize vs 25 = v25 at hK d25 ⊢
              subst v25
              generalize vs 26 = v26 at hK d26 ⊢
              subst v26
              go_wp2_with (go_at_call 24; refine (in_row p2 B2 C2 W ⟨G.N, G.E, []⟩ ((HSd.out.at (hR)).2.2.2.2.1) (j : Int)).mono ?_; rintro e' w' ⟨x', rfl, hx', hm'⟩)
              exact hK _ _ hx' hm'
            refine opsOkA_cons ?_ ?_
            · intro K vs W hR hD hK
              have d21 : vs 21 = .bool false := hD 21 (by decide)
              have d24 : (IRow (gIn G (j : Int))) (vs 24) W := hD 24 (by decide)
              have d27 : (IRow (gIn ⟨G.N, G.E, []⟩ (j : Int))) (vs 27) W := hD 27 (by decide)
              clear hD
              try dsimp only at hK ⊢
              simp only [Act.put, List.setIfInBounds_toArray, List.set_cons_succ, List.set_cons_zero] at hK
              generalize vs 21 = v21 at hK d21 ⊢
              subst v21
              generalize vs 24 = v24 at hK d24 ⊢
              generalize vs 27 = v27 at hK d27 ⊢
              obtain ⟨ax24, cx24, rfl, hx24⟩ := d24
              obtain ⟨ax27, cx27, rfl, hx27⟩ := d27
              go_wp2_with (go_at_call 25; refine (ints_same W _ _ _ _ rfl hx24 _ _ _ _ rfl hx27 (by have := gIn_len G (j : Int); have := hfew.out.2.1; omega) true (decide_eq_true rfl)).mono ?_; rintro e' w' ⟨rfl, hm'⟩)
              exact hK _ _ rfl hm'
            refine opsOkA_cons ?_ ?_
            · intro K vs W hR hD hK
              have d21 : vs 21 = .bool false := hD 21 (by decide)
              have d28 : vs 28 = .bool true := hD 28 (by decide)
              clear hD
              try dsimp only at hK ⊢
              simp only [Act.put, List.setIfInBounds_toArray, List.set_cons_succ, List.set_cons_zero] at hK
              generalize vs 21 = v21 at hK d21 ⊢
              subst v21
              generalize vs 28 = v28 at hK d28 ⊢
              subst v28
              go_wp2
              exact hK _ _ rfl (Mod.refl _ _)
            refine opsOkA_cons ?_ ?_
            · intro K vs W hR hD hK
              have d21 : vs 21 = .bool false := hD 21 (by decide)
              have d29 : vs 29 = .bool false := hD 29 (by decide)
              clear hD
              try dsimp only at hK ⊢
              simp only [Act.put, List.setIfInBounds_toArray, List.set_cons_succ, List.set_cons_zero] at hK
              generalize vs 21 = v21 at hK d21 ⊢
              subst v21
              generalize vs 29 = v29 at hK d29 ⊢
              subst v29
              go_wp2
              exact hK _ _ rfl (Mod.refl _ _)
            exact opsOkA_nil
          · intro vs wq11 hR hF
            have d30 : vs 30 = .bool false := hF 30 (by decide)
            clear hF
            try dsimp only
            generalize vs 30 = v30 at d30 ⊢
            subst d30
            replace HS := Lib.hid (HSd.out.step hR)
            clear HSd hR
            have hbbg := (HS.out.now).2.2.2.2.2.2.2.1
            have qbg_0 := hbbg.cell 0 rfl
            have qbg_1 := hbbg.cell 1 rfl
            have qbg_2 := hbbg.cell 2 rfl
            have lbg := hbbg.lt
            clear hbbg
            have hbbo := (HS.out.now).2.2.2.2.2.2.1
            have qbo_0 := hbbo.cell 0 rfl
            have qbo_1 := hbbo.cell 1 rfl
            have qbo_2 := hbbo.cell 2 rfl
            have lbo := hbbo.lt
            clear hbbo
            have hbnb := (HS.out.now).1
            have qnb_0 := hbnb.cell 0 rfl
            have qnb_1 := hbnb.cell 1 rfl
            have lnb := hbnb.lt
            clear hbnb
            go_wp2_with fail
            go_roundw
            case rel => exact ⟨j + 1, hlt, by go_num, (HS.out.now).2.2.2.1⟩
            case measure => simp [intOf]; omega
        case neg =>
          have z0 : decide ((j : Int) < (n1 : Int)) = false := by simp; omega
          have hkl : ki < G.E.length := by rw [he.out]; exact hkn
          obtain ⟨x, hx⟩ : ∃ x, (G.E[ki]).1 = x := ⟨_, rfl⟩
          obtain ⟨y, hy⟩ : ∃ x, (G.E[ki]).2.1 = x := ⟨_, rfl⟩
          obtain ⟨z, hz⟩ : ∃ x, (G.E[ki]).2.2 = x := ⟨_, rfl⟩
          obtain ⟨fb, fo, hpl, e0, e1, e2⟩ := rd3 (HS.out.now).2.2.2.2.2.1.re ki hkl
          have hix := fun wx => run_indexS (P := Try.prog) wx 23 41 iE 3 Try.underlying23 hiE hsE a2 n2 d2 ki hkn ((HS.out.now).2.2.2.2.2.1.re.some_ (by have := hkn; omega))
          rw [hpl] at hix
          have HIf := Lib.hid hix
          clear hix hpl
          rw [hx] at e0
          replace HS := Lib.hid ((Ev.cell e0).and HS.out)
          clear e0
          rw [hy] at e1
          replace HS := Lib.hid ((Ev.cell e1).and HS.out)
          clear e1
          rw [hz] at e2
          replace HS := Lib.hid ((Ev.cell e2).and HS.out)
          clear e2
          have HX := Lib.hid hx
          have HY := Lib.hid hy
          have HZ := Lib.hid hz
          clear hx hy hz
          have hbbg := (HS.out.now).2.2.2.2.2.2.2.1
          have qbg_0 := hbbg.cell 0 rfl
          have qbg_1 := hbbg.cell 1 rfl
          have qbg_2 := hbbg.cell 2 rfl
          have lbg := hbbg.lt
          clear hbbg
          have hbbo := (HS.out.now).2.2.2.2.2.2.1
          have qbo_0 := hbbo.cell 0 rfl
          have qbo_1 := hbbo.cell 1 rfl
          have qbo_2 := hbbo.cell 2 rfl
          have lbo := hbbo.lt
          clear hbbo
          go_wp2_with fail
          refine (edge_at p B C _ G ((HS.out.now).2.2.2.2.2.1) ki hkl x y z HX.out HY.out HZ.out).mono ?_
          rintro e wq12 ⟨rfl, hmm⟩
          replace HS := Lib.hid (HS.out.step hmm)
          clear hmm
          clear qbg_0 qbg_1 qbg_2 lbg qbo_0 qbo_1 qbo_2 lbo
          have hbbg := (HS.out.now).2.2.2.2.2.2.2.1
          have qbg_0 := hbbg.cell 0 rfl
          have qbg_1 := hbbg.cell 1 rfl
          have qbg_2 := hbbg.cell 2 rfl
          have lbg := hbbg.lt
          clear hbbg
          have hbbo := (HS.out.now).2.2.2.2.2.2.1
          have qbo_0 := hbbo.cell 0 rfl
          have qbo_1 := hbbo.cell 1 rfl
          have qbo_2 := hbbo.cell 2 rfl
          have lbo := hbbo.lt
          clear hbbo
          go_wp2_with fail
          obtain ⟨xb, hxb⟩ : ∃ b, wq12.heap.size = b := ⟨_, rfl⟩
          obtain ⟨wq13, hwq13⟩ : ∃ W, World.alloc wq12 (.cells #[.int .i64 x, .int .i64 y, .int .i64 z] 41) = W := ⟨_, rfl⟩
          have hBxb : Blk wq13 xb 41 [.int .i64 x, .int .i64 y, .int .i64 z] := by rw [← hwq13, ← hxb]; exact Blk.new _ 41 [.int .i64 x, .int .i64 y, .int .i64 z]
          have hzxb : wq13.heap.size = xb + 1 := by rw [← hwq13, ← hxb]; exact heap_size_alloc _ _
          replace HS := Lib.hid (HS.out.step (w' := wq13) (by rw [← hwq13]; exact Mod.alloc _ _ _))
          replace HS := Lib.hid ((Ev.blk hBxb).and HS.out)
          try rw [hwq13]
          try rw [hxb]
          clear hzxb hBxb hxb hwq13
          clear qbg_0 qbg_1 qbg_2 lbg qbo_0 qbo_1 qbo_2 lbo
          go_upto_region 20 with fail
          have HSd := Lib.hid HS.out.drew
          refine wp_region_inv3 (act := ?actgb_r20_3) (Mod (fun _ => False)) (fun i => (gb_r20_3_F p p2 bg bo xb fb fo ki n1 d1 n2 d2 n3 d3 va vb vk x y z a1 a2 a3 bb).getD i (fun _ _ => True)) (fun i => gb_r20_3_D.getD i []) (by kernel_rfl) (by kernel_rfl) (by kernel_rfl) (by kernel_rfl) (fun _ => Mod.refl _ _)
            (fun _ _ _ h k => h.trans k (fun _ _ e => e) (fun _ _ e => e)) ?hactgb_r20_3 (stable_list ?_) ?_ ?_
          case hactgb_r20_3 => intro vs; simp only [putAll, Nat.zero_add, Nat.reduceAdd, Act.put, List.setIfInBounds_toArray, List.set_cons_succ, List.set_cons_zero]; exact rfl
          · unfold gb_r20_3_F
            exact stable_cons (stable_val _) <| stable_cons (stable_val _) <| stable_cons (stable_val _) <| stable_cons (stable_val _) <| stable_cons (stable_val _) <| stable_cons (stable_val _) <| stable_cons (stable_val _) <| stable_cons (stable_val _) <| stable_cons (stable_val _) <| stable_cons (stable_val _) <| stable_cons (stable_val _) <| stable_cons (stable_val _) <| stable_cons (stable_val _) <| stable_cons (stable_val _) <| stable_nil
          · refine opsOkA_cons ?_ ?_
            · intro K vs W hR hD hK
              clear hD
              try dsimp only at hK ⊢
              simp only [Act.put, List.setIfInBounds_toArray, List.set_cons_succ, List.set_cons_zero] at hK
              go_wp2
              exact hK _ _ rfl (Mod.refl _ _)
            refine opsOkA_cons ?_ ?_
            · intro K vs W hR hD hK
              have d0 : vs 0 = .bool true := hD 0 (by decide)
              clear hD
              try dsimp only at hK ⊢
              simp only [Act.put, List.setIfInBounds_toArray, List.set_cons_succ, List.set_cons_zero] at hK
              generalize vs 0 = v0 at hK d0 ⊢
              subst v0
              go_wp2
              exact hK _ _ rfl (Mod.refl _ _)
            refine opsOkA_cons ?_ ?_
            · intro K vs W hR hD hK
              have d1 : vs 1 = .bool true := hD 1 (by decide)
              clear hD
              try dsimp only at hK ⊢
              simp only [Act.put, List.setIfInBounds_toArray, List.set_cons_succ, List.set_cons_zero] at hK
              generalize vs 1 = v1 at hK d1 ⊢
              subst v1
              have hbx := (HSd.out.at (hR)).1
              have q0 := hbx.cell 0 rfl
              have q1 := hbx.cell 1 rfl
              have q2 := hbx.cell 2 rfl
              go_wp2
              exact hK _ _ rfl (Mod.refl _ _)
            refine opsOkA_cons ?_ ?_
            · intro K vs W hR hD hK
              have d1 : vs 1 = .bool true := hD 1 (by decide)
              clear hD
              try dsimp only at hK ⊢
              simp only [Act.put, List.setIfInBounds_toArray, List.set_cons_succ, List.set_cons_zero] at hK
              generalize vs 1 = v1 at hK d1 ⊢
              subst v1
              go_wp2
              exact hK _ _ rfl (Mod.refl _ _)
            refine opsOkA_cons ?_ ?_
            · intro K vs W hR hD hK
              have d1 : vs 1 = .bool true := hD 1 (by decide)
              have d3 : vs 3 = .pointer (some ⟨bg, 1, none⟩) := hD 3 (by decide)
              clear hD
              try dsimp only at hK ⊢
              simp only [Act.put, List.setIfInBounds_toArray, List.set_cons_succ, List.set_cons_zero] at hK
              generalize vs 1 = v1 at hK d1 ⊢
              subst v1
              generalize vs 3 = v3 at hK d3 ⊢
              subst v3
              have q0 := ((HSd.out.at (hR)).2.2.2.2.2.2.2.2.1).cell 1 rfl
              go_wp2
              exact hK _ _ rfl (Mod.refl _ _)
            refine opsOkA_cons ?_ ?_
            · intro K vs W hR hD hK
              have d1 : vs 1 = .bool true := hD 1 (by decide)
              clear hD
              try dsimp only at hK ⊢
              simp only [Act.put, List.setIfInBounds_toArray, List.set_cons_succ, List.set_cons_zero] at hK
              generalize vs 1 = v1 at hK d1 ⊢
              subst v1
              go_wp2
              exact hK _ _ rfl (Mod.refl _ _)
            refine opsOkA_cons ?_ ?_
            · intro K vs W hR hD hK
              have d1 : vs 1 = .bool true := hD 1 (by decide)
              have d4 : vs 4 = .slice a2 n2 d2 := hD 4 (by decide)
              have d5 : vs 5 = .int .i64 (ki : Int) := hD 5 (by decide)
              clear hD
              try dsimp only at hK ⊢
              simp only [Act.put, List.setIfInBounds_toArray, List.set_cons_succ, List.set_cons_zero] at hK
              generalize vs 1 = v1 at hK d1 ⊢
              subst v1
              generalize vs 4 = v4 at hK d4 ⊢
              subst v4
              generalize vs 5 = v5 at hK d5 ⊢
              subst v5
              have hix := HIf.out
              go_wp2_with fail
              exact hK _ _ rfl (Mod.refl _ _)
            refine opsOkA_cons ?_ ?_
            · intro K vs W hR hD hK
              have d1 : vs 1 = .bool true := hD 1 (by decide)
              have d6 : vs 6 = .pointer (some ⟨fb, fo, none⟩) := hD 6 (by decide)
              clear hD
              try dsimp only at hK ⊢
              simp only [Act.put, List.setIfInBounds_toArray, List.set_cons_succ, List.set_cons_zero] at hK
              generalize vs 1 = v1 at hK d1 ⊢
              subst v1
              generalize vs 6 = v6 at hK d6 ⊢
              subst v6
              have c0 := (HSd.out.at (hR)).2.2.2.1
              have c1 := (HSd.out.at (hR)).2.2.1
              have c2 := (HSd.out.at (hR)).2.1
              go_wp2
              exact hK _ _ rfl (Mod.refl _ _)
            refine opsOkA_cons ?_ ?_
            · intro K vs W hR hD hK
              have d1 : vs 1 = .bool true := hD 1 (by decide)
              have d2 : vs 2 = .agg #[.int .i64 x, .int .i64 y, .int .i64 z] := hD 2 (by decide)
              have d7 : vs 7 = .agg #[.int .i64 x, .int .i64 y, .int .i64 z] := hD 7 (by decide)
              clear hD
              try dsimp only at hK ⊢
              simp only [Act.put, List.setIfInBounds_toArray, List.set_cons_succ, List.set_cons_zero] at hK
              generalize vs 1 = v1 at hK d1 ⊢
              subst v1
              generalize vs 2 = v2 at hK d2 ⊢
              subst v2
              generalize vs 7 = v7 at hK d7 ⊢
              subst v7
              go_wp2
              exact hK _ _ rfl (Mod.refl _ _)
            refine opsOkA_cons ?_ ?_
            · intro K vs W hR hD hK
              have d1 : vs 1 = .bool true := hD 1 (by decide)
              have d8 : vs 8 = .bool true := hD 8 (by decide)
              clear hD
              try dsimp only at hK ⊢
              simp only [Act.put, List.setIfInBounds_toArray, List.set_cons_succ, List.set_cons_zero] at hK
              generalize vs 1 = v1 at hK d1 ⊢
              subst v1
              generalize vs 8 = v8 at hK d8 ⊢
              subst v8
              go_wp2
              exact hK _ _ rfl (Mod.refl _ _)
            refine opsOkA_cons ?_ ?_
            · intro K vs W hR hD hK
              have d9 : vs 9 = .bool true := hD 9 (by decide)
              clear hD
              try dsimp only at hK ⊢
              simp only [Act.put, List.setIfInBounds_toArray, List.set_cons_succ, List.set_cons_zero] at hK
              generalize vs 9 = v9 at hK d9 ⊢
              subst v9
              go_wp2
              exact hK _ _ rfl (Mod.refl _ _)
            refine opsOkA_cons ?_ ?_
            · intro K vs W hR hD hK
              have d10 : vs 10 = .bool true := hD 10 (by decide)
              clear hD
              try dsimp only at hK ⊢
              simp only [Act.put, List.setIfInBounds_toArray, List.set_cons_succ, List.set_cons_zero] at hK
              generalize vs 10 = v10 at hK d10 ⊢
              subst v10
              go_wp2_with (go_at_call 9; refine (awake_any W).mono ?_; rintro e' w' ⟨rfl, hm'⟩)
              exact hK _ _ rfl hm'
            refine opsOkA_cons ?_ ?_
            · intro K vs W hR hD hK
              have d10 : vs 10 = .bool true := hD 10 (by decide)
              have d11 : vs 11 = .bool true := hD 11 (by decide)
              clear hD
              try dsimp only at hK ⊢
              simp only [Act.put, List.setIfInBounds_toArray, List.set_cons_succ, List.set_cons_zero] at hK
              generalize vs 10 = v10 at hK d10 ⊢
              subst v10
              generalize vs 11 = v11 at hK d11 ⊢
              subst v11
              go_wp2
              exact hK _ _ rfl (Mod.refl _ _)
            refine opsOkA_cons ?_ ?_
            · intro K vs W hR hD hK
              have d12 : vs 12 = .bool true := hD 12 (by decide)
              clear hD
              try dsimp only at hK ⊢
              simp only [Act.put, List.setIfInBounds_toArray, List.set_cons_succ, List.set_cons_zero] at hK
              generalize vs 12 = v12 at hK d12 ⊢
              subst v12
              go_wp2
              exact hK _ _ rfl (Mod.refl _ _)
            exact opsOkA_nil
          · intro vs wq14 hR hF
            have d13 : vs 13 = .bool true := hF 13 (by decide)
            clear hF
            try dsimp only
            generalize vs 13 = v13 at d13 ⊢
            subst d13
            replace HS := Lib.hid (HSd.out.step hR)
            clear HSd hR
            have hbbg := (HS.out.now).2.2.2.2.2.2.2.2.1
            have qbg_0 := hbbg.cell 0 rfl
            have qbg_1 := hbbg.cell 1 rfl
            have qbg_2 := hbbg.cell 2 rfl
            have lbg := hbbg.lt
            clear hbbg
            have hbbo := (HS.out.now).2.2.2.2.2.2.2.1
            have qbo_0 := hbbo.cell 0 rfl
            have qbo_1 := hbbo.cell 1 rfl
            have qbo_2 := hbbo.cell 2 rfl
            have lbo := hbbo.lt
            clear hbbo
            have hbxb := (HS.out.now).1
            have qxb_0 := hbxb.cell 0 rfl
            have qxb_1 := hbxb.cell 1 rfl
            have qxb_2 := hbxb.cell 2 rfl
            have lxb := hbxb.lt
            clear hbxb
            go_wp2_with fail
            go_ret
            exact ⟨rfl, (HS.out.now).2.2.2.2.2.2.2.2.2.2.2⟩
theorem gbans_law (w : World) (a0 : Option Addr) (m c0 : Nat) (l : List Int) (ok : (encSlice (encInt .i64)).ok w (.slice a0 m c0, l)) (va : Int) (_ : (Lit.int .i64 va).wf = true) (vb : Int) (_ : (Lit.int .i64 vb).wf = true) :
    Calls Try.prog 7 #[.slice a0 m c0, .int .i64 va, .int .i64 vb] w fun e w' => e = .returned (.bool true) ∧ Below w.heap.size w w' := by
  obtain ⟨hn, hr, _⟩ := ok_ints ok
  exact (gbans_all w a0 m c0 l hn hr va vb).mono fun e w' h => ⟨h.1, h.2.below (Nat.le_refl _) (fun _ e => e.elim)⟩
end Go.Proofs.Ytnibokikmckfiaa
