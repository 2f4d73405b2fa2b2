/- dist.To by contract. -/
import Derived.Test.YtbjdjafkpldbnaaKDist
import Derived.Test.YtbjdjafkpldbnaaKReg
import Derived.Deep.DeepCutAuto
import Derived.Deep.CutBlock
namespace Go.Proofs.Ytbjdjafkpldbnaa
open Go.RowKit Mile
set_option maxRecDepth 100000
attribute [local go_sem] Oper.semAt_some
/-- What To tells. -/
def dtoP (G : GD) (hm : May G) (v : Int) (cl : List Bool) (w : World) (e : Ending) (w' : World) : Prop :=
  ((0 ≤ v ∧ v < (G.N.length : Int)) ∧ ∃ x, e = .returned x ∧ DRow (webTo G hm v cl) w.heap.size x w' ∧ Mod (fun _ => False) w w') ∨ (¬ (0 ≤ v ∧ v < (G.N.length : Int)) ∧ e = .returned (.slice none 0 0) ∧ Mod (fun _ => False) w w')
/-- What each operation of the statement leaves. -/
def dto_r6_0_F (t : Nat) (p : Nat) (v : Int) (G : GD) (hm : May G) (cl : List Bool) (B0 : Nat) : List FactP :=
  [(true, fun _ => IsV (.pointer (some ⟨t, 0, none⟩))),
   (true, fun _ => IsV (.pointer (some ⟨t, 0, none⟩))),
   (true, fun _ => IsV (.pointer (some ⟨t, 0, none⟩))),
   (true, fun _ => IsV (.pointer (some ⟨p, 0, none⟩))),
   (true, fun _ => IsV (.int .i64 (G.E.length : Int))),
   (true, fun _ => IsV (.pointer (some ⟨t, 0, none⟩))),
   (true, fun _ => IsV (.pointer (some ⟨t, 0, none⟩))),
   (true, fun _ => IsV (.pointer (some ⟨t, 0, none⟩))),
   (true, fun _ => IsV (.pointer (some ⟨p, 0, none⟩))),
   (true, fun _ => IsV (.int .i64 v)),
   (false, fun _ => IRow (idx (G.E.map (·.2.1)) v)),
   (false, fun _ => BegV (webTo G hm v cl) B0),
   (false, fun _ => VarV B0)]
def dto_r6_0_D : List (List Nat) := [[], [0], [1], [2], [3], [], [5], [6], [7], [], [8, 9], [4, 10], []]
def dto_r6_0_C : List Nat := [1000, 1000, 1000, 1000, 1000, 1000, 1000, 1000, 1000, 1000, 1000, 1000, 1000]

set_option maxHeartbeats 16000000 in
theorem dto_any (t p B C : Nat) (G : GD) (hm : May G) (w : World) (h : TO w t p B C G) (v : Int) (a : Option Addr) (n c : Nat) (cl : List Bool) (hn : cl.length = n) (hr : Rd w 1 (.slice a n c) n (cl.map Value.bool)) :
    Calls Try.prog 31 #[.pointer (some ⟨t, 0, none⟩), .int .i64 v, .slice a n c] w (dtoP G hm v cl w) := by
  have HS : Hid (Ev (Mod (fun _ => False) w) w) := Lib.hid (Ev.mod w)
  replace HS := Lib.hid ((Ev.to h).and HS.out)
  replace HS := Lib.hid ((Ev.rd hr).and HS.out)
  replace HS := Lib.hid ((Ev.blk h.blk).and HS.out)
  have HS0 := HS
  have H := Lib.hid h
  have HN := Lib.hid hn
  have HCL := Lib.hid hr
  clear h hr hn
  have hmS := hm
  have hes : G.E.length ≤ 512 := hm.1.2.1
  clear hmS
  obtain ⟨iI, hiI, hzI, hsI, hbI⟩ := info_parts GR.infoI
  refine calls_of_rf Try.func31 rfl ?_
  simp only [Try.ntmps31, List.size_toArray, List.length_cons, List.length_nil, Nat.reduceAdd, Nat.reduceSub, Array.replicate_succ, Array.replicate_zero, List.push_toArray, List.append_toArray, List.nil_append, List.cons_append]
  go_upto_region 1 with fail
  obtain ⟨b3, hb3⟩ : ∃ b, w.heap.size = b := ⟨_, rfl⟩
  obtain ⟨wq1, hwq1⟩ : ∃ W, World.alloc w (.cells #[.pointer (some ⟨t, 0, none⟩)] 29) = W := ⟨_, rfl⟩
  have hBb3 : Blk wq1 b3 29 [.pointer (some ⟨t, 0, none⟩)] := by rw [← hwq1, ← hb3]; exact Blk.new _ 29 [.pointer (some ⟨t, 0, none⟩)]
  have hzb3 : wq1.heap.size = b3 + 1 := by rw [← hwq1, ← hb3]; exact heap_size_alloc _ _
  replace HS := Lib.hid (HS.out.step (w' := wq1) (by rw [← hwq1]; exact Mod.alloc _ _ _))
  replace HS := Lib.hid ((Ev.blk hBb3).and HS.out)
  obtain ⟨b5, hb5⟩ : ∃ b, b3 + 1 = b := ⟨_, rfl⟩
  obtain ⟨wq2, hwq2⟩ : ∃ W, World.alloc wq1 (.cells #[.slice a n c] 32) = W := ⟨_, rfl⟩
  have hBb5 : Blk wq2 b5 32 [.slice a n c] := by rw [← hwq2, ← hb5, ← hzb3]; exact Blk.new _ 32 [.slice a n c]
  have hzb5 : wq2.heap.size = b5 + 1 := by rw [← hwq2, ← hb5, ← hzb3]; exact heap_size_alloc _ _
  replace HS := Lib.hid (HS.out.step (w' := wq2) (by rw [← hwq2]; exact Mod.alloc _ _ _))
  replace HS := Lib.hid ((Ev.blk hBb5).and HS.out)
  try rw [hwq1]
  try rw [hb3]
  try rw [hwq2]
  try rw [hb5]
  clear hzb5 hBb5 hb5 hwq2 hzb3 hBb3 hb3 hwq1
  have hbb3 := (HS.out.now).2.1
  have qb3_0 := hbb3.cell 0 rfl
  have lb3 := hbb3.lt
  clear hbb3
  have hbb5 := (HS.out.now).1
  have qb5_0 := hbb5.cell 0 rfl
  have lb5 := hbb5.lt
  clear hbb5
  have hbt := (HS.out.now).2.2.1
  have qt_0 := hbt.cell 0 rfl
  have lt := hbt.lt
  clear hbt
  by_cases hv : 0 ≤ v ∧ v < (G.N.length : Int)
  case neg =>
    go_wp2_with fail
    refine (node_out p B C G _ ((HS.out.now).2.2.2.2.1).go v hv).mono ?_
    rintro e wq3 ⟨rfl, hmm⟩
    replace HS := Lib.hid (HS.out.step hmm)
    clear hmm
    clear qb3_0 lb3 qb5_0 lb5 qt_0 lt
    have hbb3 := (HS.out.now).2.1
    have qb3_0 := hbb3.cell 0 rfl
    have lb3 := hbb3.lt
    clear hbb3
    have hbb5 := (HS.out.now).1
    have qb5_0 := hbb5.cell 0 rfl
    have lb5 := hbb5.lt
    clear hbb5
    have hbt := (HS.out.now).2.2.1
    have qt_0 := hbt.cell 0 rfl
    have lt := hbt.lt
    clear hbt
    go_wp2_with fail
    (try simp only [Exit.inBlock, Exit.then])
    refine rfPost_ret (results_tmp rfl _ _ _) rfl ?_
    exact .inr ⟨hv, rfl, ((HS.out.now).2.2.2.2.2).thenAlloc _⟩
  case pos =>
    obtain ⟨nx, hnx⟩ : ∃ x, (nAt G v).1 = x := ⟨_, rfl⟩
    obtain ⟨ny, hny⟩ : ∃ x, (nAt G v).2 = x := ⟨_, rfl⟩
    go_wp2_with fail
    refine (node_ok p B C G _ ((HS.out.now).2.2.2.2.1).go v hv nx ny hnx hny).mono ?_
    rintro e wq4 ⟨rfl, hmm⟩
    replace HS := Lib.hid (HS.out.step hmm)
    clear hmm
    clear qb3_0 lb3 qb5_0 lb5 qt_0 lt
    have hbb3 := (HS.out.now).2.1
    have qb3_0 := hbb3.cell 0 rfl
    have lb3 := hbb3.lt
    clear hbb3
    have hbb5 := (HS.out.now).1
    have qb5_0 := hbb5.cell 0 rfl
    have lb5 := hbb5.lt
    clear hbb5
    have hbt := (HS.out.now).2.2.1
    have qt_0 := hbt.cell 0 rfl
    have lt := hbt.lt
    clear hbt
    clear hnx hny
    have HV := Lib.hid hv
    clear hv
    go_upto_region 4 with fail
    clear qb3_0 lb3 qb5_0 lb5 qt_0 lt
    obtain ⟨b7, hb7⟩ : ∃ b, wq4.heap.size = b := ⟨_, rfl⟩
    obtain ⟨wq5, hwq5⟩ : ∃ W, World.alloc wq4 (.cells #[.int .i64 nx, .int .i64 ny] 78) = W := ⟨_, rfl⟩
    have hBb7 : Blk wq5 b7 78 [.int .i64 nx, .int .i64 ny] := by rw [← hwq5, ← hb7]; exact Blk.new _ 78 [.int .i64 nx, .int .i64 ny]
    have hzb7 : wq5.heap.size = b7 + 1 := by rw [← hwq5, ← hb7]; exact heap_size_alloc _ _
    replace HS := Lib.hid (HS.out.step (w' := wq5) (by rw [← hwq5]; exact Mod.alloc _ _ _))
    replace HS := Lib.hid ((Ev.blk hBb7).and HS.out)
    try rw [hwq5]
    try rw [hb7]
    clear hzb7 hBb7 hb7 hwq5
    have hbb3 := (HS.out.now).2.2.1
    have qb3_0 := hbb3.cell 0 rfl
    have lb3 := hbb3.lt
    clear hbb3
    have hbb5 := (HS.out.now).2.1
    have qb5_0 := hbb5.cell 0 rfl
    have lb5 := hbb5.lt
    clear hbb5
    have hbt := (HS.out.now).2.2.2.1
    have qt_0 := hbt.cell 0 rfl
    have lt := hbt.lt
    clear hbt
    go_upto_region 6 with fail
    replace HS := Lib.hid ((Ev.mod wq5).and HS.out)
    have HSP := HS
    obtain ⟨B0, hB0⟩ : ∃ n, wq5.heap.size = n := ⟨_, rfl⟩
    have HB0 := Lib.hid hB0
    clear hB0
    have HOLD : Hid (∀ W, Mod (fun k => B0 ≤ k) (World.drew wq5) W → Mod (fun _ => False) (World.drew wq5) W) := Lib.hid fun W h => h.mono (fun i hi e => by have := HB0.out; simp at hi; omega)
    have HB35 : Hid (b3 < B0 ∧ b5 < B0) := Lib.hid ⟨by have := HB0.out; omega, by have := HB0.out; omega⟩
    have HWB : Hid (w.heap.size ≤ B0) := Lib.hid (by have h1 := HB0.out; have h2 := ((HS.out.now).2.2.2.2.2.2.2).size; omega)
    go_upto_region 6 with fail
    clear qb3_0 lb3 qb5_0 lb5 qt_0 lt
    have HSd := Lib.hid HS.out.drew
    have HST : ∀ (ix : Nat) (vs : Nat → Value) (vx : Value) (wx wy : World), factP (dto_r6_0_F t p v G hm cl B0) ix vs vx wx → Mod (fun _ => False) wx wy → factP (dto_r6_0_F t p v G hm cl B0) ix vs vx wy := by
      refine factP_stays ?_
      unfold dto_r6_0_F
      exact stableP_cons (StableP.of (stable_val _)) <| stableP_cons (StableP.of (stable_val _)) <| stableP_cons (StableP.of (stable_val _)) <| stableP_cons (StableP.of (stable_val _)) <| stableP_cons (StableP.of (stable_val _)) <| stableP_cons (StableP.of (stable_val _)) <| stableP_cons (StableP.of (stable_val _)) <| stableP_cons (StableP.of (stable_val _)) <| stableP_cons (StableP.of (stable_val _)) <| stableP_cons (StableP.of (stable_val _)) <| stableP_cons (StableP.of (IRow.st _)) <| stableP_cons (StableP.of (BegV.st)) <| stableP_cons (StableP.of (VarV.st)) <| stableP_nil
    have HSO : ∀ px ∈ (dto_r6_0_F t p v G hm cl B0), px.1 = true → ∀ (vs : Nat → Value) (vx : Value) (wx wy : World), px.2 vs vx wx → px.2 vs vx wy := by
      unfold dto_r6_0_F
      exact solidP_cons (solid_val _) <| solidP_cons (solid_val _) <| solidP_cons (solid_val _) <| solidP_cons (solid_val _) <| solidP_cons (solid_val _) <| solidP_cons (solid_val _) <| solidP_cons (solid_val _) <| solidP_cons (solid_val _) <| solidP_cons (solid_val _) <| solidP_cons (solid_val _) <| solidP_cons (fun h => by cases h) <| solidP_cons (fun h => by cases h) <| solidP_cons (fun h => by cases h) <| solidP_nil
    have HLO : LocL (fun i => dto_r6_0_D.getD i []) 0 (dto_r6_0_F t p v G hm cl B0) := by
      unfold dto_r6_0_F
      exact loc_cons (loc_own _) <| loc_cons (loc_own _) <| loc_cons (loc_own _) <| loc_cons (loc_own _) <| loc_cons (loc_own _) <| loc_cons (loc_own _) <| loc_cons (loc_own _) <| loc_cons (loc_own _) <| loc_cons (loc_own _) <| loc_cons (loc_own _) <| loc_cons (loc_own _) <| loc_cons (loc_own _) <| loc_cons (loc_own _) <| loc_nil
    refine wp_region_pair (act := ?actdto_r6_0) (Mod (fun k => B0 ≤ k)) (factP (dto_r6_0_F t p v G hm cl B0)) (fun i => dto_r6_0_C.getD i 1000) (fun i => dto_r6_0_D.getD i []) 13 _ rfl rfl (by kernel_rfl) (by kernel_rfl) (by kernel_rfl) (by kernel_rfl) (by kernel_rfl) (fun _ => Mod.refl _ _)
      (fun _ _ _ h k => h.trans k (fun _ _ e => e) (fun _ _ e => e)) ?hactdto_r6_0 (loc_of HLO) ?_ ?_
    case hactdto_r6_0 => intro vs; simp only [putAll, Nat.zero_add, Nat.reduceAdd, Act.put, List.setIfInBounds_toArray, List.set_cons_succ, List.set_cons_zero]; exact rfl
    · refine opsOkP_cons ?_ ?_
      · intro K vs W hR hD hN hK
        clear hD
        clear hN
        try dsimp only at hK ⊢
        simp only [Act.put, List.setIfInBounds_toArray, List.set_cons_succ, List.set_cons_zero] at hK
        have q0 := ((HSd.out.at (HOLD.out W hR)).2.2.2.1).cell 0 rfl
        go_wp2
        exact hK _ _ rfl (fun _ _ h => h) (Mod.refl _ _)
      refine opsOkP_cons ?_ ?_
      · intro K vs W hR hD hN hK
        have dq0 : vs 0 = .pointer (some ⟨t, 0, none⟩) := hD 0 (by decide)
        clear hD
        clear hN
        try dsimp only at hK ⊢
        simp only [Act.put, List.setIfInBounds_toArray, List.set_cons_succ, List.set_cons_zero] at hK
        generalize vs 0 = vq0 at hK dq0 ⊢
        subst vq0
        go_wp2
        exact hK _ _ rfl (fun _ _ h => h) (Mod.refl _ _)
      refine opsOkP_cons ?_ ?_
      · intro K vs W hR hD hN hK
        have dq1 : vs 1 = .pointer (some ⟨t, 0, none⟩) := hD 1 (by decide)
        clear hD
        clear hN
        try dsimp only at hK ⊢
        simp only [Act.put, List.setIfInBounds_toArray, List.set_cons_succ, List.set_cons_zero] at hK
        generalize vs 1 = vq1 at hK dq1 ⊢
        subst vq1
        go_wp2
        exact hK _ _ rfl (fun _ _ h => h) (Mod.refl _ _)
      refine opsOkP_cons ?_ ?_
      · intro K vs W hR hD hN hK
        have dq2 : vs 2 = .pointer (some ⟨t, 0, none⟩) := hD 2 (by decide)
        clear hD
        clear hN
        try dsimp only at hK ⊢
        simp only [Act.put, List.setIfInBounds_toArray, List.set_cons_succ, List.set_cons_zero] at hK
        generalize vs 2 = vq2 at hK dq2 ⊢
        subst vq2
        have q0 := ((HSd.out.at (HOLD.out W hR)).2.2.2.2.1).cell 0 rfl
        go_wp2
        exact hK _ _ rfl (fun _ _ h => h) (Mod.refl _ _)
      refine opsOkP_cons ?_ ?_
      · intro K vs W hR hD hN hK
        have dq3 : vs 3 = .pointer (some ⟨p, 0, none⟩) := hD 3 (by decide)
        clear hD
        clear hN
        try dsimp only at hK ⊢
        simp only [Act.put, List.setIfInBounds_toArray, List.set_cons_succ, List.set_cons_zero] at hK
        generalize vs 3 = vq3 at hK dq3 ⊢
        subst vq3
        go_wp2_with (go_at_call 42; refine (edges_any p B C W G ((HSd.out.at (HOLD.out W hR)).2.2.2.2.2.2.1).go).mono ?_; rintro e' w' ⟨rfl, rfl⟩)
        exact hK _ _ rfl (fun _ _ h => h) (Mod.refl _ _)
      refine opsOkP_cons ?_ ?_
      · intro K vs W hR hD hN hK
        clear hD
        clear hN
        try dsimp only at hK ⊢
        simp only [Act.put, List.setIfInBounds_toArray, List.set_cons_succ, List.set_cons_zero] at hK
        have q0 := ((HSd.out.at (HOLD.out W hR)).2.2.2.1).cell 0 rfl
        go_wp2
        exact hK _ _ rfl (fun _ _ h => h) (Mod.refl _ _)
      refine opsOkP_cons ?_ ?_
      · intro K vs W hR hD hN hK
        have dq5 : vs 5 = .pointer (some ⟨t, 0, none⟩) := hD 5 (by decide)
        clear hD
        clear hN
        try dsimp only at hK ⊢
        simp only [Act.put, List.setIfInBounds_toArray, List.set_cons_succ, List.set_cons_zero] at hK
        generalize vs 5 = vq5 at hK dq5 ⊢
        subst vq5
        go_wp2
        exact hK _ _ rfl (fun _ _ h => h) (Mod.refl _ _)
      refine opsOkP_cons ?_ ?_
      · intro K vs W hR hD hN hK
        have dq6 : vs 6 = .pointer (some ⟨t, 0, none⟩) := hD 6 (by decide)
        clear hD
        clear hN
        try dsimp only at hK ⊢
        simp only [Act.put, List.setIfInBounds_toArray, List.set_cons_succ, List.set_cons_zero] at hK
        generalize vs 6 = vq6 at hK dq6 ⊢
        subst vq6
        go_wp2
        exact hK _ _ rfl (fun _ _ h => h) (Mod.refl _ _)
      refine opsOkP_cons ?_ ?_
      · intro K vs W hR hD hN hK
        have dq7 : vs 7 = .pointer (some ⟨t, 0, none⟩) := hD 7 (by decide)
        clear hD
        clear hN
        try dsimp only at hK ⊢
        simp only [Act.put, List.setIfInBounds_toArray, List.set_cons_succ, List.set_cons_zero] at hK
        generalize vs 7 = vq7 at hK dq7 ⊢
        subst vq7
        have q0 := ((HSd.out.at (HOLD.out W hR)).2.2.2.2.1).cell 0 rfl
        go_wp2
        exact hK _ _ rfl (fun _ _ h => h) (Mod.refl _ _)
      refine opsOkP_cons ?_ ?_
      · intro K vs W hR hD hN hK
        clear hD
        clear hN
        try dsimp only at hK ⊢
        simp only [Act.put, List.setIfInBounds_toArray, List.set_cons_succ, List.set_cons_zero] at hK
        go_wp2
        exact hK _ _ rfl (fun _ _ h => h) (Mod.refl _ _)
      refine opsOkP_cons ?_ ?_
      · intro K vs W hR hD hN hK
        have dq8 : vs 8 = .pointer (some ⟨p, 0, none⟩) := hD 8 (by decide)
        have dq9 : vs 9 = .int .i64 v := hD 9 (by decide)
        clear hD
        clear hN
        try dsimp only at hK ⊢
        simp only [Act.put, List.setIfInBounds_toArray, List.set_cons_succ, List.set_cons_zero] at hK
        generalize vs 8 = vq8 at hK dq8 ⊢
        subst vq8
        generalize vs 9 = vq9 at hK dq9 ⊢
        subst vq9
        go_wp2_with (go_at_call 26; refine (in_at p B C G W ((HSd.out.at (HOLD.out W hR)).2.2.2.2.2.2.1).go v HV.out).mono ?_; rintro e' w' ⟨x', rfl, hx', hm'⟩)
        exact hK _ _ hx' (fun j _ h => HST j vs _ _ _ h hm') (hm'.mono (fun _ _ e => e.elim))
      refine opsOkP_cons ?_ ?_
      · intro K vs W hR hD hN hK
        have dq4 : vs 4 = .int .i64 (G.E.length : Int) := hD 4 (by decide)
        have dq10 : (IRow (idx (G.E.map (·.2.1)) v)) (vs 10) W := hD 10 (by decide)
        clear hD
        clear hN
        try dsimp only at hK ⊢
        simp only [Act.put, List.setIfInBounds_toArray, List.set_cons_succ, List.set_cons_zero] at hK
        generalize vs 4 = vq4 at hK dq4 ⊢
        subst vq4
        generalize vs 10 = vq10 at hK dq10 ⊢
        obtain ⟨ax10, cx10, rfl, hx10⟩ := dq10
        have hz := (show B0 ≤ W.heap.size from (by have h1 := HB0.out; have h2 := hR.size; simp at h2; omega))
        go_wp2_with (go_at_call 53; refine (begin_to G hm v cl W ax10 cx10 hx10).mono ?_; rintro e' w' ⟨x', rfl, hx', hm'⟩)
        exact hK _ _ (hx'.low hz) (fun j _ h => HST j vs _ _ _ h hm') (hm'.mono (fun _ _ e => e.elim))
      refine opsOkP_cons ?_ ?_
      · intro K vs W hR hD hN hK
        clear hD
        clear hN
        try dsimp only at hK ⊢
        simp only [Act.put, List.setIfInBounds_toArray, List.set_cons_succ, List.set_cons_zero] at hK
        have hz := (show B0 ≤ W.heap.size from (by have h1 := HB0.out; have h2 := hR.size; simp at h2; omega))
        go_wp2
        exact hK _ _ ⟨_, rfl, Blk.new W 95 [.pointer none], hz⟩ (fun j _ h => HST j vs _ _ _ h (Mod.alloc _ _ _)) (Mod.alloc _ _ _)
      exact opsOkP_nil
    · intro vs wq6 hR hF
      have dq11 : (BegV (webTo G hm v cl) B0) (vs 11) wq6 := hF 11 (by decide) (by decide)
      have dq12 : (VarV B0) (vs 12) wq6 := hF 12 (by decide) (by decide)
      clear hF
      try dsimp only
      generalize vs 11 = vq11 at dq11 ⊢
      generalize vs 12 = vq12 at dq12 ⊢
      have hmw : Mod (fun _ => False) wq5 wq6 := (Mod.drew _ _).of2 (HOLD.out _ hR)
      replace HS := Lib.hid (HS.out.step hmw)
      clear hmw HSd
      obtain ⟨ps, rb, Sq, F0, rfl, hs, hDj, hF0, hrb, hrbl⟩ := dq11
      obtain ⟨b9, rfl, hb9, hB9⟩ := dq12
      obtain ⟨hs, hne⟩ := hs.trim hb9 (by decide) (by decide) (by decide)
      have k9 := hb9.cell 0 rfl
      have f9 := hb9.free 0
      have l9 := hb9.lt
      have HSR := Lib.hid hs
      have HDj := Lib.hid hDj
      have HF0 := Lib.hid hF0
      have HB9 := Lib.hid hb9
      have HMR := Lib.hid ((HS.out.now).1)
      clear hs hDj hF0 hb9
      clear HSO HST HLO
      go_upto_region 7 with fail
      obtain ⟨wl, hwl⟩ : ∃ W, World.setCell wq6 ⟨b9, 0, none⟩ (.pointer (some ⟨ps, 0, none⟩)) = W := ⟨_, rfl⟩
      have hst : Mod (fun k => k = b9) wq6 wl := by rw [← hwl]; exact Mod.setCell _ _ _ rfl
      have hb9 : Blk wl b9 95 [.pointer (some ⟨ps, 0, none⟩)] := by rw [← hwl]; exact HB9.out.set 0 _
      try rw [hwl]
      clear hwl k9 f9 l9
      have hsl := HSR.out.keep hst (fun k hk e => hk.2 e) (fun e => hne e)
      have hmw : Mod (fun _ => False) wq5 wl := HMR.out.old hst (fun i hi => by have := HB0.out; have h2 : i = b9 := hi; omega)
      replace HS := Lib.hid (HSP.out.step hmw)
      clear HSP
      replace HS := Lib.hid ((Ev.blk hb9).and HS.out)
      have hbb3 := (HS.out.now).2.2.2.2.1
      have qb3_0 := hbb3.cell 0 rfl
      have lb3 := hbb3.lt
      clear hbb3
      have hbb5 := (HS.out.now).2.2.2.1
      have qb5_0 := hbb5.cell 0 rfl
      have lb5 := hbb5.lt
      clear hbb5
      have hbt := (HS.out.now).2.2.2.2.2.1
      have qt_0 := hbt.cell 0 rfl
      have lt := hbt.lt
      clear hbt
      have hbb9 := (HS.out.now).1
      have qb9_0 := hbb9.cell 0 rfl
      have lb9 := hbb9.lt
      clear hbb9
      obtain ⟨F1, hF1⟩ : ∃ F, (fun k => F0 k ∧ k ≠ b9) = F := ⟨_, rfl⟩
      rw [hF1] at hsl
      have hF1b : ∀ k, F1 k → B0 ≤ k := fun k hk => by rw [← hF1] at hk; exact HF0.out k hk.1
      have hF19 : ¬ F1 b9 := fun hk => by rw [← hF1] at hk; exact hk.2 rfl
      have hF1l := hsl.hp.lt
      have hrbl2 : rb < wl.heap.size := Nat.lt_of_lt_of_le hrbl hst.size
      have HSL := Lib.hid hsl
      have HF1 := Lib.hid (And.intro hF1b (And.intro hF19 hF1l))
      have HRB := Lib.hid (And.intro hrb (And.intro hrbl2 (fun e : rb = b9 => hne e)))
      clear hsl hF1b hF19 hF1l hrb hrbl hrbl2 hne hst hF1 HF0 HSR HMR HB9 hB9 hmw
      have hb0s := HB0.out
      have hKn : ∀ W, Mod (fun k => F1 k ∨ k = rb) wl W → TO W t p B C G ∧ Rd W 1 (.slice a n c) n (cl.map Value.bool) ∧ Blk W b3 29 [.pointer (some ⟨t, 0, none⟩)] ∧ Blk W b5 32 [.slice a n c] ∧ Blk W b9 95 [.pointer (some ⟨ps, 0, none⟩)] ∧ Mod (fun _ => False) w W := by
        intro W mW
        have hwl0 := (HS.out.now).2.2.2.2.2.2.2.2
        have hwl1 := (HS.out.now).2.1
        have hsz : w.heap.size ≤ B0 := by have h1 := HWB.out; omega
        have hm0 : Mod (fun _ => False) w W := hwl0.old mW (fun i hi => hi.elim (fun h => Nat.le_trans hsz (HF1.out.1 i h)) (fun h => by have := HRB.out.1; omega))
        have hap : ∀ b, b < B0 → ¬ (F1 b ∨ b = rb) := fun b hb h => h.elim (fun h => by have := HF1.out.1 b h; omega) (fun h => by have := HRB.out.1; omega)
        have hq3 := (HS.out.now).2.2.2.2.1
        have hq5 := (HS.out.now).2.2.2.1
        have hq9 := (HS.out.now).1
        exact ⟨H.out.keep hm0, (HCL.out).keep hm0 (fun _ _ e => e), hq3.keep mW (hap b3 (by have := HB35.out.1; omega)), hq5.keep mW (hap b5 (by have := HB35.out.2; omega)), hq9.keep mW (fun h => h.elim (fun h => HF1.out.2.1 h) (fun h => HRB.out.2.2 h.symm)), hm0⟩
      have HKN := Lib.hid hKn
      have HWL := Lib.hid ((HS.out.now).2.2.2.2.2.2.2.2).size
      clear hKn hb0s
      go_wp2_with fail
      clear qb3_0 lb3 qb5_0 lb5 qt_0 lt qb9_0 lb9
      obtain ⟨D, hD⟩ : ∃ d, d = wl.heap.size := ⟨_, rfl⟩
      obtain ⟨l, hl⟩ : ∃ d, d = wl.heap.size + 1 := ⟨_, rfl⟩
      have HDL := Lib.hid (And.intro hD hl)
      refine wp_rangeFunc_inv (gf := 54) (la := #[.pointer (some ⟨ps, 0, none⟩)]) (lb := #[]) rfl (enters_of Try.func54 (by kernel_rfl) rfl) rndV (fun _ => rfl) l D hD hl (JSt (webTo G hm v cl) wl F1 l D ps rb) (JRd (webTo G hm v cl) wl F1 l D ps rb) (JAf (webTo G hm v cl) wl F1 l D ps rb) (JEn (webTo G hm v cl) wl F1 l D ps rb) (fun _ _ o h => h.put o) (fun _ _ o h => h.put o) (fun _ o h => h.put o) ?start ?a1 ?assign ?iter ?body ?done
      case assign =>
        intro x W K hK
        have HK := Lib.hid hK
        clear hK
        dsimp only [rndV] at HK ⊢
        gi_wp2_with fail
        exact HK.out
      case start =>
        intro o o'
        have hma : Mod (fun _ => False) wl ((wl.alloc o).alloc o') := ((Mod.refl _ wl).thenAlloc o).thenAlloc o'
        refine ⟨_, _, F1, 0, ⟨HSL.out.keep hma (fun _ _ e => e) (fun e => e), ⟨fun e => by have := HF1.out.2.2 l e; omega, fun e => by have := HF1.out.2.2 D e; omega, by have := HRB.out.2.1; omega, by have := HRB.out.2.1; omega⟩, fun k hk => .inl hk, hma.mono (fun _ _ e => e.elim), by omega, by omega⟩, HDj.out⟩
      case iter =>
        intro R O W1 hJ hl1 hD1 hY
        exact settled_in (webTo G hm v cl) wl F1 l D ps rb (by show G.E.length ≤ 1000; omega) (by constructor <;> omega) R O W1 hJ hl1 hD1 hY
      case done =>
        rintro W ⟨d, F, hM, hFx⟩ hdD
        obtain ⟨hto, hcl, hb3, hb5, hb9, hm0⟩ := HKN.out W hM.md
        obtain ⟨v9, mb9, hbs⟩ := hM.o.hp.cells
        have q9 := hb9.cell 0 rfl
        have qs := hbs.cell 0 rfl
        have HM := Lib.hid hM
        have HFx := Lib.hid hFx
        have HHD := Lib.hid hdD
        have HM0 := Lib.hid hm0
        clear hM hFx hdD hto hcl hb3 hb5 hb9 hm0 hbs hD hl
        go_wp2_with fail
        (try simp only [Exit.inBlock, Exit.then])
        refine rfPost_retD rfl HHD.out (results_tmp rfl _ _ _) ?_
        refine .inl ⟨HV.out, _, rfl, ⟨rb, d, rfl, ?_, HFx.out⟩, HM0.out.old (Mod.putObj W D _) (fun i hi => by have h1 : i = D := hi; have h2 := HM.out.hl.2; have h3 := HWL.out; omega)⟩
        have hro := Own.keep HM.out.o.row (Mod.putObj W D (.deferred none)) (fun k hk e => HM.out.fl.2.2.2 ((show rb = k from (by simpa [Value.ownBlock] using hk)).trans e))
        exact Own.rebase hro (low_lit (by have h1 := HRB.out.1; have h2 := HWB.out; omega))
      case body =>
        clear hD hl
        rintro R O ⟨ke, far, nn⟩ W ⟨d, S, F, hM, hD, hdx, hem, hon⟩ hl1 hD1
        simp only at hD hdx hem hon
        dsimp only
        have hem2 : ke < G.E.length := hem
        have hM2 : Mem wl F1 l D ps rb G.E.length d S F W := hM
        clear hM hem
        obtain ⟨hto, hcl, hb3, hb5, hb9, hm0⟩ := HKN.out W hM2.md
        have hfar : 0 ≤ far ∧ far ≤ 33553920 := by have h1 := hD.c0; have h2 := hD.top; have h3 : ((webTo G hm v cl).m : Int) = (G.E.length : Int) := rfl; omega
        have HM := Lib.hid hM2
        have HD := Lib.hid hD
        have HDX := Lib.hid hdx
        have HON := Lib.hid hon
        have HL1 := Lib.hid hl1
        have HD1 := Lib.hid hD1
        have HTO := Lib.hid hto
        have HHC := Lib.hid hcl
        clear hM2 hD hdx hon hl1 hD1 hm0
        have q3 := hb3.cell 0 rfl
        have q5 := hb5.cell 0 rfl
        have q9 := hb9.cell 0 rfl
        have qt := hto.blk.cell 0 rfl
        clear hto hcl
        have hlD : l < W.heap.size ∧ D < W.heap.size := ⟨(Array.getElem?_eq_some_iff.1 HL1.out).1, (Array.getElem?_eq_some_iff.1 HD1.out).1⟩
        obtain ⟨cb, hcb⟩ : ∃ b, clB cl (ke : Int) = b := ⟨_, rfl⟩
        have HCB := Lib.hid hcb
        gi_wp2_with fail
        refine ⟨trivial, rfl, (CallsIn.inRound _ (callsIn_wide.2 (closed_any W a n c cl HN.out HHC.out (ke : Int)))).mono ?_⟩
        rintro e w' ⟨rfl, rfl⟩
        rw [hcb]
        clear hcb
        cases cb with
        | true =>
          gi_wp2_with fail
          exact ⟨⟨d, S, F, far, HM.out, HD.out.said (fun e b hr _ hp => by have h1 : b = ke := hp; have h2 := hr.2; rw [h1, HCB.out] at h2; cases h2) (fun _ _ _ h => h), HON.out⟩, HL1.out, HD1.out⟩
        | false =>
          obtain ⟨ex, hex⟩ : ∃ x, (eAt G (ke : Int)).1 = x := ⟨_, rfl⟩
          obtain ⟨ey, hey⟩ : ∃ x, (eAt G (ke : Int)).2.1 = x := ⟨_, rfl⟩
          obtain ⟨ez, hez⟩ : ∃ x, (eAt G (ke : Int)).2.2 = x := ⟨_, rfl⟩
          have hez := edgeW G hm (ke : Int) (by omega)
          skip
          have hwz : 1 ≤ (eAt G (ke : Int)).2.2 ∧ (eAt G (ke : Int)).2.2 ≤ 65535 := edgeW G hm (ke : Int) (by omega)
          rw [show (eAt G (ke : Int)).2.2 = ez from by assumption] at hwz
          have hED := edge_ok p B C G W HTO.out.go ke hem2 ex ey ez (by assumption) (by assumption) (by assumption)
          have HED := Lib.hid hED
          have HEZ : Hid ((eAt G (ke : Int)).2.2 = ez) := Lib.hid (by assumption)
          clear hED hez hex hey
          gi_wp2_with fail
          refine ⟨trivial, rfl, (CallsIn.inRound _ (callsIn_wide.2 (HED.out))).mono ?_⟩
          rintro e W2 ⟨rfl, hm2⟩
          have hM2 := HM.out.keep hm2
          have hl2 := hm2.obj HL1.out (fun e => e)
          have hD2 := hm2.obj HD1.out (fun e => e)
          clear q3 q5 q9 qt hb3 hb5 hb9 HTO HHC HED
          have HM2 := Lib.hid hM2
          have HL2 := Lib.hid hl2
          have HD2 := Lib.hid hD2
          clear hM2 hl2 hD2 hm2
          obtain ⟨b12, hb12⟩ : ∃ b, W2.heap.size = b := ⟨_, rfl⟩
          obtain ⟨W3, hW3⟩ : ∃ x, W2.alloc (.cells #[.int .i64 ex, .int .i64 ey, .int .i64 ez] 43) = x := ⟨_, rfl⟩
          have hbe : Blk W3 b12 43 [.int .i64 ex, .int .i64 ey, .int .i64 ez] := by rw [← hW3, ← hb12]; exact Blk.new W2 _ [.int .i64 ex, .int .i64 ey, .int .i64 ez]
          have hm3 : Mod (fun _ => False) W2 W3 := by rw [← hW3]; exact Mod.alloc _ _ _
          have hM3 := HM2.out.keep hm3
          have hl3 := hm3.obj HL2.out (fun e => e)
          have hD3 := hm3.obj HD2.out (fun e => e)
          have hFb : ¬ F b12 := fun h => by have := HM2.out.o.hp.lt b12 h; omega
          have hrb12 : rb ≠ b12 := fun h => by have h1 := HM2.out.md.size; have h2 := HRB.out.2.1; omega
          have hbl12 : b12 ≠ l ∧ b12 ≠ D := ⟨fun h => by have := (Array.getElem?_eq_some_iff.1 HL2.out).1; omega, fun h => by have := (Array.getElem?_eq_some_iff.1 HD2.out).1; omega⟩
          obtain ⟨hto, hcl, hb3, hb5, hb9, hm0⟩ := HKN.out W3 hM3.md
          have q3 := hb3.cell 0 rfl
          have q5 := hb5.cell 0 rfl
          have q9 := hb9.cell 0 rfl
          have qt := hto.blk.cell 0 rfl
          have HTO := Lib.hid hto
          have HHC := Lib.hid hcl
          clear hto hcl hb3 hb5 hb9 hm0
          have HM3 := Lib.hid hM3
          have HL3 := Lib.hid hl3
          have HD3 := Lib.hid hD3
          have HBE := Lib.hid hbe
          have HAP := Lib.hid (And.intro hFb (And.intro hrb12 hbl12))
          clear hM3 hl3 hD3 hm3 hbe hFb hrb12 hbl12
          gi_wp2_with fail
          clear hW3 hb12
          refine ⟨trivial, rfl, (CallsIn.inRound _ (callsIn_wide.2 (prev_new t p B C G W3 HTO.out (ke : Int)))).mono ?_⟩
          rintro e W4 ⟨vr, rfl, ⟨⟨ar, cr, rfl, hrr⟩, hnew⟩, hm4⟩
          have hM4 := HM3.out.keep hm4
          have hl4 := hm4.obj HL3.out (fun e => e)
          have hD4 := hm4.obj HD3.out (fun e => e)
          obtain ⟨ln, hln⟩ : ∃ k, (prvR G (ke : Int)).length = k := ⟨_, rfl⟩
          rw [hln] at hrr hnew ⊢
          have hlnb : ln ≤ 512 := by rw [← hln]; exact Nat.le_trans (prvR_len G (ke : Int)) hes
          have hrap : ∀ k, (Value.slice ar ln cr).ownBlock = some k → ¬ F k ∧ k ≠ rb ∧ k ≠ l ∧ k ≠ D := fun k hk => by
            have h0 := hnew k hk
            refine ⟨fun h => ?_, fun h => ?_, fun h => ?_, fun h => ?_⟩
            · have := HM3.out.o.hp.lt k h; omega
            · have h1 := HM3.out.md.size; have h2 := HRB.out.2.1; omega
            · have := (Array.getElem?_eq_some_iff.1 HL3.out).1; omega
            · have := (Array.getElem?_eq_some_iff.1 HD3.out).1; omega
          have hbe4 := HBE.out.keep hm4 (fun e => e)
          have HLN := Lib.hid hln
          clear hln hnew q3 q5 q9 qt HTO HHC
          have hD5 : Dij (webTo G hm v cl) d S far (fun e b => b = ke ∧ (e : Int) ∈ (prvR G (ke : Int)).drop 0) (fun _ => False) := HD.out.said (fun e b hr _ hp => ⟨hp, by rw [List.drop_zero]; have h1 : b = ke := hp; have h2 := hr.1; rw [h1] at h2; exact mem_prv h2⟩) (fun _ _ _ h => h)
          gi_wp2_with fail
          gi_loopw [61] (fun i wr => ∃ (j : Nat) (S : List It) (F : Nat → Prop), j ≤ ln ∧ i = .int .i64 j ∧ Mem wl F1 l D ps rb G.E.length d S F wr ∧ Dij (webTo G hm v cl) d S far (fun e b => b = ke ∧ (e : Int) ∈ (prvR G (ke : Int)).drop j) (fun _ => False) ∧ Rd wr 1 (.slice ar ln cr) ln ((prvR G (ke : Int)).map (Value.int .i64)) ∧ (∀ k, (Value.slice ar ln cr).ownBlock = some k → ¬ F k ∧ k ≠ rb ∧ k ≠ l ∧ k ≠ D) ∧ wr.heap[l]? = some R ∧ wr.heap[D]? = some O ∧ Blk wr b12 43 [.int .i64 ex, .int .i64 ey, .int .i64 ez] ∧ ¬ F b12) (fun i _ => ln - (intOf i).toNat)
          case atStart => exact ⟨0, S, F, by omega, rfl, hM4, hD5, hrr, hrap, hl4, hD4, hbe4, HAP.out.1⟩
          case round =>
            clear hM4 hD5 hrr hrap hl4 hD4 hm4 hbe4
            obtain ⟨j, S, F, hj, rfl, hM, hDj, hrr, hrap, hl, hD, hbe, hFb⟩ := hrel
            obtain ⟨wo, hwo⟩ : ∃ x : World, x = wr := ⟨_, rfl⟩
            subst hwo
            obtain ⟨hto, hcl, hb3, hb5, hb9, hm0⟩ := HKN.out wo hM.md
            have q3 := hb3.cell 0 rfl
            have q5 := hb5.cell 0 rfl
            have q9 := hb9.cell 0 rfl
            have qt := hto.blk.cell 0 rfl
            have HTO := Lib.hid hto
            have HHC := Lib.hid hcl
            clear hto hcl hb3 hb5 hb9 hm0
            have qe2 := hbe.cell 2 rfl
            have HBE2 := Lib.hid hbe
            clear hbe
            have hids := hM.o.ids
            have hfew := hDj.few hids.2
            have hsf : S.length ≤ 1000 := by have h3 : (webTo G hm v cl).m = G.E.length := rfl; omega
            have HMr := Lib.hid hM
            have HDr := Lib.hid hDj
            have HRr := Lib.hid hrr
            have HRA := Lib.hid hrap
            have HLr := Lib.hid hl
            have HDD := Lib.hid hD
            have HID := Lib.hid hids
            clear hM hDj hrr hrap hl hD hids hfew
            by_cases hlt : j < ln
            case neg =>
              obtain rfl : j = ln := by omega
              have z0 : decide ((j : Int) < (j : Int)) = false := by simp
              gi_wp2_with fail
              exact ⟨⟨d, S, F, far, HMr.out, HDr.out.said (fun e b _ _ hp => by have h1 := hp.2; rw [List.drop_of_length_le (by rw [HLN.out]; exact Nat.le_refl _)] at h1; cases h1) (fun _ _ _ h => h), HON.out⟩, HLr.out, HDD.out⟩
            case pos =>
              have z0 : decide ((j : Int) < (ln : Int)) = true := by simp; omega
              have hjl : j < (prvR G (ke : Int)).length := by rw [HLN.out]; exact hlt
              obtain ⟨kb, hkb, hkbe, hkt⟩ := prvR_at G (ke : Int) j hjl
              obtain ⟨eb, eo, hpl, e0⟩ := rd1 HRr.out j hjl
              have hix := fun wx => run_indexS (P := Try.prog) wx 22 3 iI 1 Try.underlying22 hiI hsI ar ln cr j hlt (HRr.out.some_ (by omega))
              rw [hpl] at hix
              rw [hkb] at e0
              have HKB := Lib.hid hkb
              have HKT := Lib.hid hkt
              clear hpl hkb hkt
              have hke : dAt d ke = far := HDX.out
              have hrl2 : (webTo G hm v cl).rl kb ke := ⟨HKT.out, HCB.out⟩
              have hwt2 : (webTo G hm v cl).wt kb ke = ez := HEZ.out
              have hrr2 := HDr.out.reach (pend' := fun e b => b = ke ∧ (e : Int) ∈ (prvR G (ke : Int)).drop (j + 1)) (e := kb) (b := ke) HID.out.2 hrl2 (by omega) (by rw [hwt2]; omega) (fun e' b' h => by
                rw [List.drop_eq_getElem_cons hjl] at h
                rcases List.mem_cons.1 h.2 with h1 | h1
                · rw [HKB.out] at h1; exact .inr ⟨by omega, h.1⟩
                · exact .inl ⟨h.1, h1⟩)
              rw [hke, hwt2] at hrr2
              have hrc := reach_any ps rb G.E.length wo d S F HMr.out.o kb hkbe (far + ez) (wf_i64 _ (by omega)) hsf (by omega)
              have HRC := Lib.hid hrc
              have HRR := Lib.hid hrr2
              clear hrc hrr2 hke hrl2 hwt2
              gi_wp2_with fail
              refine ⟨trivial, rfl, (CallsIn.inRound _ (callsIn_wide.2 (HRC.out))).mono ?_⟩
              rintro e W5 ⟨rfl, F5, hS5, hA5⟩
              have hs5 : l < wo.heap.size ∧ D < wo.heap.size := ⟨(Array.getElem?_eq_some_iff.1 HLr.out).1, (Array.getElem?_eq_some_iff.1 HDD.out).1⟩
              have hM5 := HMr.out.aft hs5 hS5 hA5
              have hl5 := hA5.1.obj HLr.out HMr.out.fl.1
              have hD5 := hA5.1.obj HDD.out HMr.out.fl.2.1
              have hr5 := HRr.out.keep hA5.1 (fun k hk => (HRA.out k hk).1)
              have ha5 : ∀ k, (Value.slice ar ln cr).ownBlock = some k → ¬ F5 k ∧ k ≠ rb ∧ k ≠ l ∧ k ≠ D := fun k hk => ⟨fun h => (hA5.2 k h).elim (HRA.out k hk).1 (fun h2 => absurd (show (prvR G (ke : Int)).length = 0 from (by simpa using congrArg List.length (HRr.out.lt hk h2))) (by omega)), (HRA.out k hk).2⟩
              have hbe5 := HBE2.out.keep hA5.1 hFb
              have hFb5 : ¬ F5 b12 := fun h => (hA5.2 b12 h).elim hFb (fun h2 => by have := HBE2.out.lt; omega)
              have HX5 := Lib.hid (And.intro hM5 (And.intro hl5 (And.intro hD5 (And.intro hr5 ha5))))
              have HY5 := Lib.hid (And.intro hbe5 hFb5)
              clear hbe5 hFb5 qe2
              clear hM5 hl5 hD5 hr5 ha5 hS5 hA5 q3 q5 q9 qt hs5
              gi_wp2_with fail
              go_roundw
              case rel => exact ⟨j + 1, _, F5, hlt, by go_num, HX5.out.1, HRR.out, HX5.out.2.2.2.1, HX5.out.2.2.2.2, HX5.out.2.1, HX5.out.2.2.1, HY5.out.1, HY5.out.2⟩
              case measure => simp [intOf]; omega
end Go.Proofs.Ytbjdjafkpldbnaa
