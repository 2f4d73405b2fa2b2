/- The reference's Sender.Send by contract. -/
import Derived.Test.YtopldodfkcgmhaaRSdP
import Derived.Test.YtopldodfkcgmhaaIMap
import Derived.StillTailTactics
namespace Go.Proofs.Ytopldodfkcgmhaa
open Go.RowKit Mile Go.Maps
set_option maxRecDepth 100000
/-- What each operation of the statement leaves. -/
def rw_r5_0_F (q : Nat) (n : Nat) (c : Nat) (W : Nat) (N : Nat) (n1 : Nat) (c1 : Nat) (B0 : Nat) (a : Option Addr) (a1 : Option Addr) (bs : List Int) (us : List Ud) : List FactP :=
  [(true, fun _ => IsV (.pointer (some ⟨q, 0, none⟩))),
   (false, fun _ => EmpT 72 2 B0),
   (true, fun _ => IsV (.pointer (some ⟨q, 0, none⟩))),
   (true, fun _ => IsV (.pointer (some ⟨q, 0, none⟩))),
   (true, fun _ => IsV (.pointer (some ⟨q, 3, none⟩))),
   (true, fun _ => IsV (.slice a n c)),
   (false, fun _ => OwnT 72 2 B0 (n) (us.flatMap c2U)),
   (true, fun _ => IsV (.pointer (some ⟨q, 0, none⟩))),
   (true, fun _ => IsV (.pointer (some ⟨q, 0, none⟩))),
   (true, fun _ => IsV (.pointer (some ⟨q, 2, none⟩))),
   (true, fun _ => IsV (.int .i64 (N : Int))),
   (false, fun _ => EmpT 5 1 B0),
   (true, fun _ => IsV (.slice a1 n1 c1)),
   (false, fun _ => OwnT 5 1 B0 (n1) (bs.map (Value.int .u8))),
   (false, RelK (fun u v _ => v = .agg #[.int .i64 (N : Int), u]) 13),
   (false, RelK (fun u => LitT 2 [.int .i64 (N : Int), u]) 13),
   (false, RelK (fun u v W => OwnT 72 2 B0 (n + 1) (us.flatMap c2U ++ [.int .i64 (N : Int), u]) v W ∧ OwnT 5 1 B0 n1 (bs.map (Value.int .u8)) u W) 13),
   (true, fun _ => IsV (.pointer (some ⟨q, 0, none⟩))),
   (true, fun _ => IsV (.pointer (some ⟨q, 3, none⟩)))]
def rw_r5_0_D : List (List Nat) := [[], [], [], [2], [3], [4], [1, 5], [], [7], [8], [9], [], [], [11, 12], [10, 13], [13, 14], [6, 13, 15], [0], [17]]
def rw_r5_0_C : List Nat := [1000, 6, 1000, 1000, 1000, 1000, 16, 1000, 1000, 1000, 1000, 13, 1000, 1000, 15, 16, 1000, 1000, 1000]

set_option maxHeartbeats 16000000 in
theorem rssend_any (w : World) (q tq W F : Nat) (a : Option Addr) (n c : Nat) (ta : Option Addr) (tn tc B M R : Nat) (ls : List Wt) (us : List Ud) (h : RS w q tq W F a n c false ta tn tc B M R ls us) (hn : n < W) (hF : F ≤ 1000000000000) (hL : ls.length ≤ 1000000) (hrise : RiseW ls) (now : Int) (hnow : 0 ≤ now ∧ now ≤ 1048576) (a1 : Option Addr) (n1 c1 : Nat) (bs : List Int) (hbn : bs.length = n1) (hrb : Rd w 1 (.slice a1 n1 c1) n1 (bs.map (Value.int .u8))) (hb1 : n1 ≤ 100000) :
    Calls Try.prog 14 #[.pointer (some ⟨q, 0, none⟩), .int .i64 now, .slice a1 n1 c1] w fun e w' => e = .returned (.tuple #[.int .i64 ((F + n : Nat) : Int), .int .i64 0]) ∧ RsQ q tq a n ta tn us W F (n + 1) false B M R (putW ls ⟨((F + n : Nat) : Int), now + (B : Int), 0⟩) (us.map (·.body) ++ [bs]) w w' := by
  obtain ⟨iU, hiU, hzU, hsU, hbU⟩ := info_parts RK.infoU
  obtain ⟨i8, hi8, hz8, hs8, hb8⟩ := info_parts RK.info8
  have HT := Lib.hid h
  have HBN := Lib.hid hbn
  have HRB := Lib.hid hrb
  have HRI := Lib.hid hrise
  have HLS := Lib.hid hL
  have hlen := h.len
  have hnW := h.nW
  have hW6 := h.w16
  have hbk := h.blk
  obtain ⟨N, hN⟩ : ∃ x, F + n = x := ⟨_, rfl⟩
  rw [hN] at hbk
  have d1 := hbk.cell 1 rfl
  have d2 := hbk.cell 2 rfl
  have d3 := hbk.cell 3 rfl
  have d4 := hbk.cell 4 rfl
  have hqlt := hbk.lt
  have HBK := Lib.hid hbk
  have HN := Lib.hid hN
  have hNb : N ≤ 1000000001000 := by omega
  clear h hbn hrb hrise hL hbk hN
  have y0 : decide ((W : Int) ≤ (n : Int)) = false := by simp; omega
  have y1 : decide (W ≤ n) = false := by simp; omega
  go_enter Try.func14, Try.ntmps14
  go_wp2_with fail
  go_quiet (fail)
  obtain ⟨wA, hwA⟩ : ∃ x, World.drewN w nq = x := ⟨_, rfl⟩
  have HMA := Lib.hid (show Mod (fun _ => False) w wA by rw [← hwA]; exact Mod.drewN _ _ _)
  have hta := HT.out.later HMA.out
  have hba := HRB.out.keep HMA.out (fun _ _ e => e)
  have hbq := HBK.out.keep HMA.out (fun e => e)
  rw [hwA]
  clear hwA d1 d2 d3 d4 y0 y1
  have HS : Hid (Ev (Mod (fun _ => False) wA) wA) := Lib.hid (Ev.mod wA)
  replace HS := Lib.hid ((Ev.rs hta).and HS.out)
  replace HS := Lib.hid ((Ev.rd hba).and HS.out)
  replace HS := Lib.hid ((Ev.rd hta.rd).and HS.out)
  replace HS := Lib.hid ((Ev.blk hbq).and HS.out)
  clear hta hba hbq
  have hbq := (HS.out.now).1
  have qq_0 := hbq.cell 0 rfl
  have qq_1 := hbq.cell 1 rfl
  have qq_2 := hbq.cell 2 rfl
  have qq_3 := hbq.cell 3 rfl
  have qq_4 := hbq.cell 4 rfl
  have lq := hbq.lt
  clear hbq
  go_wp2_with fail
  have HONE : Hid (∀ u ∈ us.flatMap c2U, u.oneCell' = true) := Lib.hid (c2U_one (w := w) (fun e he => HT.out.bodies e he))
  obtain ⟨B0, hB0⟩ : ∃ n, wA.heap.size = n := ⟨_, rfl⟩
  have HB0 := Lib.hid hB0
  clear hB0
  have HOLD : Hid (∀ W, Mod (fun k => B0 ≤ k) (World.drew wA) W → Mod (fun _ => False) (World.drew wA) W) := Lib.hid fun W h => h.mono (fun i hi e => by have := HB0.out; simp at hi; omega)
  go_upto_region 5 with fail
  clear qq_0 qq_1 qq_2 qq_3 qq_4 lq
  have HSd := Lib.hid HS.out.drew
  have HST : ∀ (ix : Nat) (vs : Nat → Value) (vx : Value) (wx wy : World), factP (rw_r5_0_F q n c W N n1 c1 B0 a a1 bs us) ix vs vx wx → Mod (fun _ => False) wx wy → factP (rw_r5_0_F q n c W N n1 c1 B0 a a1 bs us) ix vs vx wy := by
    refine factP_stays ?_
    unfold rw_r5_0_F
    exact stableP_cons (StableP.of (stable_val _)) <| stableP_cons (StableP.of (EmpT.st)) <| stableP_cons (StableP.of (stable_val _)) <| stableP_cons (StableP.of (stable_val _)) <| stableP_cons (StableP.of (stable_val _)) <| stableP_cons (StableP.of (stable_val _)) <| stableP_cons (StableP.of (OwnT.st)) <| stableP_cons (StableP.of (stable_val _)) <| stableP_cons (StableP.of (stable_val _)) <| stableP_cons (StableP.of (stable_val _)) <| stableP_cons (StableP.of (stable_val _)) <| stableP_cons (StableP.of (EmpT.st)) <| stableP_cons (StableP.of (stable_val _)) <| stableP_cons (StableP.of (OwnT.st)) <| stableP_cons (RelK.st (fun _ _ _ _ h _ => h)) <| stableP_cons (RelK.st (fun _ => LitT.st)) <| stableP_cons (RelK.st (fun _ v w w' h m => ⟨OwnT.st v w w' h.1 m, OwnT.st _ w w' h.2 m⟩)) <| stableP_cons (StableP.of (stable_val _)) <| stableP_cons (StableP.of (stable_val _)) <| stableP_nil
  have HSO : ∀ px ∈ (rw_r5_0_F q n c W N n1 c1 B0 a a1 bs us), px.1 = true → ∀ (vs : Nat → Value) (vx : Value) (wx wy : World), px.2 vs vx wx → px.2 vs vx wy := by
    unfold rw_r5_0_F
    exact solidP_cons (solid_val _) <| solidP_cons (fun h => by cases h) <| solidP_cons (solid_val _) <| solidP_cons (solid_val _) <| solidP_cons (solid_val _) <| solidP_cons (solid_val _) <| solidP_cons (fun h => by cases h) <| solidP_cons (solid_val _) <| solidP_cons (solid_val _) <| solidP_cons (solid_val _) <| solidP_cons (solid_val _) <| solidP_cons (fun h => by cases h) <| solidP_cons (solid_val _) <| solidP_cons (fun h => by cases h) <| solidP_cons (fun h => by cases h) <| solidP_cons (fun h => by cases h) <| solidP_cons (fun h => by cases h) <| solidP_cons (solid_val _) <| solidP_cons (solid_val _) <| solidP_nil
  have HLO : LocL (fun i => rw_r5_0_D.getD i []) 0 (rw_r5_0_F q n c W N n1 c1 B0 a a1 bs us) := by
    unfold rw_r5_0_F
    exact loc_cons (loc_own _) <| loc_cons (loc_own _) <| loc_cons (loc_own _) <| loc_cons (loc_own _) <| loc_cons (loc_own _) <| loc_cons (loc_own _) <| loc_cons (loc_own _) <| loc_cons (loc_own _) <| loc_cons (loc_own _) <| loc_cons (loc_own _) <| loc_cons (loc_own _) <| loc_cons (loc_own _) <| loc_cons (loc_own _) <| loc_cons (loc_own _) <| loc_cons (RelK.loc (by decide)) <| loc_cons (RelK.loc (by decide)) <| loc_cons (RelK.loc (by decide)) <| loc_cons (loc_own _) <| loc_cons (loc_own _) <| loc_nil
  refine wp_region_pair (act := ?actrw_r5_0) (Mod (fun k => B0 ≤ k)) (factP (rw_r5_0_F q n c W N n1 c1 B0 a a1 bs us)) (fun i => rw_r5_0_C.getD i 1000) (fun i => rw_r5_0_D.getD i []) 19 _ rfl rfl (by kernel_rfl) (by kernel_rfl) (by kernel_rfl) (by kernel_rfl) (by kernel_rfl) (fun _ => Mod.refl _ _)
    (fun _ _ _ h k => h.trans k (fun _ _ e => e) (fun _ _ e => e)) ?hactrw_r5_0 (loc_of HLO) ?_ ?_
  case hactrw_r5_0 => intro vs; simp only [putAll, Nat.zero_add, Nat.reduceAdd, Act.put, List.setIfInBounds_toArray, List.set_cons_succ, List.set_cons_zero]; exact rfl
  · refine opsOkP_cons ?_ ?_
    · intro K vs W hR hD hN hK
      clear hD
      clear hN
      try dsimp only at hK ⊢
      simp only [Act.put, List.setIfInBounds_toArray, List.set_cons_succ, List.set_cons_zero] at hK
      go_wp2
      exact hK _ _ rfl (fun _ _ h => h) (Mod.refl _ _)
    refine opsOkP_cons ?_ ?_
    · intro K vs W hR hD hN hK
      clear hD
      clear hN
      try dsimp only at hK ⊢
      simp only [Act.put, List.setIfInBounds_toArray, List.set_cons_succ, List.set_cons_zero] at hK
      have hz := (show B0 ≤ W.heap.size from (by have h1 := HB0.out; have h2 := hR.size; simp at h2; omega))
      go_wp2
      exact hK _ _ ⟨_, rfl, Own.rebase (own_empty W 72 2 W.heap.size rfl) (low_lit hz)⟩ (fun j _ h => HST j vs _ _ _ h (Mod.alloc _ _ _)) (Mod.alloc _ _ _)
    refine opsOkP_cons ?_ ?_
    · intro K vs W hR hD hN hK
      clear hD
      clear hN
      try dsimp only at hK ⊢
      simp only [Act.put, List.setIfInBounds_toArray, List.set_cons_succ, List.set_cons_zero] at hK
      go_wp2
      exact hK _ _ rfl (fun _ _ h => h) (Mod.refl _ _)
    refine opsOkP_cons ?_ ?_
    · intro K vs W hR hD hN hK
      have dq2 : vs 2 = .pointer (some ⟨q, 0, none⟩) := hD 2 (by decide)
      clear hD
      clear hN
      try dsimp only at hK ⊢
      simp only [Act.put, List.setIfInBounds_toArray, List.set_cons_succ, List.set_cons_zero] at hK
      generalize vs 2 = vq2 at hK dq2 ⊢
      subst vq2
      go_wp2
      exact hK _ _ rfl (fun _ _ h => h) (Mod.refl _ _)
    refine opsOkP_cons ?_ ?_
    · intro K vs W hR hD hN hK
      have dq3 : vs 3 = .pointer (some ⟨q, 0, none⟩) := hD 3 (by decide)
      clear hD
      clear hN
      try dsimp only at hK ⊢
      simp only [Act.put, List.setIfInBounds_toArray, List.set_cons_succ, List.set_cons_zero] at hK
      generalize vs 3 = vq3 at hK dq3 ⊢
      subst vq3
      go_wp2
      exact hK _ _ rfl (fun _ _ h => h) (Mod.refl _ _)
    refine opsOkP_cons ?_ ?_
    · intro K vs W hR hD hN hK
      have dq4 : vs 4 = .pointer (some ⟨q, 3, none⟩) := hD 4 (by decide)
      clear hD
      clear hN
      try dsimp only at hK ⊢
      simp only [Act.put, List.setIfInBounds_toArray, List.set_cons_succ, List.set_cons_zero] at hK
      generalize vs 4 = vq4 at hK dq4 ⊢
      subst vq4
      have q0 := ((HSd.out.at (HOLD.out W hR)).1).cell 3 rfl
      go_wp2
      exact hK _ _ rfl (fun _ _ h => h) (Mod.refl _ _)
    refine opsOkP_cons ?_ ?_
    · intro K vs W hR hD hN hK
      have dq1 : (EmpT 72 2 B0) (vs 1) W := hD 1 (by decide)
      have dq5 : vs 5 = .slice a n c := hD 5 (by decide)
      clear hD
      clear hN
      try dsimp only at hK ⊢
      simp only [Act.put, List.setIfInBounds_toArray, List.set_cons_succ, List.set_cons_zero] at hK
      generalize vs 1 = vq1 at hK dq1 ⊢
      generalize vs 5 = vq5 at hK dq5 ⊢
      subst vq5
      have hz := (show B0 ≤ W.heap.size from (by have h1 := HB0.out; have h2 := hR.size; simp at h2; omega))
      have hrd := (HSd.out.at (HOLD.out W hR)).2.1
      obtain ⟨ae, rfl, ho⟩ := dq1
      go_wp2_with (at_builtin; refine wpList_append_any rfl (.tmp 23) (.tmp 27) 53 rfl 72 iU (.agg #[.int .i64 0, .slice none 0 0]) 2 32 Try.underlying53 hiU hzU hsU hbU rfl (by decide) _ (0) ([]) rfl (Own.base ho (Nat.zero_le _)) _ (n) (us.flatMap c2U) rfl hrd HONE.out (by unfold maxLen; omega) (by omega) ?_; intro v' w' hap)
      obtain ⟨a4, c4, rfl⟩ := hap.form
      have ho4 := hap.own
      have lo4 := hap.low hz (fun k hk => (ho.lt k hk).1)
      have hm4 := hap.still ae 0 0 rfl (by omega)
      simp only [Nat.zero_add, List.nil_append] at ho4 lo4 ⊢
      exact hK _ _ ⟨a4, c4, rfl, Own.rebase ho4 lo4⟩ (fun j _ h => HST j vs _ _ _ h hm4) (hm4.mono (fun _ _ e => e.elim))
    refine opsOkP_cons ?_ ?_
    · intro K vs W hR hD hN hK
      clear hD
      clear hN
      try dsimp only at hK ⊢
      simp only [Act.put, List.setIfInBounds_toArray, List.set_cons_succ, List.set_cons_zero] at hK
      go_wp2
      exact hK _ _ rfl (fun _ _ h => h) (Mod.refl _ _)
    refine opsOkP_cons ?_ ?_
    · intro K vs W hR hD hN hK
      have dq7 : vs 7 = .pointer (some ⟨q, 0, none⟩) := hD 7 (by decide)
      clear hD
      clear hN
      try dsimp only at hK ⊢
      simp only [Act.put, List.setIfInBounds_toArray, List.set_cons_succ, List.set_cons_zero] at hK
      generalize vs 7 = vq7 at hK dq7 ⊢
      subst vq7
      go_wp2
      exact hK _ _ rfl (fun _ _ h => h) (Mod.refl _ _)
    refine opsOkP_cons ?_ ?_
    · intro K vs W hR hD hN hK
      have dq8 : vs 8 = .pointer (some ⟨q, 0, none⟩) := hD 8 (by decide)
      clear hD
      clear hN
      try dsimp only at hK ⊢
      simp only [Act.put, List.setIfInBounds_toArray, List.set_cons_succ, List.set_cons_zero] at hK
      generalize vs 8 = vq8 at hK dq8 ⊢
      subst vq8
      go_wp2
      exact hK _ _ rfl (fun _ _ h => h) (Mod.refl _ _)
    refine opsOkP_cons ?_ ?_
    · intro K vs W hR hD hN hK
      have dq9 : vs 9 = .pointer (some ⟨q, 2, none⟩) := hD 9 (by decide)
      clear hD
      clear hN
      try dsimp only at hK ⊢
      simp only [Act.put, List.setIfInBounds_toArray, List.set_cons_succ, List.set_cons_zero] at hK
      generalize vs 9 = vq9 at hK dq9 ⊢
      subst vq9
      have q0 := ((HSd.out.at (HOLD.out W hR)).1).cell 2 rfl
      go_wp2
      exact hK _ _ rfl (fun _ _ h => h) (Mod.refl _ _)
    refine opsOkP_cons ?_ ?_
    · intro K vs W hR hD hN hK
      clear hD
      clear hN
      try dsimp only at hK ⊢
      simp only [Act.put, List.setIfInBounds_toArray, List.set_cons_succ, List.set_cons_zero] at hK
      have hz := (show B0 ≤ W.heap.size from (by have h1 := HB0.out; have h2 := hR.size; simp at h2; omega))
      go_wp2
      exact hK _ _ ⟨_, rfl, Own.rebase (own_empty W 5 1 W.heap.size rfl) (low_lit hz)⟩ (fun j _ h => HST j vs _ _ _ h (Mod.alloc _ _ _)) (Mod.alloc _ _ _)
    refine opsOkP_cons ?_ ?_
    · intro K vs W hR hD hN hK
      clear hD
      clear hN
      try dsimp only at hK ⊢
      simp only [Act.put, List.setIfInBounds_toArray, List.set_cons_succ, List.set_cons_zero] at hK
      go_wp2
      exact hK _ _ rfl (fun _ _ h => h) (Mod.refl _ _)
    refine opsOkP_cons ?_ ?_
    · intro K vs W hR hD hN hK
      have dq11 : (EmpT 5 1 B0) (vs 11) W := hD 11 (by decide)
      have dq12 : vs 12 = .slice a1 n1 c1 := hD 12 (by decide)
      clear hD
      clear hN
      try dsimp only at hK ⊢
      simp only [Act.put, List.setIfInBounds_toArray, List.set_cons_succ, List.set_cons_zero] at hK
      generalize vs 11 = vq11 at hK dq11 ⊢
      generalize vs 12 = vq12 at hK dq12 ⊢
      subst vq12
      have hz := (show B0 ≤ W.heap.size from (by have h1 := HB0.out; have h2 := hR.size; simp at h2; omega))
      have hrd := (HSd.out.at (HOLD.out W hR)).2.2.1
      obtain ⟨ae, rfl, ho⟩ := dq11
      go_wp2_with (at_builtin; refine wpList_append_any rfl (.tmp 33) (.tmp 34) 35 rfl 5 i8 (.int .u8 0) 1 1 Try.underlying35 hi8 hz8 hs8 hb8 rfl (by decide) _ (0) ([]) rfl (Own.base ho (Nat.zero_le _)) _ (n1) (bs.map (Value.int .u8)) rfl hrd (by intro u hu; obtain ⟨_, _, rfl⟩ := List.mem_map.1 hu; rfl) (by unfold maxLen; omega) (by omega) ?_; intro v' w' hap)
      obtain ⟨a4, c4, rfl⟩ := hap.form
      have ho4 := hap.own
      have lo4 := hap.low hz (fun k hk => (ho.lt k hk).1)
      have hm4 := hap.still ae 0 0 rfl (by omega)
      simp only [Nat.zero_add, List.nil_append] at ho4 lo4 ⊢
      exact hK _ _ ⟨a4, c4, rfl, Own.rebase ho4 lo4⟩ (fun j _ h => HST j vs _ _ _ h hm4) (hm4.mono (fun _ _ e => e.elim))
    refine opsOkP_cons ?_ ?_
    · intro K vs W hR hD hN hK
      have dq10 : vs 10 = .int .i64 (N : Int) := hD 10 (by decide)
      have dq13 : (OwnT 5 1 B0 (n1) (bs.map (Value.int .u8))) (vs 13) W := hD 13 (by decide)
      clear hD
      clear hN
      try dsimp only at hK ⊢
      simp only [Act.put, List.setIfInBounds_toArray, List.set_cons_succ, List.set_cons_zero] at hK
      generalize vs 10 = vq10 at hK dq10 ⊢
      subst vq10
      obtain ⟨ab, cb, hvb, hob⟩ := dq13
      rw [hvb] at hK ⊢
      go_wp2
      exact hK _ _ ⟨by rw [hvb]⟩ (fun _ _ h => h) (Mod.refl _ _)
    refine opsOkP_cons ?_ ?_
    · intro K vs W hR hD hN hK
      have dq13 : (OwnT 5 1 B0 (n1) (bs.map (Value.int .u8))) (vs 13) W := hD 13 (by decide)
      have dq14 : (RelK (fun u v _ => v = .agg #[.int .i64 (N : Int), u]) 13) vs (vs 14) W := hD 14 (by decide)
      clear hD
      clear hN
      try dsimp only at hK ⊢
      simp only [Act.put, List.setIfInBounds_toArray, List.set_cons_succ, List.set_cons_zero] at hK
      generalize vs 14 = vq14 at hK dq14 ⊢
      obtain ⟨ab, cb, hvb, hob⟩ := dq13
      have hq14 : vq14 = .agg #[.int .i64 (N : Int), .slice ab n1 cb] := by have h : vq14 = .agg #[.int .i64 (N : Int), vs 13] := dq14.out; rw [h, hvb]
      subst hq14
      go_wp2
      exact hK _ _ ⟨_, rfl, by rw [hvb]; exact Rd.litN _ 2 _ _ _ 1 rfl rfl (by decide)⟩ (fun j _ h => HST j vs _ _ _ h (Mod.alloc _ _ _)) (Mod.alloc _ _ _)
    refine opsOkP_cons ?_ ?_
    · intro K vs W hR hD hN hK
      have dq6 : (OwnT 72 2 B0 (n) (us.flatMap c2U)) (vs 6) W := hD 6 (by decide)
      have dq13 : (OwnT 5 1 B0 (n1) (bs.map (Value.int .u8))) (vs 13) W := hD 13 (by decide)
      have dq15 : (RelK (fun u => LitT 2 [.int .i64 (N : Int), u]) 13) vs (vs 15) W := hD 15 (by decide)
      clear hD
      clear hN
      try dsimp only at hK ⊢
      simp only [Act.put, List.setIfInBounds_toArray, List.set_cons_succ, List.set_cons_zero] at hK
      generalize vs 6 = vq6 at hK dq6 ⊢
      generalize vs 15 = vq15 at hK dq15 ⊢
      have hz := (show B0 ≤ W.heap.size from (by have h1 := HB0.out; have h2 := hR.size; simp at h2; omega))
      obtain ⟨ae, ce, rfl, ho⟩ := dq6
      obtain ⟨pl, rfl, hl⟩ := dq15
      obtain ⟨ab, cb, hvb, hob⟩ := dq13
      go_wp2_with (at_builtin; refine wpList_append_any rfl (.tmp 28) (.tmp 37) 53 rfl 72 iU (.agg #[.int .i64 0, .slice none 0 0]) 2 32 Try.underlying53 hiU hzU hsU hbU rfl (by decide) _ (n) (us.flatMap c2U) rfl (Own.base ho (Nat.zero_le _)) _ (1) ([.int .i64 (N : Int), vs 13]) rfl hl (by intro u hu; simp at hu; exact hu.elim (fun h => by rw [h]; rfl) (fun h => by rw [h, hvb]; rfl)) (by unfold maxLen; omega) (by omega) ?_; intro v' w' hap)
      obtain ⟨a4, c4, rfl⟩ := hap.form
      have ho4 := hap.own
      have lo4 := hap.low hz (fun k hk => (ho.lt k hk).1)
      exact hK _ _ ⟨⟨a4, c4, rfl, Own.rebase ho4 lo4⟩, ab, cb, hvb, Own.keep hob hap.mod (fun q h1 h2 => own_types ho hob (by decide) q h2 h1)⟩ (factP_solid HSO [13] 16 (by kernel_rfl) (all_one (fun h => ownT_keep h hap.mod (fun q h1 h2 => own_types ho hob (by decide) q h2 h1)))) (hap.mod.mono (fun k _ e => (ho.lt k e).1))
    refine opsOkP_cons ?_ ?_
    · intro K vs W hR hD hN hK
      have dq0 : vs 0 = .pointer (some ⟨q, 0, none⟩) := hD 0 (by decide)
      clear hD
      clear hN
      try dsimp only at hK ⊢
      simp only [Act.put, List.setIfInBounds_toArray, List.set_cons_succ, List.set_cons_zero] at hK
      generalize vs 0 = vq0 at hK dq0 ⊢
      subst vq0
      go_wp2
      exact hK _ _ rfl (fun _ _ h => h) (Mod.refl _ _)
    refine opsOkP_cons ?_ ?_
    · intro K vs W hR hD hN hK
      have dq17 : vs 17 = .pointer (some ⟨q, 0, none⟩) := hD 17 (by decide)
      clear hD
      clear hN
      try dsimp only at hK ⊢
      simp only [Act.put, List.setIfInBounds_toArray, List.set_cons_succ, List.set_cons_zero] at hK
      generalize vs 17 = vq17 at hK dq17 ⊢
      subst vq17
      go_wp2
      exact hK _ _ rfl (fun _ _ h => h) (Mod.refl _ _)
    exact opsOkP_nil
  · intro vs wq1 hR hF
    have dq16 : (RelK (fun u v W => OwnT 72 2 B0 (n + 1) (us.flatMap c2U ++ [.int .i64 (N : Int), u]) v W ∧ OwnT 5 1 B0 n1 (bs.map (Value.int .u8)) u W) 13) vs (vs 16) wq1 := hF 16 (by decide) (by decide)
    have dq18 : vs 18 = .pointer (some ⟨q, 3, none⟩) := hF 18 (by decide) (by decide)
    clear hF
    try dsimp only
    generalize vs 16 = vq16 at dq16 ⊢
    generalize vs 18 = vq18 at dq18 ⊢
    subst vq18
    have hmw : Mod (fun _ => False) wA wq1 := (Mod.drew _ _).of2 (HOLD.out _ hR)
    replace HS := Lib.hid (HS.out.step hmw)
    clear hmw HSd
    obtain ⟨⟨av, cv, rfl, ho⟩, ab, cb, hvb, hob⟩ := dq16
    have HO := Lib.hid ho
    have HOB := Lib.hid hob
    generalize hv13 : vs 13 = v13 at hvb HO HOB
    subst hvb
    clear ho hob hv13
    have hbq := (HS.out.now).1
    have f3 := hbq.free 3
    have c3_ := hbq.cell 3 rfl
    have hrs := (HS.out.now).2.2.2.1
    have hmm := (HS.out.now).2.2.2.2
    have hset : Mod (fun k => k = q) wq1 (wq1.setCell ⟨q, 3, none⟩ (.slice av (n + 1) cv)) := Mod.setCell _ _ _ rfl
    have hb3 := hbq.set 3 (.slice av (n + 1) cv)
    have htm := hrs.tm.keep hset (fun e => hrs.qt e.symm) (fun k hk e => hrs.trow k hk (.inl e))
    have HBO := Lib.hid hb3
    have HTM := Lib.hid htm
    have HSET := Lib.hid hset
    have HMM := Lib.hid hmm
    have HRS := Lib.hid hrs
    clear hrs htm hset hmm hb3
    obtain ⟨wS, hwS⟩ : ∃ x, wq1.setCell ⟨q, 3, none⟩ (.slice av (n + 1) cv) = x := ⟨_, rfl⟩
    rw [hwS] at HBO HTM HSET
    go_wp2_with fail
    have g0 := HBO.out.cell 0 rfl
    have g2 := HBO.out.cell 2 rfl
    clear hwS hbq f3 c3_
    go_still_tail 9, (by kernel_rfl)
    change wpList _ _ _ _ _ (World.drew wS)
    go_wp2_with fail
    refine (rtstart_any _ tq ta tn tc B M R ls (HTM.out.keep (Mod.drew (fun _ => False) wS) (fun e => e) (fun _ _ e => e.elim)) HRI.out (by have h1 := HTM.out.len; have h2 := HLS.out; omega) (N : Int) now (by omega)).mono ?_
    rintro e w6 ⟨rfl, ta2, tn2, tc2, ht6, hlow6, hm6⟩
    have hm6d := (Mod.drew (fun k => k = tq) wS).trans hm6 (H := fun k => k = tq) (fun _ _ e => e) (fun _ _ e => e)
    have hb6 := HBO.out.keep hm6d HRS.out.qt
    have q2 := hb6.cell 2 rfl
    have f2 := hb6.free 2
    have l2 := hb6.lt
    have HB6 := Lib.hid hb6
    have HT6 := Lib.hid ht6
    have HLOW := Lib.hid hlow6
    have HM6 := Lib.hid hm6d
    clear hb6 ht6 hlow6 hm6 hm6d g0 g2
    have hwi : IntKind.i64.wrap ((N : Int) + 1) = ((N + 1 : Nat) : Int) := by rw [IntWalk.i64_in _ (by omega)]; omega
    have hwi2 : IntKind.i64.wrap (((N + 1 : Nat) : Int) - 1) = (N : Int) := by rw [IntWalk.i64_in _ (by omega)]; omega
    go_wp2_with fail
    go_ret2
    have hset2 : Mod (fun k => k = q) w6 (w6.setCell ⟨q, 2, none⟩ (.int .i64 ((N : Int) + 1))) := Mod.setCell _ _ _ rfl
    have hqB : q < B0 := by have h1 := HB0.out; have h2 := HMA.out.size; omega
    have htB : tq < B0 := by have h1 := HB0.out; have h2 := HMA.out.size; have h3 := HT.out.tm.blk.lt; omega
    have hap := own_types HO.out HOB.out (by decide)
    have hnq : ∀ k, (Value.slice av (n + 1) cv).ownBlock = some k → ¬ (k = q ∨ k = tq) := fun k hk e => by have h1 := (HO.out.lt k hk).1; omega
    have hnb : ∀ k, (Value.slice ab n1 cb).ownBlock = some k → ¬ (k = q ∨ k = tq) := fun k hk e => by have h1 := (HOB.out.lt k hk).1; omega
    have hall : Mod (fun k => k = q ∨ k = tq) wq1 (w6.setCell ⟨q, 2, none⟩ (.int .i64 ((N : Int) + 1))) := (HSET.out.trans HM6.out (H := fun k => k = q ∨ k = tq) (fun _ _ e => .inl e) (fun _ _ e => .inr e)).trans hset2 (fun _ _ e => e) (fun _ _ e => .inl e)
    have hBsz : w.heap.size ≤ B0 := by have h1 := HB0.out; have h2 := HMA.out.size; omega
    have hbs : ((N : Int) + 1) = ((F + (n + 1) : Nat) : Int) := by have := HN.out; omega
    have hb9 := HB6.out.set 2 (.int .i64 ((N : Int) + 1))
    have hro9 := (Rd.ofOwn HO.out).keep hall hnq
    have hbo9 := (Rd.ofOwn HOB.out).keep hall hnb
    have ht9 := HT6.out.keep hset2 (fun e => HRS.out.qt e.symm) (fun k hk e => by have h1 := HLOW.out k hk; have h2 := HBO.out.lt; simp at h1; omega)
    have hold : ∀ u ∈ us, ∀ k, u.v.ownBlock = some k → ¬ (k = q ∨ k = tq) := fun u hu k hk e => by have := HRS.out.brow u hu k hk; omega
    rw [HN.out]
    refine ⟨rfl, av, cv, ta2, tn2, tc2, us ++ [⟨N, bs, .slice ab n1 cb⟩], by rw [List.map_append]; rfl, ?_, ?_, ?_⟩
    · refine ⟨HRS.out.w1, hW6, by rw [List.length_append, hlen]; rfl, by omega, by rw [← hbs]; exact hb9, ht9, ?_, ?_, ?_, HRS.out.qt, fun k hk e => absurd e (hnq k hk), fun k hk e => ?_, ?_, ?_⟩
      · rw [List.flatMap_append]
        simpa [c2U] using hro9
      · intro i hi
        by_cases e : i < us.length
        · rw [List.getElem_append_left e]; exact HRS.out.seqs i e
        · have e2 : i = us.length := by simp at hi; omega
          subst e2
          simp
          have := HN.out; omega
      · intro u hu
        rcases List.mem_append.1 hu with hu | hu
        · exact (HRS.out.bodies u hu).apart hall (hold u hu)
        · rw [List.mem_singleton] at hu
          subst hu
          exact ⟨ab, n1, cb, rfl, HBN.out, hbo9⟩
      · have h1 := HLOW.out k hk
        have h2 := HBO.out.lt
        have h3 := HTM.out.blk.lt
        simp at h1
        omega
      · intro u hu k hk
        rcases List.mem_append.1 hu with hu | hu
        · exact HRS.out.brow u hu k hk
        · rw [List.mem_singleton] at hu
          subst hu
          have := hnb k hk; omega
      · intro u hu k hk
        have hz := hall.size
        rcases List.mem_append.1 hu with hu | hu
        · have := HRS.out.blt u hu k hk; omega
        · rw [List.mem_singleton] at hu
          subst hu
          have := (HOB.out.lt k hk).2; omega
    · intro k hk
      rcases hk with e | e | ⟨e, _⟩ | ⟨e, _⟩ | ⟨u, hu, hk⟩
      · exact .inl (.inl e)
      · exact .inl (.inr (.inl e))
      · refine .inr ?_
        have h1 := (HO.out.lt k (by rw [← e]; exact own_slice av (n + 1) cv 0 0)).1
        omega
      · refine .inr ?_
        have h1 := HLOW.out k (by rw [← e]; exact own_slice ta2 tn2 tc2 0 0)
        have h2 := HSET.out.size
        have h3 := HMM.out.size
        have h4 := HMA.out.size
        simp at h1
        omega
      · rcases List.mem_append.1 hu with hu | hu
        · exact .inl (.inr (.inr (.inr (.inr ⟨u, hu, hk⟩))))
        · rw [List.mem_singleton] at hu
          subst hu
          refine .inr ?_
          have := (HOB.out.lt k hk).1; omega
    · exact (HMA.out.trans HMM.out (H := fun k => k = q ∨ k = tq) (fun _ _ e => e.elim) (fun _ _ e => e.elim)).trans hall (fun _ _ e => e) (fun _ _ e => e)
end Go.Proofs.Ytopldodfkcgmhaa
