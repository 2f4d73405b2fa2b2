/- Law 8's awake by contract. -/
import Derived.Test.YtmpcpmgpnccphaaMade8
import Derived.Test.YtmpcpmgpnccphaaWalk
import Derived.Deep.DeepCutAuto
import Derived.Deep.CutBlock
namespace Go.Proofs.Ytmpcpmgpnccphaa
open Go.RowKit Mile
set_option maxRecDepth 100000
theorem t8len : 2 ≤ (townG [3, 3, 5]).E.length := by decide +kernel
/-- What each operation of the statement leaves. -/
def aw_r7_0_F (a2 : Option Addr) (n2 : Nat) (d2 : Nat) (t : Nat) (bg : Nat) (y0 : Int) (z0 : Int) (eb : Nat) (eo : Nat) (z1 : Int) (fb : Nat) (fo : Nat) : List (Value → World → Prop) :=
  [IsV (.bool true),
   IsV (.bool true),
   IsV (.int .i64 (z0 + z1)),
   IsV (.pointer (some ⟨bg, 1, none⟩)),
   IsV (.slice a2 n2 d2),
   IsV (.pointer (some ⟨eb, eo, none⟩)),
   IsV (.pointer (some ⟨eb, eo + 2, none⟩)),
   IsV (.int .i64 z0),
   IsV (.pointer (some ⟨bg, 1, none⟩)),
   IsV (.slice a2 n2 d2),
   IsV (.pointer (some ⟨fb, fo, none⟩)),
   IsV (.pointer (some ⟨fb, fo + 2, none⟩)),
   IsV (.int .i64 z1),
   IsV (.int .i64 (z0 + z1)),
   IsV (.bool true),
   IsV (.bool true),
   IsV (.bool true),
   IsV (.bool true),
   IsV (.bool true),
   IsV (.bool true),
   IsV (.int .i64 y0),
   IsV (.pointer (some ⟨bg, 1, none⟩)),
   IsV (.slice a2 n2 d2),
   IsV (.pointer (some ⟨eb, eo, none⟩)),
   IsV (.pointer (some ⟨eb, eo + 1, none⟩)),
   IsV (.int .i64 y0),
   IsV (.bool true),
   IsV (.bool true),
   IsV (.bool true),
   IsV (.bool false),
   IsV (.bool true),
   IsV (.bool true),
   IsV (.bool true),
   IsV (.pointer (some ⟨t, 0, none⟩)),
   IsV (.bool true),
   IsV (.bool true),
   IsV (.bool true),
   IsV (.pointer (some ⟨t, 0, none⟩)),
   IsV (.bool false),
   IsV (.bool true),
   IsV (.bool true),
   IsV (.bool true),
   (NewRow 2 [.int .i64 1, .int .i64 2]),
   (NewRow 2 [.int .i64 1, .int .i64 3]),
   IsV (.int .i64 (-1)),
   IsV (.bool true),
   IsV (.bool true),
   IsV (.bool true),
   (NewRow 1 [.int .i64 1]),
   (NewRow 2 [.int .i64 1, .int .i64 0]),
   IsV (.int .i64 (-1)),
   IsV (.bool true),
   IsV (.bool true),
   IsV (.bool true),
   IsV (.int .i64 0),
   IsV (.bool true),
   IsV (.bool true),
   IsV (.bool true)]
def aw_r7_0_D : List (List Nat) := [[], [0], [1], [1], [1, 3], [1, 4], [1, 5], [1, 6], [1], [1, 8], [1, 9], [1, 10], [1, 11], [1, 7, 12], [1, 2, 13], [1, 14], [15], [16], [16, 17], [18], [19], [19], [19, 21], [19, 22], [19, 23], [19, 24], [19, 20, 25], [19, 26], [27], [28], [28, 29], [28, 30], [31], [32], [32, 33], [32, 34], [35], [36], [36, 37], [36, 38], [36, 39], [40], [41], [41], [41, 42, 43], [41, 44], [41, 45], [46], [47], [47], [47, 48, 49], [47, 50], [47, 51], [52], [53], [53, 54], [53, 55], [56]]

set_option maxHeartbeats 16000000 in
theorem awake8_any (w : World) : Calls Try.prog 36 #[] w fun e w' => e = .returned (.bool true) ∧ Mod (fun _ => False) w w' := by
  obtain ⟨iE, hiE, hzE, hsE, hbE⟩ := info_parts GR.infoE
  have HS : Hid (Ev (Mod (fun _ => False) w) w) := Lib.hid (Ev.mod w)
  go_enter Try.func36, Try.ntmps36
  go_wp2_with fail
  refine (made8_any _ _ 3 _ [3, 3, 5] rfl (Rd.lit _ _ _ _ 3 rfl rfl (by decide))).mono ?_
  rintro e wq0 ⟨a1, n1, d1, a2, n2, d2, a3, n3, d3, t, p, B, C, rfl, hg, hto, hm⟩
  replace HS := Lib.hid (HS.out.step ((Mod.alloc (fun _ => False) _ _).of2 hm))
  replace HS := Lib.hid ((Ev.gv hg).and HS.out)
  replace HS := Lib.hid ((Ev.to hto).and HS.out)
  clear hm hg hto
  have hmay := Lib.hid (town_may [3, 3, 5])
  have hl2 := t8len
  obtain ⟨G, hG⟩ : ∃ G, townG [3, 3, 5] = G := ⟨_, rfl⟩
  rw [hG] at hmay hl2
  rw [hG] at HS
  clear hG
  have he := Lib.hid ((HS.out.now).2.1.e)
  have h20 : 0 < n2 := by have := he.out; omega
  have h21 : 1 < n2 := by have := he.out; omega
  have g0 : 0 < G.E.length := by omega
  have g1 : 1 < G.E.length := by omega
  go_upto_region 2 with fail
  obtain ⟨bg, hbg⟩ : ∃ b, wq0.heap.size = b := ⟨_, rfl⟩
  obtain ⟨wq1, hwq1⟩ : ∃ W, World.alloc wq0 (.cells #[.slice a1 n1 d1, .slice a2 n2 d2, .slice a3 n3 d3] 28) = W := ⟨_, rfl⟩
  have hBbg : Blk wq1 bg 28 [.slice a1 n1 d1, .slice a2 n2 d2, .slice a3 n3 d3] := by rw [← hwq1, ← hbg]; exact Blk.new _ 28 [.slice a1 n1 d1, .slice a2 n2 d2, .slice a3 n3 d3]
  have hzbg : wq1.heap.size = bg + 1 := by rw [← hwq1, ← hbg]; exact heap_size_alloc _ _
  replace HS := Lib.hid (HS.out.step (w' := wq1) (by rw [← hwq1]; exact Mod.alloc _ _ _))
  replace HS := Lib.hid ((Ev.blk hBbg).and HS.out)
  try rw [hwq1]
  try rw [hbg]
  clear hzbg hBbg hbg hwq1
  have hbbg := (HS.out.now).1
  have qbg_0 := hbbg.cell 0 rfl
  have qbg_1 := hbbg.cell 1 rfl
  have qbg_2 := hbbg.cell 2 rfl
  have lbg := hbbg.lt
  clear hbbg
  have hz := (hmay.out.2.2.1 _ (List.getElem_mem g0)).2.2
  obtain ⟨x0, Hx00⟩ : ∃ qz, (G.E[0]).1 = qz := ⟨_, rfl⟩
  have Hx0 := Lib.hid Hx00
  clear Hx00
  obtain ⟨y0, Hy00⟩ : ∃ qz, (G.E[0]).2.1 = qz := ⟨_, rfl⟩
  have Hy0 := Lib.hid Hy00
  clear Hy00
  obtain ⟨z0, Hz00⟩ : ∃ qz, (G.E[0]).2.2 = qz := ⟨_, rfl⟩
  have Hz0 := Lib.hid Hz00
  clear Hz00
  rw [Hz0.out] at hz
  have hz0a := hz.1
  have hz0b := hz.2
  clear hz
  obtain ⟨eb, eo, hpl, e0, e1, e2⟩ := rd3 (HS.out.now).2.2.1.re 0 g0
  have hix := fun wx => run_indexS (P := Try.prog) wx 25 46 iE 3 Try.underlying25 hiE hsE a2 n2 d2 0 h20 ((HS.out.now).2.2.1.re.some_ (by have := h20; omega))
  rw [hpl] at hix
  have HIe := Lib.hid hix
  clear hix hpl
  rw [Hx0.out] at e0
  replace HS := Lib.hid ((Ev.cell e0).and HS.out)
  clear e0
  rw [Hy0.out] at e1
  replace HS := Lib.hid ((Ev.cell e1).and HS.out)
  clear e1
  rw [Hz0.out] at e2
  replace HS := Lib.hid ((Ev.cell e2).and HS.out)
  clear e2
  have hz := (hmay.out.2.2.1 _ (List.getElem_mem g1)).2.2
  obtain ⟨x1, Hx10⟩ : ∃ qz, (G.E[1]).1 = qz := ⟨_, rfl⟩
  have Hx1 := Lib.hid Hx10
  clear Hx10
  obtain ⟨y1, Hy10⟩ : ∃ qz, (G.E[1]).2.1 = qz := ⟨_, rfl⟩
  have Hy1 := Lib.hid Hy10
  clear Hy10
  obtain ⟨z1, Hz10⟩ : ∃ qz, (G.E[1]).2.2 = qz := ⟨_, rfl⟩
  have Hz1 := Lib.hid Hz10
  clear Hz10
  rw [Hz1.out] at hz
  have hz1a := hz.1
  have hz1b := hz.2
  clear hz
  obtain ⟨fb, fo, hpl, e0, e1, e2⟩ := rd3 (HS.out.now).2.2.2.2.2.1.re 1 g1
  have hix := fun wx => run_indexS (P := Try.prog) wx 25 46 iE 3 Try.underlying25 hiE hsE a2 n2 d2 1 h21 ((HS.out.now).2.2.2.2.2.1.re.some_ (by have := h21; omega))
  rw [hpl] at hix
  have HIf := Lib.hid hix
  clear hix hpl
  rw [Hx1.out] at e0
  replace HS := Lib.hid ((Ev.cell e0).and HS.out)
  clear e0
  rw [Hy1.out] at e1
  replace HS := Lib.hid ((Ev.cell e1).and HS.out)
  clear e1
  rw [Hz1.out] at e2
  replace HS := Lib.hid ((Ev.cell e2).and HS.out)
  clear e2
  have z0q : decide ((n2 : Int) < 2) = false := by simp; omega
  have EB0 : Hid (edB G 0 = true) := Lib.hid (decide_eq_true ⟨by omega, by omega⟩)
  have EB1 : Hid (edB G 1 = true) := Lib.hid (decide_eq_true ⟨by omega, by omega⟩)
  have EBN : Hid (edB G (-1) = false) := Lib.hid (decide_eq_false (fun h => by omega))
  have AL : Hid (allE G [0, 1] = true) := Lib.hid (by unfold allE; simp [EB0.out, EB1.out])
  have ALN : Hid (allE G [-1] = false) := Lib.hid (by unfold allE; simp [EBN.out])
  have WT : Hid (wtN G [0, 1] = z0 + z1) := Lib.hid (by unfold wtN; rw [AL.out, if_pos rfl]; show (eAt G ((0 : Nat) : Int)).2.2 + ((eAt G ((1 : Nat) : Int)).2.2 + 0) = _; rw [eAt_eq G 0 g0, eAt_eq G 1 g1, Hz0.out, Hz1.out]; omega)
  have VD : Hid (validB G 0 [] = true) := Lib.hid (by unfold validB; rw [EB0.out]; rfl)
  have VDN : Hid (validB G (-1) [] = false) := Lib.hid (by unfold validB; rw [EBN.out]; rfl)
  have EN : Hid (endN G 0 [] = y0) := Lib.hid (by unfold endN; rw [VD.out, if_pos rfl]; show (eAt G ((0 : Nat) : Int)).2.1 = _; rw [eAt_eq G 0 g0, Hy0.out])
  go_wp2_with fail
  clear qbg_0 qbg_1 qbg_2 lbg
  refine (wweight_any t p B C G hmay.out _ (((HS.out.now).2.2.2.2.2.2.2.1).keep (Mod.alloc _ _ _)) _ 2 _ [0, 1] rfl (Rd.lit 3 [.int .i64 0, .int .i64 1] (0, 0) _ 2 rfl rfl (by decide)) (by omega)).mono ?_
  rintro e wq2 ⟨rfl, hm⟩
  replace HS := Lib.hid (HS.out.step ((Mod.alloc (fun _ => False) _ _).of2 hm))
  clear hm
  rw [AL.out, WT.out]
  go_wp2_with fail
  refine (wend_any t p B C G _ ((HS.out.now).2.2.2.2.2.2.2.1) 0 _ 0 0 [] rfl (Rd.nil _ _) (by omega)).mono ?_
  rintro e wq3 ⟨rfl, hmm⟩
  replace HS := Lib.hid (HS.out.step hmm)
  clear hmm
  rw [VD.out, EN.out]
  go_wp2_with fail
  refine (wweight_any t p B C G hmay.out _ (((HS.out.now).2.2.2.2.2.2.2.1).keep (Mod.alloc _ _ _)) _ 1 _ [-1] rfl (Rd.lit 3 [.int .i64 (-1)] (0, 0) _ 1 rfl rfl (by decide)) (by omega)).mono ?_
  rintro e wq4 ⟨rfl, hm⟩
  replace HS := Lib.hid (HS.out.step ((Mod.alloc (fun _ => False) _ _).of2 hm))
  clear hm
  rw [ALN.out, show wtN G [-1] = 0 from by unfold wtN; rw [ALN.out]; rfl]
  go_upto_region 7 with fail
  have HSd := Lib.hid HS.out.drew
  refine wp_region_inv3 (act := ?actaw_r7_0) (Mod (fun _ => False)) (fun i => (aw_r7_0_F a2 n2 d2 t bg y0 z0 eb eo z1 fb fo).getD i (fun _ _ => True)) (fun i => aw_r7_0_D.getD i []) (by kernel_rfl) (by kernel_rfl) (by kernel_rfl) (by kernel_rfl) (fun _ => Mod.refl _ _)
    (fun _ _ _ h k => h.trans k (fun _ _ e => e) (fun _ _ e => e)) ?hactaw_r7_0 (stable_list ?_) ?_ ?_
  case hactaw_r7_0 => intro vs; simp only [putAll, Nat.zero_add, Nat.reduceAdd, Act.put, List.setIfInBounds_toArray, List.set_cons_succ, List.set_cons_zero]; exact rfl
  · unfold aw_r7_0_F
    exact stable_cons (stable_val _) <| stable_cons (stable_val _) <| stable_cons (stable_val _) <| stable_cons (stable_val _) <| stable_cons (stable_val _) <| stable_cons (stable_val _) <| stable_cons (stable_val _) <| stable_cons (stable_val _) <| stable_cons (stable_val _) <| stable_cons (stable_val _) <| stable_cons (stable_val _) <| stable_cons (stable_val _) <| stable_cons (stable_val _) <| stable_cons (stable_val _) <| stable_cons (stable_val _) <| stable_cons (stable_val _) <| stable_cons (stable_val _) <| stable_cons (stable_val _) <| stable_cons (stable_val _) <| stable_cons (stable_val _) <| stable_cons (stable_val _) <| stable_cons (stable_val _) <| stable_cons (stable_val _) <| stable_cons (stable_val _) <| stable_cons (stable_val _) <| stable_cons (stable_val _) <| stable_cons (stable_val _) <| stable_cons (stable_val _) <| stable_cons (stable_val _) <| stable_cons (stable_val _) <| stable_cons (stable_val _) <| stable_cons (stable_val _) <| stable_cons (stable_val _) <| stable_cons (stable_val _) <| stable_cons (stable_val _) <| stable_cons (stable_val _) <| stable_cons (stable_val _) <| stable_cons (stable_val _) <| stable_cons (stable_val _) <| stable_cons (stable_val _) <| stable_cons (stable_val _) <| stable_cons (stable_val _) <| stable_cons (stable_new) <| stable_cons (stable_new) <| stable_cons (stable_val _) <| stable_cons (stable_val _) <| stable_cons (stable_val _) <| stable_cons (stable_val _) <| stable_cons (stable_new) <| stable_cons (stable_new) <| stable_cons (stable_val _) <| stable_cons (stable_val _) <| stable_cons (stable_val _) <| stable_cons (stable_val _) <| stable_cons (stable_val _) <| stable_cons (stable_val _) <| stable_cons (stable_val _) <| stable_cons (stable_val _) <| stable_nil
  · refine opsOkA_cons ?_ ?_
    · intro K vs W hR hD hK
      clear hD
      try dsimp only at hK ⊢
      simp only [Act.put, List.setIfInBounds_toArray, List.set_cons_succ, List.set_cons_zero] at hK
      go_wp2
      exact hK _ _ rfl (Mod.refl _ _)
    refine opsOkA_cons ?_ ?_
    · intro K vs W hR hD hK
      have dq0 : vs 0 = .bool true := hD 0 (by decide)
      clear hD
      try dsimp only at hK ⊢
      simp only [Act.put, List.setIfInBounds_toArray, List.set_cons_succ, List.set_cons_zero] at hK
      generalize vs 0 = vq0 at hK dq0 ⊢
      subst vq0
      go_wp2
      exact hK _ _ rfl (Mod.refl _ _)
    refine opsOkA_cons ?_ ?_
    · intro K vs W hR hD hK
      have dq1 : vs 1 = .bool true := hD 1 (by decide)
      clear hD
      try dsimp only at hK ⊢
      simp only [Act.put, List.setIfInBounds_toArray, List.set_cons_succ, List.set_cons_zero] at hK
      generalize vs 1 = vq1 at hK dq1 ⊢
      subst vq1
      go_wp2
      exact hK _ _ rfl (Mod.refl _ _)
    refine opsOkA_cons ?_ ?_
    · intro K vs W hR hD hK
      have dq1 : vs 1 = .bool true := hD 1 (by decide)
      clear hD
      try dsimp only at hK ⊢
      simp only [Act.put, List.setIfInBounds_toArray, List.set_cons_succ, List.set_cons_zero] at hK
      generalize vs 1 = vq1 at hK dq1 ⊢
      subst vq1
      go_wp2
      exact hK _ _ rfl (Mod.refl _ _)
    refine opsOkA_cons ?_ ?_
    · intro K vs W hR hD hK
      have dq1 : vs 1 = .bool true := hD 1 (by decide)
      have dq3 : vs 3 = .pointer (some ⟨bg, 1, none⟩) := hD 3 (by decide)
      clear hD
      try dsimp only at hK ⊢
      simp only [Act.put, List.setIfInBounds_toArray, List.set_cons_succ, List.set_cons_zero] at hK
      generalize vs 1 = vq1 at hK dq1 ⊢
      subst vq1
      generalize vs 3 = vq3 at hK dq3 ⊢
      subst vq3
      have q0 := ((HSd.out.at (hR)).2.2.2.2.2.2.1).cell 1 rfl
      go_wp2
      exact hK _ _ rfl (Mod.refl _ _)
    refine opsOkA_cons ?_ ?_
    · intro K vs W hR hD hK
      have dq1 : vs 1 = .bool true := hD 1 (by decide)
      have dq4 : vs 4 = .slice a2 n2 d2 := hD 4 (by decide)
      clear hD
      try dsimp only at hK ⊢
      simp only [Act.put, List.setIfInBounds_toArray, List.set_cons_succ, List.set_cons_zero] at hK
      generalize vs 1 = vq1 at hK dq1 ⊢
      subst vq1
      generalize vs 4 = vq4 at hK dq4 ⊢
      subst vq4
      have hix : ∀ wx : World, (Instr.indexAt 25 (.slice a2 n2 d2) (.int .i64 0)).run Try.prog wx = .ok (.pointer (some ⟨eb, eo, none⟩)) wx := HIe.out
      go_wp2_with fail
      exact hK _ _ rfl (Mod.refl _ _)
    refine opsOkA_cons ?_ ?_
    · intro K vs W hR hD hK
      have dq1 : vs 1 = .bool true := hD 1 (by decide)
      have dq5 : vs 5 = .pointer (some ⟨eb, eo, none⟩) := hD 5 (by decide)
      clear hD
      try dsimp only at hK ⊢
      simp only [Act.put, List.setIfInBounds_toArray, List.set_cons_succ, List.set_cons_zero] at hK
      generalize vs 1 = vq1 at hK dq1 ⊢
      subst vq1
      generalize vs 5 = vq5 at hK dq5 ⊢
      subst vq5
      go_wp2
      exact hK _ _ rfl (Mod.refl _ _)
    refine opsOkA_cons ?_ ?_
    · intro K vs W hR hD hK
      have dq1 : vs 1 = .bool true := hD 1 (by decide)
      have dq6 : vs 6 = .pointer (some ⟨eb, eo + 2, none⟩) := hD 6 (by decide)
      clear hD
      try dsimp only at hK ⊢
      simp only [Act.put, List.setIfInBounds_toArray, List.set_cons_succ, List.set_cons_zero] at hK
      generalize vs 1 = vq1 at hK dq1 ⊢
      subst vq1
      generalize vs 6 = vq6 at hK dq6 ⊢
      subst vq6
      have c2 := (HSd.out.at (hR)).2.2.2.1
      go_wp2
      exact hK _ _ rfl (Mod.refl _ _)
    refine opsOkA_cons ?_ ?_
    · intro K vs W hR hD hK
      have dq1 : vs 1 = .bool true := hD 1 (by decide)
      clear hD
      try dsimp only at hK ⊢
      simp only [Act.put, List.setIfInBounds_toArray, List.set_cons_succ, List.set_cons_zero] at hK
      generalize vs 1 = vq1 at hK dq1 ⊢
      subst vq1
      go_wp2
      exact hK _ _ rfl (Mod.refl _ _)
    refine opsOkA_cons ?_ ?_
    · intro K vs W hR hD hK
      have dq1 : vs 1 = .bool true := hD 1 (by decide)
      have dq8 : vs 8 = .pointer (some ⟨bg, 1, none⟩) := hD 8 (by decide)
      clear hD
      try dsimp only at hK ⊢
      simp only [Act.put, List.setIfInBounds_toArray, List.set_cons_succ, List.set_cons_zero] at hK
      generalize vs 1 = vq1 at hK dq1 ⊢
      subst vq1
      generalize vs 8 = vq8 at hK dq8 ⊢
      subst vq8
      have q0 := ((HSd.out.at (hR)).2.2.2.2.2.2.1).cell 1 rfl
      go_wp2
      exact hK _ _ rfl (Mod.refl _ _)
    refine opsOkA_cons ?_ ?_
    · intro K vs W hR hD hK
      have dq1 : vs 1 = .bool true := hD 1 (by decide)
      have dq9 : vs 9 = .slice a2 n2 d2 := hD 9 (by decide)
      clear hD
      try dsimp only at hK ⊢
      simp only [Act.put, List.setIfInBounds_toArray, List.set_cons_succ, List.set_cons_zero] at hK
      generalize vs 1 = vq1 at hK dq1 ⊢
      subst vq1
      generalize vs 9 = vq9 at hK dq9 ⊢
      subst vq9
      have hix : ∀ wx : World, (Instr.indexAt 25 (.slice a2 n2 d2) (.int .i64 1)).run Try.prog wx = .ok (.pointer (some ⟨fb, fo, none⟩)) wx := HIf.out
      go_wp2_with fail
      exact hK _ _ rfl (Mod.refl _ _)
    refine opsOkA_cons ?_ ?_
    · intro K vs W hR hD hK
      have dq1 : vs 1 = .bool true := hD 1 (by decide)
      have dq10 : vs 10 = .pointer (some ⟨fb, fo, none⟩) := hD 10 (by decide)
      clear hD
      try dsimp only at hK ⊢
      simp only [Act.put, List.setIfInBounds_toArray, List.set_cons_succ, List.set_cons_zero] at hK
      generalize vs 1 = vq1 at hK dq1 ⊢
      subst vq1
      generalize vs 10 = vq10 at hK dq10 ⊢
      subst vq10
      go_wp2
      exact hK _ _ rfl (Mod.refl _ _)
    refine opsOkA_cons ?_ ?_
    · intro K vs W hR hD hK
      have dq1 : vs 1 = .bool true := hD 1 (by decide)
      have dq11 : vs 11 = .pointer (some ⟨fb, fo + 2, none⟩) := hD 11 (by decide)
      clear hD
      try dsimp only at hK ⊢
      simp only [Act.put, List.setIfInBounds_toArray, List.set_cons_succ, List.set_cons_zero] at hK
      generalize vs 1 = vq1 at hK dq1 ⊢
      subst vq1
      generalize vs 11 = vq11 at hK dq11 ⊢
      subst vq11
      have c2 := (HSd.out.at (hR)).1
      go_wp2
      exact hK _ _ rfl (Mod.refl _ _)
    refine opsOkA_cons ?_ ?_
    · intro K vs W hR hD hK
      have dq1 : vs 1 = .bool true := hD 1 (by decide)
      have dq7 : vs 7 = .int .i64 z0 := hD 7 (by decide)
      have dq12 : vs 12 = .int .i64 z1 := hD 12 (by decide)
      clear hD
      try dsimp only at hK ⊢
      simp only [Act.put, List.setIfInBounds_toArray, List.set_cons_succ, List.set_cons_zero] at hK
      generalize vs 1 = vq1 at hK dq1 ⊢
      subst vq1
      generalize vs 7 = vq7 at hK dq7 ⊢
      subst vq7
      generalize vs 12 = vq12 at hK dq12 ⊢
      subst vq12
      go_wp2
      exact hK _ _ rfl (Mod.refl _ _)
    refine opsOkA_cons ?_ ?_
    · intro K vs W hR hD hK
      have dq1 : vs 1 = .bool true := hD 1 (by decide)
      have dq2 : vs 2 = .int .i64 (z0 + z1) := hD 2 (by decide)
      have dq13 : vs 13 = .int .i64 (z0 + z1) := hD 13 (by decide)
      clear hD
      try dsimp only at hK ⊢
      simp only [Act.put, List.setIfInBounds_toArray, List.set_cons_succ, List.set_cons_zero] at hK
      generalize vs 1 = vq1 at hK dq1 ⊢
      subst vq1
      generalize vs 2 = vq2 at hK dq2 ⊢
      subst vq2
      generalize vs 13 = vq13 at hK dq13 ⊢
      subst vq13
      go_wp2
      exact hK _ _ rfl (Mod.refl _ _)
    refine opsOkA_cons ?_ ?_
    · intro K vs W hR hD hK
      have dq1 : vs 1 = .bool true := hD 1 (by decide)
      have dq14 : vs 14 = .bool true := hD 14 (by decide)
      clear hD
      try dsimp only at hK ⊢
      simp only [Act.put, List.setIfInBounds_toArray, List.set_cons_succ, List.set_cons_zero] at hK
      generalize vs 1 = vq1 at hK dq1 ⊢
      subst vq1
      generalize vs 14 = vq14 at hK dq14 ⊢
      subst vq14
      go_wp2
      exact hK _ _ rfl (Mod.refl _ _)
    refine opsOkA_cons ?_ ?_
    · intro K vs W hR hD hK
      have dq15 : vs 15 = .bool true := hD 15 (by decide)
      clear hD
      try dsimp only at hK ⊢
      simp only [Act.put, List.setIfInBounds_toArray, List.set_cons_succ, List.set_cons_zero] at hK
      generalize vs 15 = vq15 at hK dq15 ⊢
      subst vq15
      go_wp2
      exact hK _ _ rfl (Mod.refl _ _)
    refine opsOkA_cons ?_ ?_
    · intro K vs W hR hD hK
      have dq16 : vs 16 = .bool true := hD 16 (by decide)
      clear hD
      try dsimp only at hK ⊢
      simp only [Act.put, List.setIfInBounds_toArray, List.set_cons_succ, List.set_cons_zero] at hK
      generalize vs 16 = vq16 at hK dq16 ⊢
      subst vq16
      go_wp2
      exact hK _ _ rfl (Mod.refl _ _)
    refine opsOkA_cons ?_ ?_
    · intro K vs W hR hD hK
      have dq16 : vs 16 = .bool true := hD 16 (by decide)
      have dq17 : vs 17 = .bool true := hD 17 (by decide)
      clear hD
      try dsimp only at hK ⊢
      simp only [Act.put, List.setIfInBounds_toArray, List.set_cons_succ, List.set_cons_zero] at hK
      generalize vs 16 = vq16 at hK dq16 ⊢
      subst vq16
      generalize vs 17 = vq17 at hK dq17 ⊢
      subst vq17
      go_wp2
      exact hK _ _ rfl (Mod.refl _ _)
    refine opsOkA_cons ?_ ?_
    · intro K vs W hR hD hK
      have dq18 : vs 18 = .bool true := hD 18 (by decide)
      clear hD
      try dsimp only at hK ⊢
      simp only [Act.put, List.setIfInBounds_toArray, List.set_cons_succ, List.set_cons_zero] at hK
      generalize vs 18 = vq18 at hK dq18 ⊢
      subst vq18
      go_wp2
      exact hK _ _ rfl (Mod.refl _ _)
    refine opsOkA_cons ?_ ?_
    · intro K vs W hR hD hK
      have dq19 : vs 19 = .bool true := hD 19 (by decide)
      clear hD
      try dsimp only at hK ⊢
      simp only [Act.put, List.setIfInBounds_toArray, List.set_cons_succ, List.set_cons_zero] at hK
      generalize vs 19 = vq19 at hK dq19 ⊢
      subst vq19
      go_wp2
      exact hK _ _ rfl (Mod.refl _ _)
    refine opsOkA_cons ?_ ?_
    · intro K vs W hR hD hK
      have dq19 : vs 19 = .bool true := hD 19 (by decide)
      clear hD
      try dsimp only at hK ⊢
      simp only [Act.put, List.setIfInBounds_toArray, List.set_cons_succ, List.set_cons_zero] at hK
      generalize vs 19 = vq19 at hK dq19 ⊢
      subst vq19
      go_wp2
      exact hK _ _ rfl (Mod.refl _ _)
    refine opsOkA_cons ?_ ?_
    · intro K vs W hR hD hK
      have dq19 : vs 19 = .bool true := hD 19 (by decide)
      have dq21 : vs 21 = .pointer (some ⟨bg, 1, none⟩) := hD 21 (by decide)
      clear hD
      try dsimp only at hK ⊢
      simp only [Act.put, List.setIfInBounds_toArray, List.set_cons_succ, List.set_cons_zero] at hK
      generalize vs 19 = vq19 at hK dq19 ⊢
      subst vq19
      generalize vs 21 = vq21 at hK dq21 ⊢
      subst vq21
      have q0 := ((HSd.out.at (hR)).2.2.2.2.2.2.1).cell 1 rfl
      go_wp2
      exact hK _ _ rfl (Mod.refl _ _)
    refine opsOkA_cons ?_ ?_
    · intro K vs W hR hD hK
      have dq19 : vs 19 = .bool true := hD 19 (by decide)
      have dq22 : vs 22 = .slice a2 n2 d2 := hD 22 (by decide)
      clear hD
      try dsimp only at hK ⊢
      simp only [Act.put, List.setIfInBounds_toArray, List.set_cons_succ, List.set_cons_zero] at hK
      generalize vs 19 = vq19 at hK dq19 ⊢
      subst vq19
      generalize vs 22 = vq22 at hK dq22 ⊢
      subst vq22
      have hix : ∀ wx : World, (Instr.indexAt 25 (.slice a2 n2 d2) (.int .i64 0)).run Try.prog wx = .ok (.pointer (some ⟨eb, eo, none⟩)) wx := HIe.out
      go_wp2_with fail
      exact hK _ _ rfl (Mod.refl _ _)
    refine opsOkA_cons ?_ ?_
    · intro K vs W hR hD hK
      have dq19 : vs 19 = .bool true := hD 19 (by decide)
      have dq23 : vs 23 = .pointer (some ⟨eb, eo, none⟩) := hD 23 (by decide)
      clear hD
      try dsimp only at hK ⊢
      simp only [Act.put, List.setIfInBounds_toArray, List.set_cons_succ, List.set_cons_zero] at hK
      generalize vs 19 = vq19 at hK dq19 ⊢
      subst vq19
      generalize vs 23 = vq23 at hK dq23 ⊢
      subst vq23
      go_wp2
      exact hK _ _ rfl (Mod.refl _ _)
    refine opsOkA_cons ?_ ?_
    · intro K vs W hR hD hK
      have dq19 : vs 19 = .bool true := hD 19 (by decide)
      have dq24 : vs 24 = .pointer (some ⟨eb, eo + 1, none⟩) := hD 24 (by decide)
      clear hD
      try dsimp only at hK ⊢
      simp only [Act.put, List.setIfInBounds_toArray, List.set_cons_succ, List.set_cons_zero] at hK
      generalize vs 19 = vq19 at hK dq19 ⊢
      subst vq19
      generalize vs 24 = vq24 at hK dq24 ⊢
      subst vq24
      have c1 := (HSd.out.at (hR)).2.2.2.2.1
      go_wp2
      exact hK _ _ rfl (Mod.refl _ _)
    refine opsOkA_cons ?_ ?_
    · intro K vs W hR hD hK
      have dq19 : vs 19 = .bool true := hD 19 (by decide)
      have dq20 : vs 20 = .int .i64 y0 := hD 20 (by decide)
      have dq25 : vs 25 = .int .i64 y0 := hD 25 (by decide)
      clear hD
      try dsimp only at hK ⊢
      simp only [Act.put, List.setIfInBounds_toArray, List.set_cons_succ, List.set_cons_zero] at hK
      generalize vs 19 = vq19 at hK dq19 ⊢
      subst vq19
      generalize vs 20 = vq20 at hK dq20 ⊢
      subst vq20
      generalize vs 25 = vq25 at hK dq25 ⊢
      subst vq25
      go_wp2
      exact hK _ _ rfl (Mod.refl _ _)
    refine opsOkA_cons ?_ ?_
    · intro K vs W hR hD hK
      have dq19 : vs 19 = .bool true := hD 19 (by decide)
      have dq26 : vs 26 = .bool true := hD 26 (by decide)
      clear hD
      try dsimp only at hK ⊢
      simp only [Act.put, List.setIfInBounds_toArray, List.set_cons_succ, List.set_cons_zero] at hK
      generalize vs 19 = vq19 at hK dq19 ⊢
      subst vq19
      generalize vs 26 = vq26 at hK dq26 ⊢
      subst vq26
      go_wp2
      exact hK _ _ rfl (Mod.refl _ _)
    refine opsOkA_cons ?_ ?_
    · intro K vs W hR hD hK
      have dq27 : vs 27 = .bool true := hD 27 (by decide)
      clear hD
      try dsimp only at hK ⊢
      simp only [Act.put, List.setIfInBounds_toArray, List.set_cons_succ, List.set_cons_zero] at hK
      generalize vs 27 = vq27 at hK dq27 ⊢
      subst vq27
      go_wp2
      exact hK _ _ rfl (Mod.refl _ _)
    refine opsOkA_cons ?_ ?_
    · intro K vs W hR hD hK
      have dq28 : vs 28 = .bool true := hD 28 (by decide)
      clear hD
      try dsimp only at hK ⊢
      simp only [Act.put, List.setIfInBounds_toArray, List.set_cons_succ, List.set_cons_zero] at hK
      generalize vs 28 = vq28 at hK dq28 ⊢
      subst vq28
      go_wp2
      exact hK _ _ rfl (Mod.refl _ _)
    refine opsOkA_cons ?_ ?_
    · intro K vs W hR hD hK
      have dq28 : vs 28 = .bool true := hD 28 (by decide)
      have dq29 : vs 29 = .bool false := hD 29 (by decide)
      clear hD
      try dsimp only at hK ⊢
      simp only [Act.put, List.setIfInBounds_toArray, List.set_cons_succ, List.set_cons_zero] at hK
      generalize vs 28 = vq28 at hK dq28 ⊢
      subst vq28
      generalize vs 29 = vq29 at hK dq29 ⊢
      subst vq29
      go_wp2
      exact hK _ _ rfl (Mod.refl _ _)
    refine opsOkA_cons ?_ ?_
    · intro K vs W hR hD hK
      have dq28 : vs 28 = .bool true := hD 28 (by decide)
      have dq30 : vs 30 = .bool true := hD 30 (by decide)
      clear hD
      try dsimp only at hK ⊢
      simp only [Act.put, List.setIfInBounds_toArray, List.set_cons_succ, List.set_cons_zero] at hK
      generalize vs 28 = vq28 at hK dq28 ⊢
      subst vq28
      generalize vs 30 = vq30 at hK dq30 ⊢
      subst vq30
      go_wp2
      exact hK _ _ rfl (Mod.refl _ _)
    refine opsOkA_cons ?_ ?_
    · intro K vs W hR hD hK
      have dq31 : vs 31 = .bool true := hD 31 (by decide)
      clear hD
      try dsimp only at hK ⊢
      simp only [Act.put, List.setIfInBounds_toArray, List.set_cons_succ, List.set_cons_zero] at hK
      generalize vs 31 = vq31 at hK dq31 ⊢
      subst vq31
      go_wp2
      exact hK _ _ rfl (Mod.refl _ _)
    refine opsOkA_cons ?_ ?_
    · intro K vs W hR hD hK
      have dq32 : vs 32 = .bool true := hD 32 (by decide)
      clear hD
      try dsimp only at hK ⊢
      simp only [Act.put, List.setIfInBounds_toArray, List.set_cons_succ, List.set_cons_zero] at hK
      generalize vs 32 = vq32 at hK dq32 ⊢
      subst vq32
      go_wp2
      exact hK _ _ rfl (Mod.refl _ _)
    refine opsOkA_cons ?_ ?_
    · intro K vs W hR hD hK
      have dq32 : vs 32 = .bool true := hD 32 (by decide)
      have dq33 : vs 33 = .pointer (some ⟨t, 0, none⟩) := hD 33 (by decide)
      clear hD
      try dsimp only at hK ⊢
      simp only [Act.put, List.setIfInBounds_toArray, List.set_cons_succ, List.set_cons_zero] at hK
      generalize vs 32 = vq32 at hK dq32 ⊢
      subst vq32
      generalize vs 33 = vq33 at hK dq33 ⊢
      subst vq33
      go_wp2_with (go_at_call 43; refine (wvalid_any t p B C G W ((HSd.out.at (hR)).2.2.2.2.2.2.2.1) 0 _ 0 0 [] rfl (Rd.nil _ _) (by omega)).mono ?_; rintro e' w' ⟨rfl, hm'⟩; rw [VD.out])
      exact hK _ _ rfl hm'
    refine opsOkA_cons ?_ ?_
    · intro K vs W hR hD hK
      have dq32 : vs 32 = .bool true := hD 32 (by decide)
      have dq34 : vs 34 = .bool true := hD 34 (by decide)
      clear hD
      try dsimp only at hK ⊢
      simp only [Act.put, List.setIfInBounds_toArray, List.set_cons_succ, List.set_cons_zero] at hK
      generalize vs 32 = vq32 at hK dq32 ⊢
      subst vq32
      generalize vs 34 = vq34 at hK dq34 ⊢
      subst vq34
      go_wp2
      exact hK _ _ rfl (Mod.refl _ _)
    refine opsOkA_cons ?_ ?_
    · intro K vs W hR hD hK
      have dq35 : vs 35 = .bool true := hD 35 (by decide)
      clear hD
      try dsimp only at hK ⊢
      simp only [Act.put, List.setIfInBounds_toArray, List.set_cons_succ, List.set_cons_zero] at hK
      generalize vs 35 = vq35 at hK dq35 ⊢
      subst vq35
      go_wp2
      exact hK _ _ rfl (Mod.refl _ _)
    refine opsOkA_cons ?_ ?_
    · intro K vs W hR hD hK
      have dq36 : vs 36 = .bool true := hD 36 (by decide)
      clear hD
      try dsimp only at hK ⊢
      simp only [Act.put, List.setIfInBounds_toArray, List.set_cons_succ, List.set_cons_zero] at hK
      generalize vs 36 = vq36 at hK dq36 ⊢
      subst vq36
      go_wp2
      exact hK _ _ rfl (Mod.refl _ _)
    refine opsOkA_cons ?_ ?_
    · intro K vs W hR hD hK
      have dq36 : vs 36 = .bool true := hD 36 (by decide)
      have dq37 : vs 37 = .pointer (some ⟨t, 0, none⟩) := hD 37 (by decide)
      clear hD
      try dsimp only at hK ⊢
      simp only [Act.put, List.setIfInBounds_toArray, List.set_cons_succ, List.set_cons_zero] at hK
      generalize vs 36 = vq36 at hK dq36 ⊢
      subst vq36
      generalize vs 37 = vq37 at hK dq37 ⊢
      subst vq37
      go_wp2_with (go_at_call 43; refine (wvalid_any t p B C G W ((HSd.out.at (hR)).2.2.2.2.2.2.2.1) (-1) _ 0 0 [] rfl (Rd.nil _ _) (by omega)).mono ?_; rintro e' w' ⟨rfl, hm'⟩; rw [VDN.out])
      exact hK _ _ rfl hm'
    refine opsOkA_cons ?_ ?_
    · intro K vs W hR hD hK
      have dq36 : vs 36 = .bool true := hD 36 (by decide)
      have dq38 : vs 38 = .bool false := hD 38 (by decide)
      clear hD
      try dsimp only at hK ⊢
      simp only [Act.put, List.setIfInBounds_toArray, List.set_cons_succ, List.set_cons_zero] at hK
      generalize vs 36 = vq36 at hK dq36 ⊢
      subst vq36
      generalize vs 38 = vq38 at hK dq38 ⊢
      subst vq38
      go_wp2
      exact hK _ _ rfl (Mod.refl _ _)
    refine opsOkA_cons ?_ ?_
    · intro K vs W hR hD hK
      have dq36 : vs 36 = .bool true := hD 36 (by decide)
      have dq39 : vs 39 = .bool true := hD 39 (by decide)
      clear hD
      try dsimp only at hK ⊢
      simp only [Act.put, List.setIfInBounds_toArray, List.set_cons_succ, List.set_cons_zero] at hK
      generalize vs 36 = vq36 at hK dq36 ⊢
      subst vq36
      generalize vs 39 = vq39 at hK dq39 ⊢
      subst vq39
      go_wp2
      exact hK _ _ rfl (Mod.refl _ _)
    refine opsOkA_cons ?_ ?_
    · intro K vs W hR hD hK
      have dq40 : vs 40 = .bool true := hD 40 (by decide)
      clear hD
      try dsimp only at hK ⊢
      simp only [Act.put, List.setIfInBounds_toArray, List.set_cons_succ, List.set_cons_zero] at hK
      generalize vs 40 = vq40 at hK dq40 ⊢
      subst vq40
      go_wp2
      exact hK _ _ rfl (Mod.refl _ _)
    refine opsOkA_cons ?_ ?_
    · intro K vs W hR hD hK
      have dq41 : vs 41 = .bool true := hD 41 (by decide)
      clear hD
      try dsimp only at hK ⊢
      simp only [Act.put, List.setIfInBounds_toArray, List.set_cons_succ, List.set_cons_zero] at hK
      generalize vs 41 = vq41 at hK dq41 ⊢
      subst vq41
      go_wp2
      exact hK _ _ ⟨_, rfl, Rd.lit _ _ _ _ 2 rfl rfl (by decide)⟩ (Mod.alloc _ _ _)
    refine opsOkA_cons ?_ ?_
    · intro K vs W hR hD hK
      have dq41 : vs 41 = .bool true := hD 41 (by decide)
      clear hD
      try dsimp only at hK ⊢
      simp only [Act.put, List.setIfInBounds_toArray, List.set_cons_succ, List.set_cons_zero] at hK
      generalize vs 41 = vq41 at hK dq41 ⊢
      subst vq41
      go_wp2
      exact hK _ _ ⟨_, rfl, Rd.lit _ _ _ _ 2 rfl rfl (by decide)⟩ (Mod.alloc _ _ _)
    refine opsOkA_cons ?_ ?_
    · intro K vs W hR hD hK
      have dq41 : vs 41 = .bool true := hD 41 (by decide)
      have dq42 : (NewRow 2 [.int .i64 1, .int .i64 2]) (vs 42) W := hD 42 (by decide)
      have dq43 : (NewRow 2 [.int .i64 1, .int .i64 3]) (vs 43) W := hD 43 (by decide)
      clear hD
      try dsimp only at hK ⊢
      simp only [Act.put, List.setIfInBounds_toArray, List.set_cons_succ, List.set_cons_zero] at hK
      generalize vs 41 = vq41 at hK dq41 ⊢
      subst vq41
      generalize vs 42 = vq42 at hK dq42 ⊢
      generalize vs 43 = vq43 at hK dq43 ⊢
      obtain ⟨p42, rfl, hn42⟩ := dq42
      obtain ⟨p43, rfl, hn43⟩ := dq43
      go_wp2_with (go_at_call 45; refine (wcmp_any W _ 2 2 [1, 2] rfl hn42 (by omega) _ 2 2 [1, 3] rfl hn43 (by omega)).mono ?_; rintro e' w' ⟨rfl, hm'⟩; rw [show cmpL [1, 2] [1, 3] = -1 from by decide])
      exact hK _ _ rfl hm'
    refine opsOkA_cons ?_ ?_
    · intro K vs W hR hD hK
      have dq41 : vs 41 = .bool true := hD 41 (by decide)
      have dq44 : vs 44 = .int .i64 (-1) := hD 44 (by decide)
      clear hD
      try dsimp only at hK ⊢
      simp only [Act.put, List.setIfInBounds_toArray, List.set_cons_succ, List.set_cons_zero] at hK
      generalize vs 41 = vq41 at hK dq41 ⊢
      subst vq41
      generalize vs 44 = vq44 at hK dq44 ⊢
      subst vq44
      go_wp2
      exact hK _ _ rfl (Mod.refl _ _)
    refine opsOkA_cons ?_ ?_
    · intro K vs W hR hD hK
      have dq41 : vs 41 = .bool true := hD 41 (by decide)
      have dq45 : vs 45 = .bool true := hD 45 (by decide)
      clear hD
      try dsimp only at hK ⊢
      simp only [Act.put, List.setIfInBounds_toArray, List.set_cons_succ, List.set_cons_zero] at hK
      generalize vs 41 = vq41 at hK dq41 ⊢
      subst vq41
      generalize vs 45 = vq45 at hK dq45 ⊢
      subst vq45
      go_wp2
      exact hK _ _ rfl (Mod.refl _ _)
    refine opsOkA_cons ?_ ?_
    · intro K vs W hR hD hK
      have dq46 : vs 46 = .bool true := hD 46 (by decide)
      clear hD
      try dsimp only at hK ⊢
      simp only [Act.put, List.setIfInBounds_toArray, List.set_cons_succ, List.set_cons_zero] at hK
      generalize vs 46 = vq46 at hK dq46 ⊢
      subst vq46
      go_wp2
      exact hK _ _ rfl (Mod.refl _ _)
    refine opsOkA_cons ?_ ?_
    · intro K vs W hR hD hK
      have dq47 : vs 47 = .bool true := hD 47 (by decide)
      clear hD
      try dsimp only at hK ⊢
      simp only [Act.put, List.setIfInBounds_toArray, List.set_cons_succ, List.set_cons_zero] at hK
      generalize vs 47 = vq47 at hK dq47 ⊢
      subst vq47
      go_wp2
      exact hK _ _ ⟨_, rfl, Rd.lit _ _ _ _ 1 rfl rfl (by decide)⟩ (Mod.alloc _ _ _)
    refine opsOkA_cons ?_ ?_
    · intro K vs W hR hD hK
      have dq47 : vs 47 = .bool true := hD 47 (by decide)
      clear hD
      try dsimp only at hK ⊢
      simp only [Act.put, List.setIfInBounds_toArray, List.set_cons_succ, List.set_cons_zero] at hK
      generalize vs 47 = vq47 at hK dq47 ⊢
      subst vq47
      go_wp2
      exact hK _ _ ⟨_, rfl, Rd.lit _ _ _ _ 2 rfl rfl (by decide)⟩ (Mod.alloc _ _ _)
    refine opsOkA_cons ?_ ?_
    · intro K vs W hR hD hK
      have dq47 : vs 47 = .bool true := hD 47 (by decide)
      have dq48 : (NewRow 1 [.int .i64 1]) (vs 48) W := hD 48 (by decide)
      have dq49 : (NewRow 2 [.int .i64 1, .int .i64 0]) (vs 49) W := hD 49 (by decide)
      clear hD
      try dsimp only at hK ⊢
      simp only [Act.put, List.setIfInBounds_toArray, List.set_cons_succ, List.set_cons_zero] at hK
      generalize vs 47 = vq47 at hK dq47 ⊢
      subst vq47
      generalize vs 48 = vq48 at hK dq48 ⊢
      generalize vs 49 = vq49 at hK dq49 ⊢
      obtain ⟨p48, rfl, hn48⟩ := dq48
      obtain ⟨p49, rfl, hn49⟩ := dq49
      go_wp2_with (go_at_call 45; refine (wcmp_any W _ 1 1 [1] rfl hn48 (by omega) _ 2 2 [1, 0] rfl hn49 (by omega)).mono ?_; rintro e' w' ⟨rfl, hm'⟩; rw [show cmpL [1] [1, 0] = -1 from by decide])
      exact hK _ _ rfl hm'
    refine opsOkA_cons ?_ ?_
    · intro K vs W hR hD hK
      have dq47 : vs 47 = .bool true := hD 47 (by decide)
      have dq50 : vs 50 = .int .i64 (-1) := hD 50 (by decide)
      clear hD
      try dsimp only at hK ⊢
      simp only [Act.put, List.setIfInBounds_toArray, List.set_cons_succ, List.set_cons_zero] at hK
      generalize vs 47 = vq47 at hK dq47 ⊢
      subst vq47
      generalize vs 50 = vq50 at hK dq50 ⊢
      subst vq50
      go_wp2
      exact hK _ _ rfl (Mod.refl _ _)
    refine opsOkA_cons ?_ ?_
    · intro K vs W hR hD hK
      have dq47 : vs 47 = .bool true := hD 47 (by decide)
      have dq51 : vs 51 = .bool true := hD 51 (by decide)
      clear hD
      try dsimp only at hK ⊢
      simp only [Act.put, List.setIfInBounds_toArray, List.set_cons_succ, List.set_cons_zero] at hK
      generalize vs 47 = vq47 at hK dq47 ⊢
      subst vq47
      generalize vs 51 = vq51 at hK dq51 ⊢
      subst vq51
      go_wp2
      exact hK _ _ rfl (Mod.refl _ _)
    refine opsOkA_cons ?_ ?_
    · intro K vs W hR hD hK
      have dq52 : vs 52 = .bool true := hD 52 (by decide)
      clear hD
      try dsimp only at hK ⊢
      simp only [Act.put, List.setIfInBounds_toArray, List.set_cons_succ, List.set_cons_zero] at hK
      generalize vs 52 = vq52 at hK dq52 ⊢
      subst vq52
      go_wp2
      exact hK _ _ rfl (Mod.refl _ _)
    refine opsOkA_cons ?_ ?_
    · intro K vs W hR hD hK
      have dq53 : vs 53 = .bool true := hD 53 (by decide)
      clear hD
      try dsimp only at hK ⊢
      simp only [Act.put, List.setIfInBounds_toArray, List.set_cons_succ, List.set_cons_zero] at hK
      generalize vs 53 = vq53 at hK dq53 ⊢
      subst vq53
      go_wp2_with (go_at_call 45; refine (wcmp_any W _ 0 0 [] rfl (Rd.nil _ _) (by omega) _ 0 0 [] rfl (Rd.nil _ _) (by omega)).mono ?_; rintro e' w' ⟨rfl, hm'⟩; rw [show cmpL [] [] = 0 from by decide])
      exact hK _ _ rfl hm'
    refine opsOkA_cons ?_ ?_
    · intro K vs W hR hD hK
      have dq53 : vs 53 = .bool true := hD 53 (by decide)
      have dq54 : vs 54 = .int .i64 0 := hD 54 (by decide)
      clear hD
      try dsimp only at hK ⊢
      simp only [Act.put, List.setIfInBounds_toArray, List.set_cons_succ, List.set_cons_zero] at hK
      generalize vs 53 = vq53 at hK dq53 ⊢
      subst vq53
      generalize vs 54 = vq54 at hK dq54 ⊢
      subst vq54
      go_wp2
      exact hK _ _ rfl (Mod.refl _ _)
    refine opsOkA_cons ?_ ?_
    · intro K vs W hR hD hK
      have dq53 : vs 53 = .bool true := hD 53 (by decide)
      have dq55 : vs 55 = .bool true := hD 55 (by decide)
      clear hD
      try dsimp only at hK ⊢
      simp only [Act.put, List.setIfInBounds_toArray, List.set_cons_succ, List.set_cons_zero] at hK
      generalize vs 53 = vq53 at hK dq53 ⊢
      subst vq53
      generalize vs 55 = vq55 at hK dq55 ⊢
      subst vq55
      go_wp2
      exact hK _ _ rfl (Mod.refl _ _)
    refine opsOkA_cons ?_ ?_
    · intro K vs W hR hD hK
      have dq56 : vs 56 = .bool true := hD 56 (by decide)
      clear hD
      try dsimp only at hK ⊢
      simp only [Act.put, List.setIfInBounds_toArray, List.set_cons_succ, List.set_cons_zero] at hK
      generalize vs 56 = vq56 at hK dq56 ⊢
      subst vq56
      go_wp2
      exact hK _ _ rfl (Mod.refl _ _)
    exact opsOkA_nil
  · intro vs wq5 hR hF
    have dq57 : vs 57 = .bool true := hF 57 (by decide)
    clear hF
    try dsimp only
    generalize vs 57 = vq57 at dq57 ⊢
    subst dq57
    replace HS := Lib.hid (HSd.out.step hR)
    clear HSd hR
    have hbbg := (HS.out.now).2.2.2.2.2.2.1
    have qbg_0 := hbbg.cell 0 rfl
    have qbg_1 := hbbg.cell 1 rfl
    have qbg_2 := hbbg.cell 2 rfl
    have lbg := hbbg.lt
    clear hbbg
    go_wp2_with fail
    go_ret
    exact ⟨rfl, (HS.out.now).2.2.2.2.2.2.2.2.2⟩
end Go.Proofs.Ytmpcpmgpnccphaa
