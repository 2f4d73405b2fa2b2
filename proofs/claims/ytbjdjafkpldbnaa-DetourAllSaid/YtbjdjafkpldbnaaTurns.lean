/- Package turns by contract: New, edge, Next, Prev, May. -/
import Derived.Test.YtbjdjafkpldbnaaTurnP
import Derived.Test.YtbjdjafkpldbnaaDel
import Derived.Test.YtbjdjafkpldbnaaLawGR
import Derived.Test.YtbjdjafkpldbnaaBan
import Derived.Test.YtbjdjafkpldbnaaRegion2
import Derived.Deep.DeepCutAuto
import Derived.Deep.CutBlock
namespace Go.Proofs.Ytbjdjafkpldbnaa
open Go.RowKit Mile
set_option maxRecDepth 100000
/-- Turns at block t, of a graph that stands for G at block p. -/
structure TO (w : World) (t p B C : Nat) (G : GD) : Prop where
  blk : Blk w t 54 [.pointer (some ⟨p, 0, none⟩)]
  go : GO w p B C G
theorem TO.keep {w w' : World} {t p B C : Nat} {G : GD} (h : TO w t p B C G) (hm : Mod (fun _ => False) w w') : TO w' t p B C G := ⟨h.blk.keep hm (fun e => e), h.go.keep hm (fun _ _ _ e => e)⟩
theorem Ev.to {w : World} {t p B C : Nat} {G : GD} (h : TO w t p B C G) : Ev (fun W => TO W t p B C G) w := fun _ m => h.keep m
theorem tnew_any (p B C : Nat) (G : GD) (w : World) (h : GO w p B C G) :
    Calls Try.prog 21 #[.pointer (some ⟨p, 0, none⟩)] w fun e w' => ∃ t, e = .returned (.pointer (some ⟨t, 0, none⟩)) ∧ w.heap.size ≤ t ∧ TO w' t p B C G ∧ Mod (fun _ => False) w w' := by
  go_enter Try.func21, Try.ntmps21
  go_wp2_with fail
  go_ret
  exact ⟨w.heap.size, rfl, Nat.le_refl _, ⟨Blk.new w 54 _, h.keep (Mod.alloc _ _ _) (fun _ _ _ e => e)⟩, Mod.alloc _ _ _⟩
theorem tnew_nil (w : World) : Calls Try.prog 21 #[.pointer none] w fun e w' => e = .returned (.pointer none) ∧ w = w' := by
  go_enter Try.func21, Try.ntmps21
  go_wp2_with fail
  go_ret
  exact ⟨rfl, rfl⟩
def TEdgeP (G : GD) (i : Int) (w : World) (e : Ending) (w' : World) : Prop := EdgeP G i w e w'

set_option maxHeartbeats 2000000 in
theorem tedge_any (t p B C : Nat) (G : GD) (w : World) (h : TO w t p B C G) (v : Int) :
    Calls Try.prog 66 #[.pointer (some ⟨t, 0, none⟩), .int .i64 v] w (EdgeP G v w) := by
  have hA := h.keep (Mod.alloc (fun _ => False) w (.cells #[.int .i64 0, .int .i64 0, .int .i64 0] 43))
  obtain ⟨q, hq⟩ : ∃ q, w.heap.size = q := ⟨_, rfl⟩
  have hs : Blk (w.alloc (.cells #[.int .i64 0, .int .i64 0, .int .i64 0] 43)) q 43 [.int .i64 0, .int .i64 0, .int .i64 0] := by rw [← hq]; exact Blk.new w 43 [.int .i64 0, .int .i64 0, .int .i64 0]
  have c0 := hA.blk.cell 0 rfl
  have HA := Lib.hid hA
  have HS := Lib.hid hs
  clear hA hs
  go_enter Try.func66, Try.ntmps66
  go_wp2_with fail
  refine (edge_any p B C _ G HA.out.go v).mono ?_
  rintro e w1 ⟨rfl, hm⟩
  have hb := HS.out.keep hm (fun e => e)
  have k0 := hb.cell 0 rfl
  have k1 := hb.cell 1 rfl
  have k2 := hb.cell 2 rfl
  have f0 := hb.free 0
  have f1 := hb.free 1
  have f2 := hb.free 2
  have lq := hb.lt
  obtain ⟨x, hx⟩ : ∃ x, (if 0 ≤ v ∧ v < (G.E.length : Int) then eAt G v else (0, 0, 0)).1 = x := ⟨_, rfl⟩
  obtain ⟨y, hy⟩ : ∃ x, (if 0 ≤ v ∧ v < (G.E.length : Int) then eAt G v else (0, 0, 0)).2.1 = x := ⟨_, rfl⟩
  obtain ⟨z, hz⟩ : ∃ x, (if 0 ≤ v ∧ v < (G.E.length : Int) then eAt G v else (0, 0, 0)).2.2 = x := ⟨_, rfl⟩
  obtain ⟨b, hbb⟩ : ∃ b, decide (0 ≤ v ∧ v < (G.E.length : Int)) = b := ⟨_, rfl⟩
  have HM : Hid (Mod (fun _ => False) (w.alloc (.cells #[.int .i64 0, .int .i64 0, .int .i64 0] 43)) w1) := Lib.hid hm
  rw [hx, hy, hz, hbb]
  try rw [hq]
  have HX := Lib.hid hx
  have HY := Lib.hid hy
  have HZ := Lib.hid hz
  have HBB := Lib.hid hbb
  have HQ := Lib.hid hq
  have HB := Lib.hid hb
  clear hm hx hy hz hbb hb c0 hq
  go_wp2_with fail
  have b2 := ((HB.out.set 0 (.int .i64 x)).set 1 (.int .i64 y)).set 2 (.int .i64 z)
  (try simp only [Exit.inBlock, Exit.then])
  refine bodyPost_ret (results_row_tmp rfl _ _ q 43 #[.int .i64 x, .int .i64 y, .int .i64 z] (0, 0) _ rfl b2 Try.underlying43 rfl (by kernel_rfl)) rfl ?_
  refine ⟨by rw [HX.out, HY.out, HZ.out, HBB.out]; rfl, ?_⟩
  have m1 : Mod (fun _ => False) w w1 := (Mod.alloc (fun _ => False) w _).of2 HM.out
  exact ((m1.thenSet _ _ (fun e => by have := HQ.out; simp only at e; omega)).thenSet _ _ (fun e => by have := HQ.out; simp only at e; omega)).thenSet _ _ (fun e => by have := HQ.out; simp only at e; omega)
/-- What each operation of the statement leaves. -/
def tcnext_r1_0_F (t p _ _ : Nat) (ed x : Int) (bb : Bool) : List (Value → World → Prop) :=
  [IsV (.pointer (some ⟨t, 0, none⟩)),
   IsV (.pointer (some ⟨t, 0, none⟩)),
   IsV (.pointer (some ⟨t, 0, none⟩)),
   IsV (.pointer (some ⟨p, 0, none⟩)),
   IsV (.int .i64 ed),
   IsV (.int .i64 x),
   IsV (.bool bb),
   IsV (.bool bb)]
def tcnext_r1_0_D : List (List Nat) := [[], [0], [1], [2], [], [], [3, 4, 5], [6]]

set_option maxHeartbeats 4000000 in
theorem next_clos (t p B C b2 b3 : Nat) (G : GD) (ed x : Int) (w : World) (h : TO w t p B C G) (h2 : Blk w b2 29 [.pointer (some ⟨t, 0, none⟩)]) (h3 : Blk w b3 3 [.int .i64 ed]) :
    Calls Try.prog 69 #[.int .i64 x, .pointer (some ⟨b2, 0, none⟩), .pointer (some ⟨b3, 0, none⟩)] w fun e w' => e = .returned (.bool (decide ((ed, x) ∈ G.B))) ∧ Mod (fun _ => False) w w' := by
  have HS : Hid (Ev (Mod (fun _ => False) w) w) := Lib.hid (Ev.mod w)
  replace HS := Lib.hid ((Ev.to h).and HS.out)
  replace HS := Lib.hid ((Ev.blk h2).and HS.out)
  replace HS := Lib.hid ((Ev.blk h3).and HS.out)
  obtain ⟨bb, hbb⟩ : ∃ b, decide ((ed, x) ∈ G.B) = b := ⟨_, rfl⟩
  rw [hbb]
  have HBB := Lib.hid hbb
  clear hbb
  go_enter Try.func69, Try.ntmps69
  go_upto_region 1 with fail
  have HSd := Lib.hid HS.out.drew
  refine wp_region_inv3 (act := ?acttcnext_r1_0) (Mod (fun _ => False)) (fun i => (tcnext_r1_0_F t p b2 b3 ed x bb).getD i (fun _ _ => True)) (fun i => tcnext_r1_0_D.getD i []) (by kernel_rfl) (by kernel_rfl) (by kernel_rfl) (by kernel_rfl) (fun _ => Mod.refl _ _)
    (fun _ _ _ h k => h.trans k (fun _ _ e => e) (fun _ _ e => e)) ?hacttcnext_r1_0 (stable_list ?_) ?_ ?_
  case hacttcnext_r1_0 => intro vs; simp only [putAll, Nat.zero_add, Nat.reduceAdd, Act.put, List.setIfInBounds_toArray, List.set_cons_succ, List.set_cons_zero]; exact rfl
  · unfold tcnext_r1_0_F
    exact stable_cons (stable_val _) <| stable_cons (stable_val _) <| stable_cons (stable_val _) <| stable_cons (stable_val _) <| stable_cons (stable_val _) <| stable_cons (stable_val _) <| stable_cons (stable_val _) <| stable_cons (stable_val _) <| stable_nil
  · refine opsOkA_cons ?_ ?_
    · intro K vs W hR hD hK
      clear hD
      try dsimp only at hK ⊢
      simp only [Act.put, List.setIfInBounds_toArray, List.set_cons_succ, List.set_cons_zero] at hK
      have q0 := ((HSd.out.at (hR)).2.1).cell 0 rfl
      go_wp2
      exact hK _ _ rfl (Mod.refl _ _)
    refine opsOkA_cons ?_ ?_
    · intro K vs W hR hD hK
      have dq0 : vs 0 = .pointer (some ⟨t, 0, none⟩) := hD 0 (by decide)
      clear hD
      try dsimp only at hK ⊢
      simp only [Act.put, List.setIfInBounds_toArray, List.set_cons_succ, List.set_cons_zero] at hK
      generalize vs 0 = vq0 at hK dq0 ⊢
      subst vq0
      go_wp2
      exact hK _ _ rfl (Mod.refl _ _)
    refine opsOkA_cons ?_ ?_
    · intro K vs W hR hD hK
      have dq1 : vs 1 = .pointer (some ⟨t, 0, none⟩) := hD 1 (by decide)
      clear hD
      try dsimp only at hK ⊢
      simp only [Act.put, List.setIfInBounds_toArray, List.set_cons_succ, List.set_cons_zero] at hK
      generalize vs 1 = vq1 at hK dq1 ⊢
      subst vq1
      go_wp2
      exact hK _ _ rfl (Mod.refl _ _)
    refine opsOkA_cons ?_ ?_
    · intro K vs W hR hD hK
      have dq2 : vs 2 = .pointer (some ⟨t, 0, none⟩) := hD 2 (by decide)
      clear hD
      try dsimp only at hK ⊢
      simp only [Act.put, List.setIfInBounds_toArray, List.set_cons_succ, List.set_cons_zero] at hK
      generalize vs 2 = vq2 at hK dq2 ⊢
      subst vq2
      have q0 := ((HSd.out.at (hR)).2.2.1).blk.cell 0 rfl
      go_wp2
      exact hK _ _ rfl (Mod.refl _ _)
    refine opsOkA_cons ?_ ?_
    · intro K vs W hR hD hK
      clear hD
      try dsimp only at hK ⊢
      simp only [Act.put, List.setIfInBounds_toArray, List.set_cons_succ, List.set_cons_zero] at hK
      have q0 := ((HSd.out.at (hR)).1).cell 0 rfl
      go_wp2
      exact hK _ _ rfl (Mod.refl _ _)
    refine opsOkA_cons ?_ ?_
    · intro K vs W hR hD hK
      clear hD
      try dsimp only at hK ⊢
      simp only [Act.put, List.setIfInBounds_toArray, List.set_cons_succ, List.set_cons_zero] at hK
      go_wp2
      exact hK _ _ rfl (Mod.refl _ _)
    refine opsOkA_cons ?_ ?_
    · intro K vs W hR hD hK
      have dq3 : vs 3 = .pointer (some ⟨p, 0, none⟩) := hD 3 (by decide)
      have dq4 : vs 4 = .int .i64 ed := hD 4 (by decide)
      have dq5 : vs 5 = .int .i64 x := hD 5 (by decide)
      clear hD
      try dsimp only at hK ⊢
      simp only [Act.put, List.setIfInBounds_toArray, List.set_cons_succ, List.set_cons_zero] at hK
      generalize vs 3 = vq3 at hK dq3 ⊢
      subst vq3
      generalize vs 4 = vq4 at hK dq4 ⊢
      subst vq4
      generalize vs 5 = vq5 at hK dq5 ⊢
      subst vq5
      go_wp2_with (go_at_call 70; refine (banned_any p B C W G ((HSd.out.at (hR)).2.2.1).go ed x).mono ?_; rintro e' w' ⟨rfl, hm'⟩; rw [HBB.out])
      exact hK _ _ rfl hm'
    refine opsOkA_cons ?_ ?_
    · intro K vs W hR hD hK
      have dq6 : vs 6 = .bool bb := hD 6 (by decide)
      clear hD
      try dsimp only at hK ⊢
      simp only [Act.put, List.setIfInBounds_toArray, List.set_cons_succ, List.set_cons_zero] at hK
      generalize vs 6 = vq6 at hK dq6 ⊢
      subst vq6
      go_wp2
      exact hK _ _ rfl (Mod.refl _ _)
    exact opsOkA_nil
  · intro vs wq1 hR hF
    have dq7 : vs 7 = .bool bb := hF 7 (by decide)
    clear hF
    try dsimp only
    generalize vs 7 = vq7 at dq7 ⊢
    subst dq7
    replace HS := Lib.hid (HSd.out.step hR)
    clear HSd hR
    go_wp2_with fail
    go_ret
    exact ⟨rfl, (HS.out.now).2.2.2⟩
/-- What each operation of the statement leaves. -/
def tcprev_r1_0_F (t p _ _ : Nat) (ed x : Int) (bb : Bool) : List (Value → World → Prop) :=
  [IsV (.pointer (some ⟨t, 0, none⟩)),
   IsV (.pointer (some ⟨t, 0, none⟩)),
   IsV (.pointer (some ⟨t, 0, none⟩)),
   IsV (.pointer (some ⟨p, 0, none⟩)),
   IsV (.int .i64 x),
   IsV (.int .i64 ed),
   IsV (.bool bb),
   IsV (.bool bb)]
def tcprev_r1_0_D : List (List Nat) := [[], [0], [1], [2], [], [], [3, 4, 5], [6]]

set_option maxHeartbeats 4000000 in
theorem prev_clos (t p B C b2 b3 : Nat) (G : GD) (ed x : Int) (w : World) (h : TO w t p B C G) (h2 : Blk w b2 29 [.pointer (some ⟨t, 0, none⟩)]) (h3 : Blk w b3 3 [.int .i64 ed]) :
    Calls Try.prog 72 #[.int .i64 x, .pointer (some ⟨b2, 0, none⟩), .pointer (some ⟨b3, 0, none⟩)] w fun e w' => e = .returned (.bool (decide ((x, ed) ∈ G.B))) ∧ Mod (fun _ => False) w w' := by
  have HS : Hid (Ev (Mod (fun _ => False) w) w) := Lib.hid (Ev.mod w)
  replace HS := Lib.hid ((Ev.to h).and HS.out)
  replace HS := Lib.hid ((Ev.blk h2).and HS.out)
  replace HS := Lib.hid ((Ev.blk h3).and HS.out)
  obtain ⟨bb, hbb⟩ : ∃ b, decide ((x, ed) ∈ G.B) = b := ⟨_, rfl⟩
  rw [hbb]
  have HBB := Lib.hid hbb
  clear hbb
  go_enter Try.func72, Try.ntmps72
  go_upto_region 1 with fail
  have HSd := Lib.hid HS.out.drew
  refine wp_region_inv3 (act := ?acttcprev_r1_0) (Mod (fun _ => False)) (fun i => (tcprev_r1_0_F t p b2 b3 ed x bb).getD i (fun _ _ => True)) (fun i => tcprev_r1_0_D.getD i []) (by kernel_rfl) (by kernel_rfl) (by kernel_rfl) (by kernel_rfl) (fun _ => Mod.refl _ _)
    (fun _ _ _ h k => h.trans k (fun _ _ e => e) (fun _ _ e => e)) ?hacttcprev_r1_0 (stable_list ?_) ?_ ?_
  case hacttcprev_r1_0 => intro vs; simp only [putAll, Nat.zero_add, Nat.reduceAdd, Act.put, List.setIfInBounds_toArray, List.set_cons_succ, List.set_cons_zero]; exact rfl
  · unfold tcprev_r1_0_F
    exact stable_cons (stable_val _) <| stable_cons (stable_val _) <| stable_cons (stable_val _) <| stable_cons (stable_val _) <| stable_cons (stable_val _) <| stable_cons (stable_val _) <| stable_cons (stable_val _) <| stable_cons (stable_val _) <| stable_nil
  · refine opsOkA_cons ?_ ?_
    · intro K vs W hR hD hK
      clear hD
      try dsimp only at hK ⊢
      simp only [Act.put, List.setIfInBounds_toArray, List.set_cons_succ, List.set_cons_zero] at hK
      have q0 := ((HSd.out.at (hR)).2.1).cell 0 rfl
      go_wp2
      exact hK _ _ rfl (Mod.refl _ _)
    refine opsOkA_cons ?_ ?_
    · intro K vs W hR hD hK
      have dq0 : vs 0 = .pointer (some ⟨t, 0, none⟩) := hD 0 (by decide)
      clear hD
      try dsimp only at hK ⊢
      simp only [Act.put, List.setIfInBounds_toArray, List.set_cons_succ, List.set_cons_zero] at hK
      generalize vs 0 = vq0 at hK dq0 ⊢
      subst vq0
      go_wp2
      exact hK _ _ rfl (Mod.refl _ _)
    refine opsOkA_cons ?_ ?_
    · intro K vs W hR hD hK
      have dq1 : vs 1 = .pointer (some ⟨t, 0, none⟩) := hD 1 (by decide)
      clear hD
      try dsimp only at hK ⊢
      simp only [Act.put, List.setIfInBounds_toArray, List.set_cons_succ, List.set_cons_zero] at hK
      generalize vs 1 = vq1 at hK dq1 ⊢
      subst vq1
      go_wp2
      exact hK _ _ rfl (Mod.refl _ _)
    refine opsOkA_cons ?_ ?_
    · intro K vs W hR hD hK
      have dq2 : vs 2 = .pointer (some ⟨t, 0, none⟩) := hD 2 (by decide)
      clear hD
      try dsimp only at hK ⊢
      simp only [Act.put, List.setIfInBounds_toArray, List.set_cons_succ, List.set_cons_zero] at hK
      generalize vs 2 = vq2 at hK dq2 ⊢
      subst vq2
      have q0 := ((HSd.out.at (hR)).2.2.1).blk.cell 0 rfl
      go_wp2
      exact hK _ _ rfl (Mod.refl _ _)
    refine opsOkA_cons ?_ ?_
    · intro K vs W hR hD hK
      clear hD
      try dsimp only at hK ⊢
      simp only [Act.put, List.setIfInBounds_toArray, List.set_cons_succ, List.set_cons_zero] at hK
      go_wp2
      exact hK _ _ rfl (Mod.refl _ _)
    refine opsOkA_cons ?_ ?_
    · intro K vs W hR hD hK
      clear hD
      try dsimp only at hK ⊢
      simp only [Act.put, List.setIfInBounds_toArray, List.set_cons_succ, List.set_cons_zero] at hK
      have q0 := ((HSd.out.at (hR)).1).cell 0 rfl
      go_wp2
      exact hK _ _ rfl (Mod.refl _ _)
    refine opsOkA_cons ?_ ?_
    · intro K vs W hR hD hK
      have dq3 : vs 3 = .pointer (some ⟨p, 0, none⟩) := hD 3 (by decide)
      have dq4 : vs 4 = .int .i64 x := hD 4 (by decide)
      have dq5 : vs 5 = .int .i64 ed := hD 5 (by decide)
      clear hD
      try dsimp only at hK ⊢
      simp only [Act.put, List.setIfInBounds_toArray, List.set_cons_succ, List.set_cons_zero] at hK
      generalize vs 3 = vq3 at hK dq3 ⊢
      subst vq3
      generalize vs 4 = vq4 at hK dq4 ⊢
      subst vq4
      generalize vs 5 = vq5 at hK dq5 ⊢
      subst vq5
      go_wp2_with (go_at_call 70; refine (banned_any p B C W G ((HSd.out.at (hR)).2.2.1).go x ed).mono ?_; rintro e' w' ⟨rfl, hm'⟩; rw [HBB.out])
      exact hK _ _ rfl hm'
    refine opsOkA_cons ?_ ?_
    · intro K vs W hR hD hK
      have dq6 : vs 6 = .bool bb := hD 6 (by decide)
      clear hD
      try dsimp only at hK ⊢
      simp only [Act.put, List.setIfInBounds_toArray, List.set_cons_succ, List.set_cons_zero] at hK
      generalize vs 6 = vq6 at hK dq6 ⊢
      subst vq6
      go_wp2
      exact hK _ _ rfl (Mod.refl _ _)
    exact opsOkA_nil
  · intro vs wq1 hR hF
    have dq7 : vs 7 = .bool bb := hF 7 (by decide)
    clear hF
    try dsimp only
    generalize vs 7 = vq7 at dq7 ⊢
    subst dq7
    replace HS := Lib.hid (HSd.out.step hR)
    clear HSd hR
    go_wp2_with fail
    go_ret
    exact ⟨rfl, (HS.out.now).2.2.2⟩

/-- A row of numbers in blocks from B on. -/
def NRow (B : Nat) (xs : List Int) : Value → World → Prop := fun v W => IRow xs v W ∧ ∀ k, v.ownBlock = some k → B ≤ k
theorem NRow.st (B : Nat) (xs : List Int) : Stable (Mod (fun _ => False)) (NRow B xs) := fun v w w' ⟨h, k⟩ hm => ⟨IRow.st xs v w w' h hm, k⟩
/-- A row of numbers of the call's own in blocks from B0 on. -/
def OwnI (B0 : Nat) (xs : List Int) : Value → World → Prop := fun v W => ∃ a c, v = .slice a xs.length c ∧ W.ownsRow B0 3 1 (.slice a xs.length c) xs.length (xs.map (Value.int .i64))
theorem OwnI.st {B0 : Nat} {xs : List Int} : ∀ v w w', OwnI B0 xs v w → Mod (fun _ => False) w w' → OwnI B0 xs v w' := fun _ _ _ ⟨a, c, h, o⟩ m => ⟨a, c, h, Own.keep o m (fun _ _ e => e)⟩
theorem out_ownI (p B C : Nat) (w : World) (G : GD) (h : GO w p B C G) (v : Int) :
    Calls Try.prog 68 #[.pointer (some ⟨p, 0, none⟩), .int .i64 v] w fun e w' => ∃ x, e = .returned x ∧ (∀ {B0 : Nat}, B0 ≤ w.heap.size → OwnI B0 (gOut G v) x w') ∧ Mod (fun _ => False) w w' :=
  (out_any p B C w G h v).mono fun _ _ ⟨a, c, he, ho, hm⟩ => by
    by_cases hc : 0 ≤ v ∧ v < (G.N.length : Int)
    · simp only [if_pos hc] at he ho
      exact ⟨_, he, fun hB => ⟨a, c, by unfold gOut; rw [if_pos hc], by unfold gOut; rw [if_pos hc]; exact Own.base ho hB⟩, hm⟩
    · simp only [if_neg hc] at he ho
      exact ⟨_, he, fun hB => ⟨a, c, by unfold gOut; rw [if_neg hc]; rfl, by unfold gOut; rw [if_neg hc]; exact Own.base ho hB⟩, hm⟩
theorem in_ownI (p B C : Nat) (w : World) (G : GD) (h : GO w p B C G) (v : Int) :
    Calls Try.prog 26 #[.pointer (some ⟨p, 0, none⟩), .int .i64 v] w fun e w' => ∃ x, e = .returned x ∧ (∀ {B0 : Nat}, B0 ≤ w.heap.size → OwnI B0 (gIn G v) x w') ∧ Mod (fun _ => False) w w' :=
  (in_any p B C w G h v).mono fun _ _ ⟨a, c, he, ho, hm⟩ => by
    by_cases hc : 0 ≤ v ∧ v < (G.N.length : Int)
    · simp only [if_pos hc] at he ho
      exact ⟨_, he, fun hB => ⟨a, c, by unfold gIn; rw [if_pos hc], by unfold gIn; rw [if_pos hc]; exact Own.base ho hB⟩, hm⟩
    · simp only [if_neg hc] at he ho
      exact ⟨_, he, fun hB => ⟨a, c, by unfold gIn; rw [if_neg hc]; rfl, by unfold gIn; rw [if_neg hc]; exact Own.base ho hB⟩, hm⟩
/-- What each operation of the statement leaves. -/
def tnext_r4_0_F (B0 t p b2 b3 b5 : Nat) (ed _ uy _ : Int) (G : GD) : List (Bool × (Value → World → Prop)) :=
  [(true, IsV (.pointer (some ⟨t, 0, none⟩))),
   (true, IsV (.pointer (some ⟨t, 0, none⟩))),
   (true, IsV (.pointer (some ⟨t, 0, none⟩))),
   (true, IsV (.pointer (some ⟨p, 0, none⟩))),
   (true, IsV (.pointer (some ⟨b5, 1, none⟩))),
   (true, IsV (.int .i64 uy)),
   (false, OwnI B0 (gOut G uy)),
   (true, IsV (.func (.func 69) #[] #[.pointer (some ⟨b2, 0, none⟩), .pointer (some ⟨b3, 0, none⟩)])),
   (false, NRow B0 (kept (fun b => decide ((ed, b) ∈ G.B)) (gOut G uy)))]
def tnext_r4_0_D : List (List Nat) := [[], [0], [1], [2], [], [4], [3, 5], [], [6, 7]]
def tnext_r4_0_C : List Nat := [1000, 1000, 1000, 1000, 1000, 1000, 8, 1000, 1000]

set_option maxHeartbeats 16000000 in
theorem next_new (t p B C : Nat) (G : GD) (w : World) (h : TO w t p B C G) (ed : Int) :
    Calls Try.prog 45 #[.pointer (some ⟨t, 0, none⟩), .int .i64 ed] w fun e w' => ∃ v, e = .returned v ∧ NRow w.heap.size (nxtR G ed) v w' ∧ Mod (fun _ => False) w w' := by
  have HS : Hid (Ev (Mod (fun _ => False) w) w) := Lib.hid (Ev.mod w)
  replace HS := Lib.hid ((Ev.to h).and HS.out)
  obtain ⟨ux, hx⟩ : ∃ x, (eAt G ed).1 = x := ⟨_, rfl⟩
  obtain ⟨uy, hy⟩ : ∃ x, (eAt G ed).2.1 = x := ⟨_, rfl⟩
  obtain ⟨uz, hz⟩ : ∃ x, (eAt G ed).2.2 = x := ⟨_, rfl⟩
  have HX := Lib.hid hx
  have HY := Lib.hid hy
  have HZ := Lib.hid hz
  clear hx hy hz
  have hmay := Lib.hid h.go.may
  have h1e := h.go.may.1.2.1
  by_cases he : 0 ≤ ed ∧ ed < (G.E.length : Int)
  case neg =>
    rw [nxtR_no G ed he]
    have HE := Lib.hid he
    clear he
    go_enter Try.func45, Try.ntmps45
    go_upto_region 1 with fail
    obtain ⟨b2, hb2⟩ : ∃ b, w.heap.size = b := ⟨_, rfl⟩
    obtain ⟨wq1, hwq1⟩ : ∃ W, World.alloc w (.cells #[.pointer (some ⟨t, 0, none⟩)] 29) = W := ⟨_, rfl⟩
    have hBb2 : Blk wq1 b2 29 [.pointer (some ⟨t, 0, none⟩)] := by rw [← hwq1, ← hb2]; exact Blk.new _ 29 [.pointer (some ⟨t, 0, none⟩)]
    have hzb2 : wq1.heap.size = b2 + 1 := by rw [← hwq1, ← hb2]; exact heap_size_alloc _ _
    replace HS := Lib.hid (HS.out.step (w' := wq1) (by rw [← hwq1]; exact Mod.alloc _ _ _))
    replace HS := Lib.hid ((Ev.blk hBb2).and HS.out)
    obtain ⟨b3, hb3⟩ : ∃ b, b2 + 1 = b := ⟨_, rfl⟩
    obtain ⟨wq2, hwq2⟩ : ∃ W, World.alloc wq1 (.cells #[.int .i64 ed] 3) = W := ⟨_, rfl⟩
    have hBb3 : Blk wq2 b3 3 [.int .i64 ed] := by rw [← hwq2, ← hb3, ← hzb2]; exact Blk.new _ 3 [.int .i64 ed]
    have hzb3 : wq2.heap.size = b3 + 1 := by rw [← hwq2, ← hb3, ← hzb2]; exact heap_size_alloc _ _
    replace HS := Lib.hid (HS.out.step (w' := wq2) (by rw [← hwq2]; exact Mod.alloc _ _ _))
    replace HS := Lib.hid ((Ev.blk hBb3).and HS.out)
    try rw [hwq1]
    try rw [hb2]
    try rw [hwq2]
    try rw [hb3]
    clear hzb3 hBb3 hb3 hwq2 hzb2 hBb2 hb2 hwq1
    have hbb2 := (HS.out.now).2.1
    have qb2_0 := hbb2.cell 0 rfl
    have lb2 := hbb2.lt
    clear hbb2
    have hbb3 := (HS.out.now).1
    have qb3_0 := hbb3.cell 0 rfl
    have lb3 := hbb3.lt
    clear hbb3
    go_wp2_with fail
    refine (tedge_any t p B C G _ ((HS.out.now).2.2.1) ed).mono ?_
    rintro e wq3 ⟨rfl, hmm⟩
    replace HS := Lib.hid (HS.out.step hmm)
    clear hmm
    clear qb2_0 lb2 qb3_0 lb3
    have hbb2 := (HS.out.now).2.1
    have qb2_0 := hbb2.cell 0 rfl
    have lb2 := hbb2.lt
    clear hbb2
    have hbb3 := (HS.out.now).1
    have qb3_0 := hbb3.cell 0 rfl
    have lb3 := hbb3.lt
    clear hbb3
    rw [if_neg HE.out, decide_eq_false HE.out]
    go_wp2_with fail
    go_ret
    exact ⟨_, rfl, ⟨⟨none, 0, rfl, Rd.nil _ _⟩, fun k hk => by cases hk⟩, ((HS.out.now).2.2.2).thenAlloc _⟩
  rw [← nxt_of G hmay.out ed he]
  rw [HY.out]
  have HE := Lib.hid he
  clear he
  go_enter Try.func45, Try.ntmps45
  go_upto_region 1 with fail
  obtain ⟨b2, hb2⟩ : ∃ b, w.heap.size = b := ⟨_, rfl⟩
  obtain ⟨wq4, hwq4⟩ : ∃ W, World.alloc w (.cells #[.pointer (some ⟨t, 0, none⟩)] 29) = W := ⟨_, rfl⟩
  have hBb2 : Blk wq4 b2 29 [.pointer (some ⟨t, 0, none⟩)] := by rw [← hwq4, ← hb2]; exact Blk.new _ 29 [.pointer (some ⟨t, 0, none⟩)]
  have hzb2 : wq4.heap.size = b2 + 1 := by rw [← hwq4, ← hb2]; exact heap_size_alloc _ _
  replace HS := Lib.hid (HS.out.step (w' := wq4) (by rw [← hwq4]; exact Mod.alloc _ _ _))
  replace HS := Lib.hid ((Ev.blk hBb2).and HS.out)
  obtain ⟨b3, hb3⟩ : ∃ b, b2 + 1 = b := ⟨_, rfl⟩
  obtain ⟨wq5, hwq5⟩ : ∃ W, World.alloc wq4 (.cells #[.int .i64 ed] 3) = W := ⟨_, rfl⟩
  have hBb3 : Blk wq5 b3 3 [.int .i64 ed] := by rw [← hwq5, ← hb3, ← hzb2]; exact Blk.new _ 3 [.int .i64 ed]
  have hzb3 : wq5.heap.size = b3 + 1 := by rw [← hwq5, ← hb3, ← hzb2]; exact heap_size_alloc _ _
  replace HS := Lib.hid (HS.out.step (w' := wq5) (by rw [← hwq5]; exact Mod.alloc _ _ _))
  replace HS := Lib.hid ((Ev.blk hBb3).and HS.out)
  try rw [hwq4]
  try rw [hb2]
  try rw [hwq5]
  try rw [hb3]
  clear hzb3 hBb3 hb3 hwq5 hzb2 hBb2 hb2 hwq4
  have hbb2 := (HS.out.now).2.1
  have qb2_0 := hbb2.cell 0 rfl
  have lb2 := hbb2.lt
  clear hbb2
  have hbb3 := (HS.out.now).1
  have qb3_0 := hbb3.cell 0 rfl
  have lb3 := hbb3.lt
  clear hbb3
  go_wp2_with fail
  refine (tedge_any t p B C G _ ((HS.out.now).2.2.1) ed).mono ?_
  rintro e wq6 ⟨rfl, hmm⟩
  replace HS := Lib.hid (HS.out.step hmm)
  clear hmm
  clear qb2_0 lb2 qb3_0 lb3
  have hbb2 := (HS.out.now).2.1
  have qb2_0 := hbb2.cell 0 rfl
  have lb2 := hbb2.lt
  clear hbb2
  have hbb3 := (HS.out.now).1
  have qb3_0 := hbb3.cell 0 rfl
  have lb3 := hbb3.lt
  clear hbb3
  rw [if_pos HE.out, decide_eq_true HE.out, HX.out, HY.out, HZ.out]
  go_upto_region 4 with fail
  clear qb2_0 lb2 qb3_0 lb3
  obtain ⟨b5, hb5⟩ : ∃ b, wq6.heap.size = b := ⟨_, rfl⟩
  obtain ⟨wq7, hwq7⟩ : ∃ W, World.alloc wq6 (.cells #[.int .i64 ux, .int .i64 uy, .int .i64 uz] 43) = W := ⟨_, rfl⟩
  have hBb5 : Blk wq7 b5 43 [.int .i64 ux, .int .i64 uy, .int .i64 uz] := by rw [← hwq7, ← hb5]; exact Blk.new _ 43 [.int .i64 ux, .int .i64 uy, .int .i64 uz]
  have hzb5 : wq7.heap.size = b5 + 1 := by rw [← hwq7, ← hb5]; exact heap_size_alloc _ _
  replace HS := Lib.hid (HS.out.step (w' := wq7) (by rw [← hwq7]; exact Mod.alloc _ _ _))
  replace HS := Lib.hid ((Ev.blk hBb5).and HS.out)
  try rw [hwq7]
  try rw [hb5]
  clear hzb5 hBb5 hb5 hwq7
  obtain ⟨B0, hB0⟩ : ∃ n, wq7.heap.size = n := ⟨_, rfl⟩
  have HB0 := Lib.hid hB0
  clear hB0
  have HOLD : Hid (∀ W, Mod (fun k => B0 ≤ k) (World.drew wq7) W → Mod (fun _ => False) (World.drew wq7) W) := Lib.hid fun W h => h.mono (fun i hi e => by have := HB0.out; simp at hi; omega)
  go_upto_region 4 with fail
  have HSd := Lib.hid HS.out.drew
  have HST : ∀ (ix : Nat) (vx : Value) (wx wy : World), factOf (tnext_r4_0_F B0 t p b2 b3 b5 ed ux uy uz G) ix vx wx → Mod (fun _ => False) wx wy → factOf (tnext_r4_0_F B0 t p b2 b3 b5 ed ux uy uz G) ix vx wy := by
    refine fact_stays ?_
    intro f hf
    simp only [tnext_r4_0_F, List.mem_cons, List.not_mem_nil, or_false] at hf
    rcases hf with rfl | rfl | rfl | rfl | rfl | rfl | rfl | rfl | rfl <;> first | exact stable_val _ | exact stable_new | exact OwnI.st | exact NRow.st _ _
  have HSO : ∀ px ∈ (tnext_r4_0_F B0 t p b2 b3 b5 ed ux uy uz G), px.1 = true → ∀ (vx : Value) (wx wy : World), px.2 vx wx → px.2 vx wy := by
    intro f hf
    simp only [tnext_r4_0_F, List.mem_cons, List.not_mem_nil, or_false] at hf
    rcases hf with rfl | rfl | rfl | rfl | rfl | rfl | rfl | rfl | rfl <;> first | exact fun _ _ _ _ h => h | (intro h; cases h)
  refine wp_region_use (Mod (fun k => B0 ≤ k)) (factOf (tnext_r4_0_F B0 t p b2 b3 b5 ed ux uy uz G)) (fun i => tnext_r4_0_C.getD i 1000) (fun i => tnext_r4_0_D.getD i []) 9 _ rfl rfl (by kernel_rfl) (by kernel_rfl) (by kernel_rfl) (by kernel_rfl) (by kernel_rfl) (fun _ => Mod.refl _ _)
    (fun _ _ _ h k => h.trans k (fun _ _ e => e) (fun _ _ e => e)) ?_ ?_
  · refine opsOkU_cons ?_ ?_
    · intro K vs W hR hD hK
      clear hD
      simp only [putAll, Nat.zero_add, Nat.reduceAdd, Act.put, List.setIfInBounds_toArray, List.set_cons_succ, List.set_cons_zero] at hK ⊢
      have q0 := ((HSd.out.at (HOLD.out W hR)).2.2.1).cell 0 rfl
      go_wp2
      exact hK _ _ rfl (fun _ _ _ h => h) (Mod.refl _ _)
    refine opsOkU_cons ?_ ?_
    · intro K vs W hR hD hK
      have dq0 : vs 0 = .pointer (some ⟨t, 0, none⟩) := hD 0 (by decide)
      clear hD
      simp only [putAll, Nat.zero_add, Nat.reduceAdd, Act.put, List.setIfInBounds_toArray, List.set_cons_succ, List.set_cons_zero] at hK ⊢
      generalize vs 0 = vq0 at hK dq0 ⊢
      subst vq0
      go_wp2
      exact hK _ _ rfl (fun _ _ _ h => h) (Mod.refl _ _)
    refine opsOkU_cons ?_ ?_
    · intro K vs W hR hD hK
      have dq1 : vs 1 = .pointer (some ⟨t, 0, none⟩) := hD 1 (by decide)
      clear hD
      simp only [putAll, Nat.zero_add, Nat.reduceAdd, Act.put, List.setIfInBounds_toArray, List.set_cons_succ, List.set_cons_zero] at hK ⊢
      generalize vs 1 = vq1 at hK dq1 ⊢
      subst vq1
      go_wp2
      exact hK _ _ rfl (fun _ _ _ h => h) (Mod.refl _ _)
    refine opsOkU_cons ?_ ?_
    · intro K vs W hR hD hK
      have dq2 : vs 2 = .pointer (some ⟨t, 0, none⟩) := hD 2 (by decide)
      clear hD
      simp only [putAll, Nat.zero_add, Nat.reduceAdd, Act.put, List.setIfInBounds_toArray, List.set_cons_succ, List.set_cons_zero] at hK ⊢
      generalize vs 2 = vq2 at hK dq2 ⊢
      subst vq2
      have q0 := ((HSd.out.at (HOLD.out W hR)).2.2.2.1).blk.cell 0 rfl
      go_wp2
      exact hK _ _ rfl (fun _ _ _ h => h) (Mod.refl _ _)
    refine opsOkU_cons ?_ ?_
    · intro K vs W hR hD hK
      clear hD
      simp only [putAll, Nat.zero_add, Nat.reduceAdd, Act.put, List.setIfInBounds_toArray, List.set_cons_succ, List.set_cons_zero] at hK ⊢
      go_wp2
      exact hK _ _ rfl (fun _ _ _ h => h) (Mod.refl _ _)
    refine opsOkU_cons ?_ ?_
    · intro K vs W hR hD hK
      have dq4 : vs 4 = .pointer (some ⟨b5, 1, none⟩) := hD 4 (by decide)
      clear hD
      simp only [putAll, Nat.zero_add, Nat.reduceAdd, Act.put, List.setIfInBounds_toArray, List.set_cons_succ, List.set_cons_zero] at hK ⊢
      generalize vs 4 = vq4 at hK dq4 ⊢
      subst vq4
      have q0 := ((HSd.out.at (HOLD.out W hR)).1).cell 1 rfl
      go_wp2
      exact hK _ _ rfl (fun _ _ _ h => h) (Mod.refl _ _)
    refine opsOkU_cons ?_ ?_
    · intro K vs W hR hD hK
      have dq3 : vs 3 = .pointer (some ⟨p, 0, none⟩) := hD 3 (by decide)
      have dq5 : vs 5 = .int .i64 uy := hD 5 (by decide)
      clear hD
      simp only [putAll, Nat.zero_add, Nat.reduceAdd, Act.put, List.setIfInBounds_toArray, List.set_cons_succ, List.set_cons_zero] at hK ⊢
      generalize vs 3 = vq3 at hK dq3 ⊢
      subst vq3
      generalize vs 5 = vq5 at hK dq5 ⊢
      subst vq5
      have hz := (show B0 ≤ W.heap.size from (by have h1 := HB0.out; have h2 := hR.size; simp at h2; omega))
      go_wp2_with (go_at_call 68; refine (out_ownI p B C W G ((HSd.out.at (HOLD.out W hR)).2.2.2.1).go uy).mono ?_; rintro e' w' ⟨x', rfl, hx', hm'⟩)
      exact hK _ _ (hx' hz) (fun j u _ h => HST j u _ _ h hm') (hm'.mono (fun _ _ e => e.elim))
    refine opsOkU_cons ?_ ?_
    · intro K vs W hR hD hK
      clear hD
      simp only [putAll, Nat.zero_add, Nat.reduceAdd, Act.put, List.setIfInBounds_toArray, List.set_cons_succ, List.set_cons_zero] at hK ⊢
      go_wp2
      exact hK _ _ rfl (fun _ _ _ h => h) (Mod.refl _ _)
    refine opsOkU_cons ?_ ?_
    · intro K vs W hR hD hK
      have dq6 : (OwnI B0 (gOut G uy)) (vs 6) W := hD 6 (by decide)
      have dq7 : vs 7 = .func (.func 69) #[] #[.pointer (some ⟨b2, 0, none⟩), .pointer (some ⟨b3, 0, none⟩)] := hD 7 (by decide)
      clear hD
      simp only [putAll, Nat.zero_add, Nat.reduceAdd, Act.put, List.setIfInBounds_toArray, List.set_cons_succ, List.set_cons_zero] at hK ⊢
      generalize vs 6 = vq6 at hK dq6 ⊢
      generalize vs 7 = vq7 at hK dq7 ⊢
      subst vq7
      obtain ⟨a6, c6, rfl, ho6⟩ := dq6
      have hlen : (gOut G uy).length ≤ 1000000 := by have := gOut_len G uy; omega
      have hcl : ∀ W1 x, Mod (fun k => (Value.slice a6 (gOut G uy).length c6).ownBlock = some k) W W1 → Calls Try.prog 69 #[.int .i64 x, .pointer (some ⟨b2, 0, none⟩), .pointer (some ⟨b3, 0, none⟩)] W1 fun e w' => e = .returned (.bool (decide ((ed, x) ∈ G.B))) ∧ Mod (fun _ => False) W1 w' := fun W1 x hm1 => by
        have hRR : Mod (fun k => B0 ≤ k) (World.drew wq7) W1 := hR.trans hm1 (fun _ _ e => e) (fun i _ e => (ho6.lt i e).1)
        exact next_clos t p B C b2 b3 G ed x W1 ((HSd.out.at (HOLD.out W1 hRR)).2.2.2.1) ((HSd.out.at (HOLD.out W1 hRR)).2.2.1) ((HSd.out.at (HOLD.out W1 hRR)).2.1)
      have HCL := Lib.hid hcl
      clear hcl
      go_wp2_with (go_at_call 67; refine (deleteN_any b2 b3 (fun b => decide ((ed, b) ∈ G.B)) W B0 a6 _ c6 _ rfl ho6 hlen HCL.out).mono ?_; rintro e' w' ⟨⟨x', rfl, hx', hxb⟩, hm'⟩)
      exact hK _ _ ⟨hx', fun k hk => (ho6.lt k (by rw [← hxb]; exact hk)).1⟩ (fact_solid HSO 8 (by kernel_rfl)) (hm'.mono (fun k _ e => (ho6.lt k e).1))
    exact opsOkU_nil
  · intro vs wq8 hR hF
    have dq8 : (NRow B0 (kept (fun b => decide ((ed, b) ∈ G.B)) (gOut G uy))) (vs 8) wq8 := hF 8 (by decide) (by decide)
    clear hF
    simp only [putAll, Nat.zero_add, Nat.reduceAdd, Act.put, List.setIfInBounds_toArray, List.set_cons_succ, List.set_cons_zero]
    generalize vs 8 = vq8 at dq8 ⊢
    have hmw : Mod (fun _ => False) w wq8 := ((HS.out.now).2.2.2.2).of2 ((Mod.drew _ _).of2 (HOLD.out _ hR))
    have hBw : w.heap.size ≤ B0 := by rw [← HB0.out]; exact ((HS.out.now).2.2.2.2).size
    go_wp2_with fail
    go_ret
    exact ⟨_, rfl, ⟨dq8.1, fun k hk => Nat.le_trans hBw (dq8.2 k hk)⟩, hmw⟩
theorem next_any (t p B C : Nat) (G : GD) (w : World) (h : TO w t p B C G) (ed : Int) :
    Calls Try.prog 45 #[.pointer (some ⟨t, 0, none⟩), .int .i64 ed] w fun e w' => ∃ v, e = .returned v ∧ IRow (nxtR G ed) v w' ∧ Mod (fun _ => False) w w' :=
  (next_new t p B C G w h ed).mono fun _ _ ⟨v, he, hr, hm⟩ => ⟨v, he, hr.1, hm⟩
/-- What each operation of the statement leaves. -/
def tprev_r4_0_F (B0 t p b2 b3 b5 : Nat) (ed ux _ _ : Int) (G : GD) : List (Bool × (Value → World → Prop)) :=
  [(true, IsV (.pointer (some ⟨t, 0, none⟩))),
   (true, IsV (.pointer (some ⟨t, 0, none⟩))),
   (true, IsV (.pointer (some ⟨t, 0, none⟩))),
   (true, IsV (.pointer (some ⟨p, 0, none⟩))),
   (true, IsV (.pointer (some ⟨b5, 0, none⟩))),
   (true, IsV (.int .i64 ux)),
   (false, OwnI B0 (gIn G ux)),
   (true, IsV (.func (.func 72) #[] #[.pointer (some ⟨b2, 0, none⟩), .pointer (some ⟨b3, 0, none⟩)])),
   (false, NRow B0 (kept (fun b => decide ((b, ed) ∈ G.B)) (gIn G ux)))]
def tprev_r4_0_D : List (List Nat) := [[], [0], [1], [2], [], [4], [3, 5], [], [6, 7]]
def tprev_r4_0_C : List Nat := [1000, 1000, 1000, 1000, 1000, 1000, 8, 1000, 1000]

set_option maxHeartbeats 16000000 in
theorem prev_new (t p B C : Nat) (G : GD) (w : World) (h : TO w t p B C G) (ed : Int) :
    Calls Try.prog 49 #[.pointer (some ⟨t, 0, none⟩), .int .i64 ed] w fun e w' => ∃ v, e = .returned v ∧ NRow w.heap.size (prvR G ed) v w' ∧ Mod (fun _ => False) w w' := by
  have HS : Hid (Ev (Mod (fun _ => False) w) w) := Lib.hid (Ev.mod w)
  replace HS := Lib.hid ((Ev.to h).and HS.out)
  obtain ⟨ux, hx⟩ : ∃ x, (eAt G ed).1 = x := ⟨_, rfl⟩
  obtain ⟨uy, hy⟩ : ∃ x, (eAt G ed).2.1 = x := ⟨_, rfl⟩
  obtain ⟨uz, hz⟩ : ∃ x, (eAt G ed).2.2 = x := ⟨_, rfl⟩
  have HX := Lib.hid hx
  have HY := Lib.hid hy
  have HZ := Lib.hid hz
  clear hx hy hz
  have hmay := Lib.hid h.go.may
  have h1e := h.go.may.1.2.1
  by_cases he : 0 ≤ ed ∧ ed < (G.E.length : Int)
  case neg =>
    rw [prvR_no G ed he]
    have HE := Lib.hid he
    clear he
    go_enter Try.func49, Try.ntmps49
    go_upto_region 1 with fail
    obtain ⟨b2, hb2⟩ : ∃ b, w.heap.size = b := ⟨_, rfl⟩
    obtain ⟨wq1, hwq1⟩ : ∃ W, World.alloc w (.cells #[.pointer (some ⟨t, 0, none⟩)] 29) = W := ⟨_, rfl⟩
    have hBb2 : Blk wq1 b2 29 [.pointer (some ⟨t, 0, none⟩)] := by rw [← hwq1, ← hb2]; exact Blk.new _ 29 [.pointer (some ⟨t, 0, none⟩)]
    have hzb2 : wq1.heap.size = b2 + 1 := by rw [← hwq1, ← hb2]; exact heap_size_alloc _ _
    replace HS := Lib.hid (HS.out.step (w' := wq1) (by rw [← hwq1]; exact Mod.alloc _ _ _))
    replace HS := Lib.hid ((Ev.blk hBb2).and HS.out)
    obtain ⟨b3, hb3⟩ : ∃ b, b2 + 1 = b := ⟨_, rfl⟩
    obtain ⟨wq2, hwq2⟩ : ∃ W, World.alloc wq1 (.cells #[.int .i64 ed] 3) = W := ⟨_, rfl⟩
    have hBb3 : Blk wq2 b3 3 [.int .i64 ed] := by rw [← hwq2, ← hb3, ← hzb2]; exact Blk.new _ 3 [.int .i64 ed]
    have hzb3 : wq2.heap.size = b3 + 1 := by rw [← hwq2, ← hb3, ← hzb2]; exact heap_size_alloc _ _
    replace HS := Lib.hid (HS.out.step (w' := wq2) (by rw [← hwq2]; exact Mod.alloc _ _ _))
    replace HS := Lib.hid ((Ev.blk hBb3).and HS.out)
    try rw [hwq1]
    try rw [hb2]
    try rw [hwq2]
    try rw [hb3]
    clear hzb3 hBb3 hb3 hwq2 hzb2 hBb2 hb2 hwq1
    have hbb2 := (HS.out.now).2.1
    have qb2_0 := hbb2.cell 0 rfl
    have lb2 := hbb2.lt
    clear hbb2
    have hbb3 := (HS.out.now).1
    have qb3_0 := hbb3.cell 0 rfl
    have lb3 := hbb3.lt
    clear hbb3
    go_wp2_with fail
    refine (tedge_any t p B C G _ ((HS.out.now).2.2.1) ed).mono ?_
    rintro e wq3 ⟨rfl, hmm⟩
    replace HS := Lib.hid (HS.out.step hmm)
    clear hmm
    clear qb2_0 lb2 qb3_0 lb3
    have hbb2 := (HS.out.now).2.1
    have qb2_0 := hbb2.cell 0 rfl
    have lb2 := hbb2.lt
    clear hbb2
    have hbb3 := (HS.out.now).1
    have qb3_0 := hbb3.cell 0 rfl
    have lb3 := hbb3.lt
    clear hbb3
    rw [if_neg HE.out, decide_eq_false HE.out]
    go_wp2_with fail
    go_ret
    exact ⟨_, rfl, ⟨⟨none, 0, rfl, Rd.nil _ _⟩, fun k hk => by cases hk⟩, ((HS.out.now).2.2.2).thenAlloc _⟩
  rw [← prv_of G hmay.out ed he]
  rw [HX.out]
  have HE := Lib.hid he
  clear he
  go_enter Try.func49, Try.ntmps49
  go_upto_region 1 with fail
  obtain ⟨b2, hb2⟩ : ∃ b, w.heap.size = b := ⟨_, rfl⟩
  obtain ⟨wq4, hwq4⟩ : ∃ W, World.alloc w (.cells #[.pointer (some ⟨t, 0, none⟩)] 29) = W := ⟨_, rfl⟩
  have hBb2 : Blk wq4 b2 29 [.pointer (some ⟨t, 0, none⟩)] := by rw [← hwq4, ← hb2]; exact Blk.new _ 29 [.pointer (some ⟨t, 0, none⟩)]
  have hzb2 : wq4.heap.size = b2 + 1 := by rw [← hwq4, ← hb2]; exact heap_size_alloc _ _
  replace HS := Lib.hid (HS.out.step (w' := wq4) (by rw [← hwq4]; exact Mod.alloc _ _ _))
  replace HS := Lib.hid ((Ev.blk hBb2).and HS.out)
  obtain ⟨b3, hb3⟩ : ∃ b, b2 + 1 = b := ⟨_, rfl⟩
  obtain ⟨wq5, hwq5⟩ : ∃ W, World.alloc wq4 (.cells #[.int .i64 ed] 3) = W := ⟨_, rfl⟩
  have hBb3 : Blk wq5 b3 3 [.int .i64 ed] := by rw [← hwq5, ← hb3, ← hzb2]; exact Blk.new _ 3 [.int .i64 ed]
  have hzb3 : wq5.heap.size = b3 + 1 := by rw [← hwq5, ← hb3, ← hzb2]; exact heap_size_alloc _ _
  replace HS := Lib.hid (HS.out.step (w' := wq5) (by rw [← hwq5]; exact Mod.alloc _ _ _))
  replace HS := Lib.hid ((Ev.blk hBb3).and HS.out)
  try rw [hwq4]
  try rw [hb2]
  try rw [hwq5]
  try rw [hb3]
  clear hzb3 hBb3 hb3 hwq5 hzb2 hBb2 hb2 hwq4
  have hbb2 := (HS.out.now).2.1
  have qb2_0 := hbb2.cell 0 rfl
  have lb2 := hbb2.lt
  clear hbb2
  have hbb3 := (HS.out.now).1
  have qb3_0 := hbb3.cell 0 rfl
  have lb3 := hbb3.lt
  clear hbb3
  go_wp2_with fail
  refine (tedge_any t p B C G _ ((HS.out.now).2.2.1) ed).mono ?_
  rintro e wq6 ⟨rfl, hmm⟩
  replace HS := Lib.hid (HS.out.step hmm)
  clear hmm
  clear qb2_0 lb2 qb3_0 lb3
  have hbb2 := (HS.out.now).2.1
  have qb2_0 := hbb2.cell 0 rfl
  have lb2 := hbb2.lt
  clear hbb2
  have hbb3 := (HS.out.now).1
  have qb3_0 := hbb3.cell 0 rfl
  have lb3 := hbb3.lt
  clear hbb3
  rw [if_pos HE.out, decide_eq_true HE.out, HX.out, HY.out, HZ.out]
  go_upto_region 4 with fail
  clear qb2_0 lb2 qb3_0 lb3
  obtain ⟨b5, hb5⟩ : ∃ b, wq6.heap.size = b := ⟨_, rfl⟩
  obtain ⟨wq7, hwq7⟩ : ∃ W, World.alloc wq6 (.cells #[.int .i64 ux, .int .i64 uy, .int .i64 uz] 43) = W := ⟨_, rfl⟩
  have hBb5 : Blk wq7 b5 43 [.int .i64 ux, .int .i64 uy, .int .i64 uz] := by rw [← hwq7, ← hb5]; exact Blk.new _ 43 [.int .i64 ux, .int .i64 uy, .int .i64 uz]
  have hzb5 : wq7.heap.size = b5 + 1 := by rw [← hwq7, ← hb5]; exact heap_size_alloc _ _
  replace HS := Lib.hid (HS.out.step (w' := wq7) (by rw [← hwq7]; exact Mod.alloc _ _ _))
  replace HS := Lib.hid ((Ev.blk hBb5).and HS.out)
  try rw [hwq7]
  try rw [hb5]
  clear hzb5 hBb5 hb5 hwq7
  obtain ⟨B0, hB0⟩ : ∃ n, wq7.heap.size = n := ⟨_, rfl⟩
  have HB0 := Lib.hid hB0
  clear hB0
  have HOLD : Hid (∀ W, Mod (fun k => B0 ≤ k) (World.drew wq7) W → Mod (fun _ => False) (World.drew wq7) W) := Lib.hid fun W h => h.mono (fun i hi e => by have := HB0.out; simp at hi; omega)
  go_upto_region 4 with fail
  have HSd := Lib.hid HS.out.drew
  have HST : ∀ (ix : Nat) (vx : Value) (wx wy : World), factOf (tprev_r4_0_F B0 t p b2 b3 b5 ed ux uy uz G) ix vx wx → Mod (fun _ => False) wx wy → factOf (tprev_r4_0_F B0 t p b2 b3 b5 ed ux uy uz G) ix vx wy := by
    refine fact_stays ?_
    intro f hf
    simp only [tprev_r4_0_F, List.mem_cons, List.not_mem_nil, or_false] at hf
    rcases hf with rfl | rfl | rfl | rfl | rfl | rfl | rfl | rfl | rfl <;> first | exact stable_val _ | exact stable_new | exact OwnI.st | exact NRow.st _ _
  have HSO : ∀ px ∈ (tprev_r4_0_F B0 t p b2 b3 b5 ed ux uy uz G), px.1 = true → ∀ (vx : Value) (wx wy : World), px.2 vx wx → px.2 vx wy := by
    intro f hf
    simp only [tprev_r4_0_F, List.mem_cons, List.not_mem_nil, or_false] at hf
    rcases hf with rfl | rfl | rfl | rfl | rfl | rfl | rfl | rfl | rfl <;> first | exact fun _ _ _ _ h => h | (intro h; cases h)
  refine wp_region_use (Mod (fun k => B0 ≤ k)) (factOf (tprev_r4_0_F B0 t p b2 b3 b5 ed ux uy uz G)) (fun i => tprev_r4_0_C.getD i 1000) (fun i => tprev_r4_0_D.getD i []) 9 _ rfl rfl (by kernel_rfl) (by kernel_rfl) (by kernel_rfl) (by kernel_rfl) (by kernel_rfl) (fun _ => Mod.refl _ _)
    (fun _ _ _ h k => h.trans k (fun _ _ e => e) (fun _ _ e => e)) ?_ ?_
  · refine opsOkU_cons ?_ ?_
    · intro K vs W hR hD hK
      clear hD
      simp only [putAll, Nat.zero_add, Nat.reduceAdd, Act.put, List.setIfInBounds_toArray, List.set_cons_succ, List.set_cons_zero] at hK ⊢
      have q0 := ((HSd.out.at (HOLD.out W hR)).2.2.1).cell 0 rfl
      go_wp2
      exact hK _ _ rfl (fun _ _ _ h => h) (Mod.refl _ _)
    refine opsOkU_cons ?_ ?_
    · intro K vs W hR hD hK
      have dq0 : vs 0 = .pointer (some ⟨t, 0, none⟩) := hD 0 (by decide)
      clear hD
      simp only [putAll, Nat.zero_add, Nat.reduceAdd, Act.put, List.setIfInBounds_toArray, List.set_cons_succ, List.set_cons_zero] at hK ⊢
      generalize vs 0 = vq0 at hK dq0 ⊢
      subst vq0
      go_wp2
      exact hK _ _ rfl (fun _ _ _ h => h) (Mod.refl _ _)
    refine opsOkU_cons ?_ ?_
    · intro K vs W hR hD hK
      have dq1 : vs 1 = .pointer (some ⟨t, 0, none⟩) := hD 1 (by decide)
      clear hD
      simp only [putAll, Nat.zero_add, Nat.reduceAdd, Act.put, List.setIfInBounds_toArray, List.set_cons_succ, List.set_cons_zero] at hK ⊢
      generalize vs 1 = vq1 at hK dq1 ⊢
      subst vq1
      go_wp2
      exact hK _ _ rfl (fun _ _ _ h => h) (Mod.refl _ _)
    refine opsOkU_cons ?_ ?_
    · intro K vs W hR hD hK
      have dq2 : vs 2 = .pointer (some ⟨t, 0, none⟩) := hD 2 (by decide)
      clear hD
      simp only [putAll, Nat.zero_add, Nat.reduceAdd, Act.put, List.setIfInBounds_toArray, List.set_cons_succ, List.set_cons_zero] at hK ⊢
      generalize vs 2 = vq2 at hK dq2 ⊢
      subst vq2
      have q0 := ((HSd.out.at (HOLD.out W hR)).2.2.2.1).blk.cell 0 rfl
      go_wp2
      exact hK _ _ rfl (fun _ _ _ h => h) (Mod.refl _ _)
    refine opsOkU_cons ?_ ?_
    · intro K vs W hR hD hK
      clear hD
      simp only [putAll, Nat.zero_add, Nat.reduceAdd, Act.put, List.setIfInBounds_toArray, List.set_cons_succ, List.set_cons_zero] at hK ⊢
      go_wp2
      exact hK _ _ rfl (fun _ _ _ h => h) (Mod.refl _ _)
    refine opsOkU_cons ?_ ?_
    · intro K vs W hR hD hK
      have dq4 : vs 4 = .pointer (some ⟨b5, 0, none⟩) := hD 4 (by decide)
      clear hD
      simp only [putAll, Nat.zero_add, Nat.reduceAdd, Act.put, List.setIfInBounds_toArray, List.set_cons_succ, List.set_cons_zero] at hK ⊢
      generalize vs 4 = vq4 at hK dq4 ⊢
      subst vq4
      have q0 := ((HSd.out.at (HOLD.out W hR)).1).cell 0 rfl
      go_wp2
      exact hK _ _ rfl (fun _ _ _ h => h) (Mod.refl _ _)
    refine opsOkU_cons ?_ ?_
    · intro K vs W hR hD hK
      have dq3 : vs 3 = .pointer (some ⟨p, 0, none⟩) := hD 3 (by decide)
      have dq5 : vs 5 = .int .i64 ux := hD 5 (by decide)
      clear hD
      simp only [putAll, Nat.zero_add, Nat.reduceAdd, Act.put, List.setIfInBounds_toArray, List.set_cons_succ, List.set_cons_zero] at hK ⊢
      generalize vs 3 = vq3 at hK dq3 ⊢
      subst vq3
      generalize vs 5 = vq5 at hK dq5 ⊢
      subst vq5
      have hz := (show B0 ≤ W.heap.size from (by have h1 := HB0.out; have h2 := hR.size; simp at h2; omega))
      go_wp2_with (go_at_call 26; refine (in_ownI p B C W G ((HSd.out.at (HOLD.out W hR)).2.2.2.1).go ux).mono ?_; rintro e' w' ⟨x', rfl, hx', hm'⟩)
      exact hK _ _ (hx' hz) (fun j u _ h => HST j u _ _ h hm') (hm'.mono (fun _ _ e => e.elim))
    refine opsOkU_cons ?_ ?_
    · intro K vs W hR hD hK
      clear hD
      simp only [putAll, Nat.zero_add, Nat.reduceAdd, Act.put, List.setIfInBounds_toArray, List.set_cons_succ, List.set_cons_zero] at hK ⊢
      go_wp2
      exact hK _ _ rfl (fun _ _ _ h => h) (Mod.refl _ _)
    refine opsOkU_cons ?_ ?_
    · intro K vs W hR hD hK
      have dq6 : (OwnI B0 (gIn G ux)) (vs 6) W := hD 6 (by decide)
      have dq7 : vs 7 = .func (.func 72) #[] #[.pointer (some ⟨b2, 0, none⟩), .pointer (some ⟨b3, 0, none⟩)] := hD 7 (by decide)
      clear hD
      simp only [putAll, Nat.zero_add, Nat.reduceAdd, Act.put, List.setIfInBounds_toArray, List.set_cons_succ, List.set_cons_zero] at hK ⊢
      generalize vs 6 = vq6 at hK dq6 ⊢
      generalize vs 7 = vq7 at hK dq7 ⊢
      subst vq7
      obtain ⟨a6, c6, rfl, ho6⟩ := dq6
      have hlen : (gIn G ux).length ≤ 1000000 := by have := gIn_len G ux; omega
      have hcl : ∀ W1 x, Mod (fun k => (Value.slice a6 (gIn G ux).length c6).ownBlock = some k) W W1 → Calls Try.prog 72 #[.int .i64 x, .pointer (some ⟨b2, 0, none⟩), .pointer (some ⟨b3, 0, none⟩)] W1 fun e w' => e = .returned (.bool (decide ((x, ed) ∈ G.B))) ∧ Mod (fun _ => False) W1 w' := fun W1 x hm1 => by
        have hRR : Mod (fun k => B0 ≤ k) (World.drew wq7) W1 := hR.trans hm1 (fun _ _ e => e) (fun i _ e => (ho6.lt i e).1)
        exact prev_clos t p B C b2 b3 G ed x W1 ((HSd.out.at (HOLD.out W1 hRR)).2.2.2.1) ((HSd.out.at (HOLD.out W1 hRR)).2.2.1) ((HSd.out.at (HOLD.out W1 hRR)).2.1)
      have HCL := Lib.hid hcl
      clear hcl
      go_wp2_with (go_at_call 67; refine (deleteP_any b2 b3 (fun b => decide ((b, ed) ∈ G.B)) W B0 a6 _ c6 _ rfl ho6 hlen HCL.out).mono ?_; rintro e' w' ⟨⟨x', rfl, hx', hxb⟩, hm'⟩)
      exact hK _ _ ⟨hx', fun k hk => (ho6.lt k (by rw [← hxb]; exact hk)).1⟩ (fact_solid HSO 8 (by kernel_rfl)) (hm'.mono (fun k _ e => (ho6.lt k e).1))
    exact opsOkU_nil
  · intro vs wq8 hR hF
    have dq8 : (NRow B0 (kept (fun b => decide ((b, ed) ∈ G.B)) (gIn G ux))) (vs 8) wq8 := hF 8 (by decide) (by decide)
    clear hF
    simp only [putAll, Nat.zero_add, Nat.reduceAdd, Act.put, List.setIfInBounds_toArray, List.set_cons_succ, List.set_cons_zero]
    generalize vs 8 = vq8 at dq8 ⊢
    have hmw : Mod (fun _ => False) w wq8 := ((HS.out.now).2.2.2.2).of2 ((Mod.drew _ _).of2 (HOLD.out _ hR))
    have hBw : w.heap.size ≤ B0 := by rw [← HB0.out]; exact ((HS.out.now).2.2.2.2).size
    go_wp2_with fail
    go_ret
    exact ⟨_, rfl, ⟨dq8.1, fun k hk => Nat.le_trans hBw (dq8.2 k hk)⟩, hmw⟩
theorem prev_any (t p B C : Nat) (G : GD) (w : World) (h : TO w t p B C G) (ed : Int) :
    Calls Try.prog 49 #[.pointer (some ⟨t, 0, none⟩), .int .i64 ed] w fun e w' => ∃ v, e = .returned v ∧ IRow (prvR G ed) v w' ∧ Mod (fun _ => False) w w' :=
  (prev_new t p B C G w h ed).mono fun _ _ ⟨v, he, hr, hm⟩ => ⟨v, he, hr.1, hm⟩
end Go.Proofs.Ytbjdjafkpldbnaa
