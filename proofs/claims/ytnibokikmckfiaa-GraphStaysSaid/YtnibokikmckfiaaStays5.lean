/- GraphStays walked. -/
import Derived.Test.YtnibokikmckfiaaLawGR
import Derived.Test.YtnibokikmckfiaaIdx
import Derived.Test.YtnibokikmckfiaaAwake5
import Derived.Test.YtnibokikmckfiaaSame
import Derived.Test.YtnibokikmckfiaaGr9
import Derived.Test.YtnibokikmckfiaaRegion2
import Derived.Deep.DeepCutAuto
import Derived.Deep.CutBlock
namespace Go.Proofs.Ytnibokikmckfiaa
open Go.RowKit Mile
/-- A value that reads as the graph. -/
def PlainW (n1 n2 n3 : Nat) (G : GD) : Value → World → Prop := fun v W => ∃ x1 z1 x2 z2 x3 z3, v = .agg #[.slice x1 n1 z1, .slice x2 n2 z2, .slice x3 n3 z3] ∧ GV W x1 n1 z1 x2 n2 z2 x3 n3 z3 G
theorem PlainW.st (n1 n2 n3 : Nat) (G : GD) : Stable (Mod (fun _ => False)) (PlainW n1 n2 n3 G) := fun _ _ _ ⟨x1, z1, x2, z2, x3, z3, h, hv⟩ hm => ⟨x1, z1, x2, z2, x3, z3, h, hv.keep hm⟩
theorem plain_own (p B C : Nat) (w : World) (G : GD) (h : GO w p B C G) (hN : 0 < G.N.length) (hE : 0 < G.E.length) :
    Calls Try.prog 15 #[.pointer (some ⟨p, 0, none⟩)] w fun e w' => ∃ nb d1 eb d2 a3 d3, e = .returned (.agg #[.slice (some ⟨nb, 0, none⟩) G.N.length d1, .slice (some ⟨eb, 0, none⟩) G.E.length d2, .slice a3 G.B.length d3]) ∧
      w.heap.size ≤ nb ∧ w.heap.size ≤ eb ∧ Room w' nb 37 1 ∧ Room w' eb 41 1 ∧ Mod (fun _ => False) w w' :=
  (plain_any p B C w G h).mono fun _ _ ⟨v, he, ⟨x1, z1, x2, z2, x3, z3, hv, o1, o2, o3⟩, hM⟩ => by
    obtain ⟨g1, c1, e1, l1, _⟩ := own_block o1 hN
    obtain ⟨g2, c2, e2, l2, _⟩ := own_block o2 hE
    cases e1; cases e2
    subst hv
    exact ⟨g1, _, g2, _, x3, z3, he, l1, l2, Room.ofOwn o1 1 (by omega), Room.ofOwn o2 1 (by omega), hM⟩
theorem plain_row (p B C : Nat) (w : World) (G : GD) (n1 n2 n3 : Nat) (h1 : G.N.length = n1) (h2 : G.E.length = n2) (h3 : G.B.length = n3) (h : GO w p B C G) :
    Calls Try.prog 15 #[.pointer (some ⟨p, 0, none⟩)] w fun e w' => ∃ v, e = .returned v ∧ PlainW n1 n2 n3 G v w' ∧ Mod (fun _ => False) w w' :=
  (plain_any p B C w G h).mono fun _ _ ⟨v, he, ⟨x1, z1, x2, z2, x3, z3, hv, o1, o2, o3⟩, hM⟩ => by
    subst h1 h2 h3
    exact ⟨v, he, ⟨x1, z1, x2, z2, x3, z3, hv, rfl, rfl, rfl, Rd.ofOwn o1, Rd.ofOwn o2, Rd.ofOwn o3⟩, hM⟩
/-- What each operation of the statement leaves. -/
def gy_r7_0_F (p bg bo nb eb nb2 eb2 n1 d1 n2 d2 n3 d3 d1b d2b d3b : Nat) (vk : Int) (a3 a3b : Option Addr) (G : GD) : List (Value → World → Prop) :=
  [IsV (.pointer (some ⟨bg, 0, none⟩)),
   IsV (.slice (some ⟨nb, 0, none⟩) n1 d1),
   IsV (.pointer (some ⟨bg, 1, none⟩)),
   IsV (.slice (some ⟨eb, 0, none⟩) n2 d2),
   IsV (.int .i64 vk),
   IsV (.int .i64 vk),
   IsV (.pointer (some ⟨nb, 0, none⟩)),
   IsV (.pointer (some ⟨nb, 0, none⟩)),
   (fun _ _ => True),
   IsV (.pointer (some ⟨eb, 0, none⟩)),
   IsV (.pointer (some ⟨eb, 2, none⟩)),
   (fun _ _ => True)]
def gy_r7_0_D : List (List Nat) := [[], [0], [], [2], [], [], [1], [6], [4, 7], [3], [9], [5, 10]]

/-- What each operation of the statement leaves. -/
def gy_r8_1_F (p bg bo nb eb nb2 eb2 n1 d1 n2 d2 n3 d3 d1b d2b d3b : Nat) (vk : Int) (a3 a3b : Option Addr) (G : GD) : List (Value → World → Prop) :=
  [IsV (.pointer (some ⟨p, 0, none⟩)),
   (PlainW n1 n2 n3 G),
   IsV (.agg #[.slice (some ⟨nb2, 0, none⟩) n1 d1b, .slice (some ⟨eb2, 0, none⟩) n2 d2b, .slice a3b n3 d3b]),
   IsV (.bool true),
   IsV (.bool false)]
def gy_r8_1_D : List (List Nat) := [[], [0], [], [1, 2], [3]]

/-- What each operation of the statement leaves. -/
def gy_r11_2_F (bp gb hb3 n1 e1 n2 e2 n3 e3 : Nat) (vk : Int) (ga : Option Addr) : List (Value → World → Prop) :=
  [IsV (.pointer (some ⟨bp, 0, none⟩)),
   IsV (.slice (some ⟨gb, 0, none⟩) n1 e1),
   IsV (.pointer (some ⟨bp, 1, none⟩)),
   IsV (.slice (some ⟨hb3, 0, none⟩) n2 e2),
   IsV (.int .i64 vk),
   IsV (.int .i64 vk),
   IsV (.pointer (some ⟨gb, 0, none⟩)),
   IsV (.pointer (some ⟨gb, 1, none⟩)),
   (fun _ _ => True),
   IsV (.pointer (some ⟨hb3, 0, none⟩)),
   IsV (.pointer (some ⟨hb3, 1, none⟩)),
   (fun _ _ => True)]
def gy_r11_2_D : List (List Nat) := [[], [0], [], [2], [], [], [1], [6], [4, 7], [3], [9], [5, 10]]

/-- What each operation of the statement leaves. -/
def gy_r16_3_F (p bg bo nb eb nb2 eb2 n1 d1 n2 d2 n3 d3 d1b d2b d3b : Nat) (vk ux : Int) (a3 a3b : Option Addr) (G : GD) : List (Value → World → Prop) :=
  [IsV (.pointer (some ⟨p, 0, none⟩)),
   (PlainW n1 n2 n3 G),
   IsV (.agg #[.slice (some ⟨nb2, 0, none⟩) n1 d1b, .slice (some ⟨eb2, 0, none⟩) n2 d2b, .slice a3b n3 d3b]),
   IsV (.bool true),
   IsV (.bool true),
   IsV (.pointer (some ⟨p, 0, none⟩)),
   IsV (.pointer (some ⟨bo, 1, none⟩)),
   IsV (.slice (some ⟨eb2, 0, none⟩) n2 d2b),
   IsV (.pointer (some ⟨eb2, 0, none⟩)),
   IsV (.pointer (some ⟨eb2, 0, none⟩)),
   IsV (.int .i64 ux),
   (IRow (gOut G ux)),
   (IRow []),
   IsV (.bool false),
   IsV (.bool true),
   IsV (.bool true),
   IsV (.bool true),
   IsV (.bool true),
   IsV (.bool true),
   IsV (.bool true)]
def gy_r16_3_D : List (List Nat) := [[], [0], [], [1, 2], [3], [4], [4], [4, 6], [4, 7], [4, 8], [4, 9], [4, 5, 10], [4], [4, 11, 12], [4, 13], [4, 14], [15], [16], [16, 17], [18]]

set_option maxHeartbeats 64000000 in
set_option maxRecDepth 100000 in
theorem gstays_all (w : World) (a0 : Option Addr) (m c0 : Nat) (l : List Int) (hm : l.length = m) (hr : Rd w 1 (.slice a0 m c0) m (l.map (Value.int .i64))) (vk : Int) :
    Calls Try.prog 5 #[.slice a0 m c0, .int .i64 vk] w fun e w' => e = .returned (.bool true) ∧ Mod (fun _ => False) w w' := by
  obtain ⟨iN, hiN, hzN, hsN, hbN⟩ := info_parts GR.infoN
  obtain ⟨iE, hiE, hzE, hsE, hbE⟩ := info_parts GR.infoE
  obtain ⟨iI, hiI, hzI, hsI, hbI⟩ := info_parts GR.infoI
  by_cases hlen : m ≤ 100
  case neg =>
    have HS : Hid (Ev (Mod (fun _ => False) w) w) := Lib.hid (Ev.mod w)
    have z0 : decide (100 < (m : Int)) = true := by simp; omega
    have z1 : decide (100 < m) = true := by simp; omega
    go_enter Try.func5, Try.ntmps5
    go_wp2_with fail
    refine (awake_any _).mono ?_
    rintro e wq1 ⟨rfl, hm⟩
    replace HS := Lib.hid (HS.out.step hm)
    clear hm
    go_wp2_with fail
    go_ret
    exact ⟨rfl, HS.out.now⟩
  have HS : Hid (Ev (Mod (fun _ => False) w) w) := Lib.hid (Ev.mod w)
  replace HS := Lib.hid ((Ev.rd hr).and HS.out)
  have z0 : decide (100 < (m : Int)) = false := by simp; omega
  have z1 : decide (100 < m) = false := by simp; omega
  go_enter Try.func5, Try.ntmps5
  have hmay := Lib.hid (town_may l)
  have hfew := Lib.hid (town_few l)
  go_wp2_with fail
  refine (town_own _ a0 m c0 l hm ((HS.out.now).1)).mono ?_
  rintro e wq2 ⟨nb, n1, d1, eb, n2, d2, a3, n3, d3, rfl, hg, ht, hmm⟩
  replace HS := Lib.hid (HS.out.step hmm)
  clear hmm
  obtain ⟨G, hG⟩ : ∃ G, townG l = G := ⟨_, rfl⟩
  rw [hG] at hmay hfew hg ht
  have HGG := Lib.hid hG
  clear hG
  have hn := Lib.hid hg.n
  have he := Lib.hid hg.e
  have hb := Lib.hid hg.b
  have h1n : 0 < n1 ∧ n1 ≤ 16 := by have := hfew.out.1; have := hn.out; omega
  have h2n : 0 < n2 ∧ n2 ≤ 67 := by have := hfew.out.2.1; have := he.out; omega
  have h3n : n3 ≤ 469 := by have := hfew.out.2.2; have := hb.out; omega
  have lnb : nb < wq2.heap.size := (ht.o1.lt nb rfl).2
  have leb : eb < wq2.heap.size := (ht.o2.lt eb rfl).2
  have lnb0 : w.heap.size ≤ nb := (ht.o1.lt nb rfl).1
  have leb0 : w.heap.size ≤ eb := (ht.o2.lt eb rfl).1
  replace HS := Lib.hid ((Ev.gv hg).and HS.out)
  have ho1 := ht.o1
  rw [hn.out] at ho1
  have ho2 := ht.o2
  rw [he.out] at ho2
  replace HS := Lib.hid ((Ev.room (Room.ofOwn ho1 0 (by omega))).and HS.out)
  replace HS := Lib.hid ((Ev.room (Room.ofOwn ho2 2 (by omega))).and HS.out)
  replace HS := Lib.hid ((Ev.mod wq2).and HS.out)
  clear hg ht z0 z1 ho1 ho2
  go_wp2_with fail
  refine (town_own _ a0 m c0 l hm ((HS.out.now).2.2.2.2.1)).mono ?_
  rintro e wq3 ⟨nb2, n1b, d1b, eb2, n2b, d2b, a3b, n3b, d3b, rfl, hg2, ht2, hmm⟩
  replace HS := Lib.hid (HS.out.step hmm)
  clear hmm
  rw [HGG.out] at hg2 ht2
  obtain rfl : n1 = n1b := by rw [← hg2.n, hn.out]
  obtain rfl : n2 = n2b := by rw [← hg2.e, he.out]
  obtain rfl : n3 = n3b := by rw [← hg2.b, hb.out]
  have ht3 : TR wq2.heap.size (.slice (some ⟨nb2, 0, none⟩) n1 d1b) (.slice (some ⟨eb2, 0, none⟩) n2 d2b) (.slice a3b n3 d3b) G.N G.E G.B wq3 := ht2
  replace HS := Lib.hid ((Ev.tr ht3).and HS.out)
  clear ht2 ht3 hg2
  go_wp2_with fail
  have lw2 := (HS.out.now).2.1.size
  obtain ⟨bg, hbg⟩ : ∃ b, wq3.heap.size = b := ⟨_, rfl⟩
  obtain ⟨wq4, hwq4⟩ : ∃ W, World.alloc wq3 (.cells #[.slice (some ⟨nb, 0, none⟩) n1 d1, .slice (some ⟨eb, 0, none⟩) n2 d2, .slice a3 n3 d3] 26) = W := ⟨_, rfl⟩
  have hBbg : Blk wq4 bg 26 [.slice (some ⟨nb, 0, none⟩) n1 d1, .slice (some ⟨eb, 0, none⟩) n2 d2, .slice a3 n3 d3] := by rw [← hwq4, ← hbg]; exact Blk.new _ 26 [.slice (some ⟨nb, 0, none⟩) n1 d1, .slice (some ⟨eb, 0, none⟩) n2 d2, .slice a3 n3 d3]
  have hzbg : wq4.heap.size = bg + 1 := by rw [← hwq4, ← hbg]; exact heap_size_alloc _ _
  replace HS := Lib.hid (HS.out.step (w' := wq4) (by rw [← hwq4]; exact Mod.alloc _ _ _))
  replace HS := Lib.hid ((Ev.blk hBbg).and HS.out)
  obtain ⟨bo, hbo⟩ : ∃ b, bg + 1 = b := ⟨_, rfl⟩
  obtain ⟨wq5, hwq5⟩ : ∃ W, World.alloc wq4 (.cells #[.slice (some ⟨nb2, 0, none⟩) n1 d1b, .slice (some ⟨eb2, 0, none⟩) n2 d2b, .slice a3b n3 d3b] 26) = W := ⟨_, rfl⟩
  have hBbo : Blk wq5 bo 26 [.slice (some ⟨nb2, 0, none⟩) n1 d1b, .slice (some ⟨eb2, 0, none⟩) n2 d2b, .slice a3b n3 d3b] := by rw [← hwq5, ← hbo, ← hzbg]; exact Blk.new _ 26 [.slice (some ⟨nb2, 0, none⟩) n1 d1b, .slice (some ⟨eb2, 0, none⟩) n2 d2b, .slice a3b n3 d3b]
  have hzbo : wq5.heap.size = bo + 1 := by rw [← hwq5, ← hbo, ← hzbg]; exact heap_size_alloc _ _
  replace HS := Lib.hid (HS.out.step (w' := wq5) (by rw [← hwq5]; exact Mod.alloc _ _ _))
  replace HS := Lib.hid ((Ev.blk hBbo).and HS.out)
  have lbg : wq2.heap.size ≤ bg := by omega
  have lbo : wq2.heap.size ≤ bo := by omega
  try rw [hwq4]
  try rw [hbg]
  try rw [hwq5]
  try rw [hbo]
  clear hzbo hBbo hbo hwq5 hzbg hBbg hbg hwq4
  have lw3 := (HS.out.now).2.2.2.1.size
  refine (new_at G hmay.out _ _ n1 d1 _ n2 d2 a3 n3 d3 ((HS.out.now).2.2.2.2.2.2.1)).mono ?_
  rintro e wq6 ⟨p, B, C, rfl, hB, hgo, hmm⟩
  replace HS := Lib.hid (HS.out.step hmm)
  clear hmm
  have lnB : nb < B ∧ eb < B := by omega
  clear hB
  replace HS := Lib.hid ((Ev.go hgo).and HS.out)
  clear hgo
  have hbbg := (HS.out.now).2.2.1
  have qbg_0 := hbbg.cell 0 rfl
  have qbg_1 := hbbg.cell 1 rfl
  have qbg_2 := hbbg.cell 2 rfl
  have lbg := hbbg.lt
  clear hbbg
  have hbbo := (HS.out.now).2.1
  have qbo_0 := hbbo.cell 0 rfl
  have qbo_1 := hbbo.cell 1 rfl
  have qbo_2 := hbbo.cell 2 rfl
  have lbo := hbbo.lt
  clear hbbo
  go_wp2_with fail
  have hix1 : ∀ wx, (Instr.indexAt 22 (.slice (some ⟨nb, 0, none⟩) n1 d1) (.int .i64 0)).run Try.prog wx = .ok (.pointer (some ⟨nb, 0, none⟩)) wx := fun wx => by have h := run_indexS (P := Try.prog) wx 22 37 iN 2 Try.underlying22 hiN hsN (some ⟨nb, 0, none⟩) n1 d1 0 h1n.1 (by simp); simpa [elemA, Addr.add] using h
  have hix2 : ∀ wx, (Instr.indexAt 23 (.slice (some ⟨eb, 0, none⟩) n2 d2) (.int .i64 0)).run Try.prog wx = .ok (.pointer (some ⟨eb, 0, none⟩)) wx := fun wx => by have h := run_indexS (P := Try.prog) wx 23 41 iE 3 Try.underlying23 hiE hsE (some ⟨eb, 0, none⟩) n2 d2 0 h2n.1 (by simp); simpa [elemA, Addr.add] using h
  have HIX1 := Lib.hid hix1
  have HIX2 := Lib.hid hix2
  clear hix1 hix2
  clear qbg_0 qbg_1 qbg_2 lbg qbo_0 qbo_1 qbo_2 lbo
  have HRN : Hid (∀ W, Shp (fun k => k = nb ∨ k = eb) (World.drew wq6) W → Room W nb 37 0) := Lib.hid fun W h => Room.keep (F := (fun k => k = nb ∨ k = eb)) ((HS.out.now).2.2.2.2.2.2.1) ((Shp.drew _).trans h)
  have HRE : Hid (∀ W, Shp (fun k => k = nb ∨ k = eb) (World.drew wq6) W → Room W eb 41 2) := Lib.hid fun W h => Room.keep (F := (fun k => k = nb ∨ k = eb)) ((HS.out.now).2.2.2.2.2.1) ((Shp.drew _).trans h)
  have HBB : Hid (∀ W, Shp (fun k => k = nb ∨ k = eb) (World.drew wq6) W → Blk W bg 26 [.slice (some ⟨nb, 0, none⟩) n1 d1, .slice (some ⟨eb, 0, none⟩) n2 d2, .slice a3 n3 d3]) := Lib.hid fun W h => Blk.keep ((HS.out.now).2.2.1) ((Shp.drew _).trans h).1 (by rintro (h | h) <;> omega)
  go_upto_region 7 with fail
  have HSd := Lib.hid HS.out.drew
  refine wp_region_inv3 (act := ?actgy_r7_0) (Shp (fun k => k = nb ∨ k = eb)) (fun i => (gy_r7_0_F p bg bo nb eb nb2 eb2 n1 d1 n2 d2 n3 d3 d1b d2b d3b vk a3 a3b G).getD i (fun _ _ => True)) (fun i => gy_r7_0_D.getD i []) (by kernel_rfl) (by kernel_rfl) (by kernel_rfl) (by kernel_rfl) (fun _ => Shp.refl _ _)
    (fun _ _ _ h k => h.trans k) ?hactgy_r7_0 (stable_list ?_) ?_ ?_
  case hactgy_r7_0 => intro vs; simp only [putAll, Nat.zero_add, Nat.reduceAdd, Act.put, List.setIfInBounds_toArray, List.set_cons_succ, List.set_cons_zero]; exact rfl
  · unfold gy_r7_0_F
    exact stable_cons (stable_val _) <| stable_cons (stable_val _) <| stable_cons (stable_val _) <| stable_cons (stable_val _) <| stable_cons (stable_val _) <| stable_cons (stable_val _) <| stable_cons (stable_val _) <| stable_cons (stable_val _) <| stable_cons (stable_true) <| stable_cons (stable_val _) <| stable_cons (stable_val _) <| stable_cons (stable_true) <| stable_nil
  · refine opsOkA_cons ?_ ?_
    · intro K vs W hR hD hK
      clear hD
      try dsimp only at hK ⊢
      simp only [Act.put, List.setIfInBounds_toArray, List.set_cons_succ, List.set_cons_zero] at hK
      go_wp2
      exact hK _ _ rfl (Shp.refl _ _)
    refine opsOkA_cons ?_ ?_
    · intro K vs W hR hD hK
      have d0 : vs 0 = .pointer (some ⟨bg, 0, none⟩) := hD 0 (by decide)
      clear hD
      try dsimp only at hK ⊢
      simp only [Act.put, List.setIfInBounds_toArray, List.set_cons_succ, List.set_cons_zero] at hK
      generalize vs 0 = v0 at hK d0 ⊢
      subst v0
      have q0 := (HBB.out W hR).cell 0 rfl
      go_wp2
      exact hK _ _ rfl (Shp.refl _ _)
    refine opsOkA_cons ?_ ?_
    · intro K vs W hR hD hK
      clear hD
      try dsimp only at hK ⊢
      simp only [Act.put, List.setIfInBounds_toArray, List.set_cons_succ, List.set_cons_zero] at hK
      go_wp2
      exact hK _ _ rfl (Shp.refl _ _)
    refine opsOkA_cons ?_ ?_
    · intro K vs W hR hD hK
      have d2 : vs 2 = .pointer (some ⟨bg, 1, none⟩) := hD 2 (by decide)
      clear hD
      try dsimp only at hK ⊢
      simp only [Act.put, List.setIfInBounds_toArray, List.set_cons_succ, List.set_cons_zero] at hK
      generalize vs 2 = v2 at hK d2 ⊢
      subst v2
      have q0 := (HBB.out W hR).cell 1 rfl
      go_wp2
      exact hK _ _ rfl (Shp.refl _ _)
    refine opsOkA_cons ?_ ?_
    · intro K vs W hR hD hK
      clear hD
      try dsimp only at hK ⊢
      simp only [Act.put, List.setIfInBounds_toArray, List.set_cons_succ, List.set_cons_zero] at hK
      go_wp2
      exact hK _ _ rfl (Shp.refl _ _)
    refine opsOkA_cons ?_ ?_
    · intro K vs W hR hD hK
      clear hD
      try dsimp only at hK ⊢
      simp only [Act.put, List.setIfInBounds_toArray, List.set_cons_succ, List.set_cons_zero] at hK
      go_wp2
      exact hK _ _ rfl (Shp.refl _ _)
    refine opsOkA_cons ?_ ?_
    · intro K vs W hR hD hK
      have d1 : vs 1 = .slice (some ⟨nb, 0, none⟩) n1 d1 := hD 1 (by decide)
      clear hD
      try dsimp only at hK ⊢
      simp only [Act.put, List.setIfInBounds_toArray, List.set_cons_succ, List.set_cons_zero] at hK
      generalize vs 1 = v1 at hK d1 ⊢
      subst v1
      have hix := HIX1.out
      go_wp2_with fail
      exact hK _ _ rfl (Shp.refl _ _)
    refine opsOkA_cons ?_ ?_
    · intro K vs W hR hD hK
      have d6 : vs 6 = .pointer (some ⟨nb, 0, none⟩) := hD 6 (by decide)
      clear hD
      try dsimp only at hK ⊢
      simp only [Act.put, List.setIfInBounds_toArray, List.set_cons_succ, List.set_cons_zero] at hK
      generalize vs 6 = v6 at hK d6 ⊢
      subst v6
      go_wp2
      exact hK _ _ rfl (Shp.refl _ _)
    refine opsOkA_cons ?_ ?_
    · intro K vs W hR hD hK
      have d4 : vs 4 = .int .i64 vk := hD 4 (by decide)
      have d7 : vs 7 = .pointer (some ⟨nb, 0, none⟩) := hD 7 (by decide)
      clear hD
      try dsimp only at hK ⊢
      simp only [Act.put, List.setIfInBounds_toArray, List.set_cons_succ, List.set_cons_zero] at hK
      generalize vs 4 = v4 at hK d4 ⊢
      subst v4
      generalize vs 7 = v7 at hK d7 ⊢
      subst v7
      obtain ⟨v0, q0⟩ := (HRN.out W hR).cell
      have q1 := (HRN.out W hR).free
      go_wp2
      exact hK undef _ trivial (Shp.set (.inl rfl) _ _)
    refine opsOkA_cons ?_ ?_
    · intro K vs W hR hD hK
      have d3 : vs 3 = .slice (some ⟨eb, 0, none⟩) n2 d2 := hD 3 (by decide)
      clear hD
      try dsimp only at hK ⊢
      simp only [Act.put, List.setIfInBounds_toArray, List.set_cons_succ, List.set_cons_zero] at hK
      generalize vs 3 = v3 at hK d3 ⊢
      subst v3
      have hix := HIX2.out
      go_wp2_with fail
      exact hK _ _ rfl (Shp.refl _ _)
    refine opsOkA_cons ?_ ?_
    · intro K vs W hR hD hK
      have d9 : vs 9 = .pointer (some ⟨eb, 0, none⟩) := hD 9 (by decide)
      clear hD
      try dsimp only at hK ⊢
      simp only [Act.put, List.setIfInBounds_toArray, List.set_cons_succ, List.set_cons_zero] at hK
      generalize vs 9 = v9 at hK d9 ⊢
      subst v9
      go_wp2
      exact hK _ _ rfl (Shp.refl _ _)
    refine opsOkA_cons ?_ ?_
    · intro K vs W hR hD hK
      have d5 : vs 5 = .int .i64 vk := hD 5 (by decide)
      have d10 : vs 10 = .pointer (some ⟨eb, 2, none⟩) := hD 10 (by decide)
      clear hD
      try dsimp only at hK ⊢
      simp only [Act.put, List.setIfInBounds_toArray, List.set_cons_succ, List.set_cons_zero] at hK
      generalize vs 5 = v5 at hK d5 ⊢
      subst v5
      generalize vs 10 = v10 at hK d10 ⊢
      subst v10
      obtain ⟨v0, q0⟩ := (HRE.out W hR).cell
      have q1 := (HRE.out W hR).free
      go_wp2
      exact hK undef _ trivial (Shp.set (.inr rfl) _ _)
    exact opsOkA_nil
  · intro vs wq7 hR hF
    clear hF
    try dsimp only
    clear HSd
    clear HRN HRE HBB
    have m6 : Mod (fun k => k = nb ∨ k = eb) wq6 wq7 := (Mod.drew _ _).trans hR.1 (fun _ _ e => e) (fun _ _ e => e)
    have k1 : Mod (fun _ => False) w wq7 := (HS.out.now).2.2.2.2.2.2.2.2.2.old m6 (fun i hi => by rcases hi with rfl | rfl <;> assumption)
    have k2 : GO wq7 p B C G := (HS.out.now).1.keep m6 (fun k h1 h2 e => by rcases e with rfl | rfl <;> omega)
    have k3 := (HS.out.now).2.2.2.1.keepF m6 (fun k e => by rcases e with rfl | rfl <;> assumption)
    have k4 := Blk.keep ((HS.out.now).2.1) m6 (by rintro (h | h) <;> omega)
    have k5 := tr_gv k3 hn.out he.out hb.out
    replace HS := Lib.hid ((Ev.gv k5).and ((Ev.blk k4).and ((Ev.go k2).and ((Ev.mod w).step k1))))
    clear k1 k2 k3 k4 k5 m6 hR HIX1 HIX2
    have hbbo := (HS.out.now).2.1
    have qbo_0 := hbbo.cell 0 rfl
    have qbo_1 := hbbo.cell 1 rfl
    have qbo_2 := hbbo.cell 2 rfl
    have lbo := hbbo.lt
    clear hbbo
    go_wp2_with fail
    clear qbo_0 qbo_1 qbo_2 lbo
    go_upto_region 8 with fail
    have HSd := Lib.hid HS.out.drew
    refine wp_region_inv3 (act := ?actgy_r8_1) (Mod (fun _ => False)) (fun i => (gy_r8_1_F p bg bo nb eb nb2 eb2 n1 d1 n2 d2 n3 d3 d1b d2b d3b vk a3 a3b G).getD i (fun _ _ => True)) (fun i => gy_r8_1_D.getD i []) (by kernel_rfl) (by kernel_rfl) (by kernel_rfl) (by kernel_rfl) (fun _ => Mod.refl _ _)
      (fun _ _ _ h k => h.trans k (fun _ _ e => e) (fun _ _ e => e)) ?hactgy_r8_1 (stable_list ?_) ?_ ?_
    case hactgy_r8_1 => intro vs; simp only [putAll, Nat.zero_add, Nat.reduceAdd, Act.put, List.setIfInBounds_toArray, List.set_cons_succ, List.set_cons_zero]; exact rfl
    · unfold gy_r8_1_F
      exact stable_cons (stable_val _) <| stable_cons (PlainW.st _ _ _ _) <| stable_cons (stable_val _) <| stable_cons (stable_val _) <| stable_cons (stable_val _) <| stable_nil
    · refine opsOkA_cons ?_ ?_
      · intro K vs W hR hD hK
        clear hD
        try dsimp only at hK ⊢
        simp only [Act.put, List.setIfInBounds_toArray, List.set_cons_succ, List.set_cons_zero] at hK
        go_wp2
        exact hK _ _ rfl (Mod.refl _ _)
      refine opsOkA_cons ?_ ?_
      · intro K vs W hR hD hK
        have d0 : vs 0 = .pointer (some ⟨p, 0, none⟩) := hD 0 (by decide)
        clear hD
        try dsimp only at hK ⊢
        simp only [Act.put, List.setIfInBounds_toArray, List.set_cons_succ, List.set_cons_zero] at hK
        generalize vs 0 = v0 at hK d0 ⊢
        subst v0
        go_wp2_with (go_at_call 15; refine (plain_row p B C W G n1 n2 n3 hn.out he.out hb.out ((HSd.out.at (hR)).2.2.1)).mono ?_; rintro e' w' ⟨x', rfl, hx', hm'⟩)
        exact hK _ _ hx' hm'
      refine opsOkA_cons ?_ ?_
      · intro K vs W hR hD hK
        clear hD
        try dsimp only at hK ⊢
        simp only [Act.put, List.setIfInBounds_toArray, List.set_cons_succ, List.set_cons_zero] at hK
        have hbx := (HSd.out.at (hR)).2.1
        have q0 := hbx.cell 0 rfl
        have q1 := hbx.cell 1 rfl
        have q2 := hbx.cell 2 rfl
        go_wp2
        exact hK _ _ rfl (Mod.refl _ _)
      refine opsOkA_cons ?_ ?_
      · intro K vs W hR hD hK
        have d1 : (PlainW n1 n2 n3 G) (vs 1) W := hD 1 (by decide)
        have d2 : vs 2 = .agg #[.slice (some ⟨nb2, 0, none⟩) n1 d1b, .slice (some ⟨eb2, 0, none⟩) n2 d2b, .slice a3b n3 d3b] := hD 2 (by decide)
        clear hD
        try dsimp only at hK ⊢
        simp only [Act.put, List.setIfInBounds_toArray, List.set_cons_succ, List.set_cons_zero] at hK
        generalize vs 1 = v1 at hK d1 ⊢
        generalize vs 2 = v2 at hK d2 ⊢
        subst v2
        obtain ⟨x11, y11, x21, y21, x31, y31, rfl, hv1⟩ := d1
        go_wp2_with (go_at_call 14; refine (same_any G W _ _ _ _ _ _ _ _ _ hv1 _ _ _ _ _ _ ((HSd.out.at (hR)).1) (by omega) (by omega) (by omega)).mono ?_; rintro e' w' ⟨rfl, hm'⟩)
        exact hK _ _ rfl hm'
      refine opsOkA_cons ?_ ?_
      · intro K vs W hR hD hK
        have d3 : vs 3 = .bool true := hD 3 (by decide)
        clear hD
        try dsimp only at hK ⊢
        simp only [Act.put, List.setIfInBounds_toArray, List.set_cons_succ, List.set_cons_zero] at hK
        generalize vs 3 = v3 at hK d3 ⊢
        subst v3
        go_wp2
        exact hK _ _ rfl (Mod.refl _ _)
      exact opsOkA_nil
    · intro vs wq8 hR hF
      have d4 : vs 4 = .bool false := hF 4 (by decide)
      clear hF
      try dsimp only
      generalize vs 4 = v4 at d4 ⊢
      subst d4
      replace HS := Lib.hid (HSd.out.step hR)
      clear HSd hR
      have hbbo := (HS.out.now).2.1
      have qbo_0 := hbbo.cell 0 rfl
      have qbo_1 := hbbo.cell 1 rfl
      have qbo_2 := hbbo.cell 2 rfl
      have lbo := hbbo.lt
      clear hbbo
      go_wp2_with fail
      clear qbo_0 qbo_1 qbo_2 lbo
      have HSP := HS
      replace HS := Lib.hid ((Ev.mod wq8).and HS.out)
      refine (plain_own p B C _ G ((HS.out.now).2.2.2.1) (by have := hn.out; omega) (by have := he.out; omega)).mono ?_
      rintro e wq9 ⟨gb, e1, hb3, e2, ga, e3, rfl, l1, l2, r1, r2, hmm⟩
      replace HS := Lib.hid (HS.out.step hmm)
      clear hmm
      rw [hn.out, he.out, hb.out]
      replace HS := Lib.hid ((Ev.room r1).and HS.out)
      replace HS := Lib.hid ((Ev.room r2).and HS.out)
      have lz := (HS.out.now).2.2.1.size
      clear r1 r2
      have lgb : gb < wq9.heap.size := ((HS.out.now).2.1).lt
      have lhb : hb3 < wq9.heap.size := ((HS.out.now).1).lt
      go_wp2_with fail
      obtain ⟨bp, hbp⟩ : ∃ b, wq9.heap.size = b := ⟨_, rfl⟩
      obtain ⟨wq10, hwq10⟩ : ∃ W, World.alloc wq9 (.cells #[.slice (some ⟨gb, 0, none⟩) n1 e1, .slice (some ⟨hb3, 0, none⟩) n2 e2, .slice ga n3 e3] 26) = W := ⟨_, rfl⟩
      have hBbp : Blk wq10 bp 26 [.slice (some ⟨gb, 0, none⟩) n1 e1, .slice (some ⟨hb3, 0, none⟩) n2 e2, .slice ga n3 e3] := by rw [← hwq10, ← hbp]; exact Blk.new _ 26 [.slice (some ⟨gb, 0, none⟩) n1 e1, .slice (some ⟨hb3, 0, none⟩) n2 e2, .slice ga n3 e3]
      have hzbp : wq10.heap.size = bp + 1 := by rw [← hwq10, ← hbp]; exact heap_size_alloc _ _
      replace HS := Lib.hid (HS.out.step (w' := wq10) (by rw [← hwq10]; exact Mod.alloc _ _ _))
      replace HS := Lib.hid ((Ev.blk hBbp).and HS.out)
      have lbp : gb < bp ∧ hb3 < bp := by omega
      try rw [hwq10]
      try rw [hbp]
      clear hzbp hBbp hbp hwq10
      have hix1 : ∀ wx, (Instr.indexAt 22 (.slice (some ⟨gb, 0, none⟩) n1 e1) (.int .i64 0)).run Try.prog wx = .ok (.pointer (some ⟨gb, 0, none⟩)) wx := fun wx => by have h := run_indexS (P := Try.prog) wx 22 37 iN 2 Try.underlying22 hiN hsN (some ⟨gb, 0, none⟩) n1 e1 0 h1n.1 (by simp); simpa [elemA, Addr.add] using h
      have hix2 : ∀ wx, (Instr.indexAt 23 (.slice (some ⟨hb3, 0, none⟩) n2 e2) (.int .i64 0)).run Try.prog wx = .ok (.pointer (some ⟨hb3, 0, none⟩)) wx := fun wx => by have h := run_indexS (P := Try.prog) wx 23 41 iE 3 Try.underlying23 hiE hsE (some ⟨hb3, 0, none⟩) n2 e2 0 h2n.1 (by simp); simpa [elemA, Addr.add] using h
      have HIX1 := Lib.hid hix1
      have HIX2 := Lib.hid hix2
      clear hix1 hix2
      have HRN : Hid (∀ W, Shp (fun k => k = gb ∨ k = hb3) (World.drew wq10) W → Room W gb 37 1) := Lib.hid fun W h => Room.keep (F := (fun k => k = gb ∨ k = hb3)) ((HS.out.now).2.2.1) ((Shp.drew _).trans h)
      have HRE : Hid (∀ W, Shp (fun k => k = gb ∨ k = hb3) (World.drew wq10) W → Room W hb3 41 1) := Lib.hid fun W h => Room.keep (F := (fun k => k = gb ∨ k = hb3)) ((HS.out.now).2.1) ((Shp.drew _).trans h)
      have HBB : Hid (∀ W, Shp (fun k => k = gb ∨ k = hb3) (World.drew wq10) W → Blk W bp 26 [.slice (some ⟨gb, 0, none⟩) n1 e1, .slice (some ⟨hb3, 0, none⟩) n2 e2, .slice ga n3 e3]) := Lib.hid fun W h => Blk.keep ((HS.out.now).1) ((Shp.drew _).trans h).1 (by rintro (h | h) <;> omega)
      go_upto_region 11 with fail
      have HSd := Lib.hid HS.out.drew
      refine wp_region_inv3 (act := ?actgy_r11_2) (Shp (fun k => k = gb ∨ k = hb3)) (fun i => (gy_r11_2_F bp gb hb3 n1 e1 n2 e2 n3 e3 vk ga).getD i (fun _ _ => True)) (fun i => gy_r11_2_D.getD i []) (by kernel_rfl) (by kernel_rfl) (by kernel_rfl) (by kernel_rfl) (fun _ => Shp.refl _ _)
        (fun _ _ _ h k => h.trans k) ?hactgy_r11_2 (stable_list ?_) ?_ ?_
      case hactgy_r11_2 => intro vs; simp only [putAll, Nat.zero_add, Nat.reduceAdd, Act.put, List.setIfInBounds_toArray, List.set_cons_succ, List.set_cons_zero]; exact rfl
      · unfold gy_r11_2_F
        exact stable_cons (stable_val _) <| stable_cons (stable_val _) <| stable_cons (stable_val _) <| stable_cons (stable_val _) <| stable_cons (stable_val _) <| stable_cons (stable_val _) <| stable_cons (stable_val _) <| stable_cons (stable_val _) <| stable_cons (stable_true) <| stable_cons (stable_val _) <| stable_cons (stable_val _) <| stable_cons (stable_true) <| stable_nil
      · refine opsOkA_cons ?_ ?_
        · intro K vs W hR hD hK
          clear hD
          try dsimp only at hK ⊢
          simp only [Act.put, List.setIfInBounds_toArray, List.set_cons_succ, List.set_cons_zero] at hK
          go_wp2
          exact hK _ _ rfl (Shp.refl _ _)
        refine opsOkA_cons ?_ ?_
        · intro K vs W hR hD hK
          have d0 : vs 0 = .pointer (some ⟨bp, 0, none⟩) := hD 0 (by decide)
          clear hD
          try dsimp only at hK ⊢
          simp only [Act.put, List.setIfInBounds_toArray, List.set_cons_succ, List.set_cons_zero] at hK
          generalize vs 0 = v0 at hK d0 ⊢
          subst v0
          have q0 := (HBB.out W hR).cell 0 rfl
          go_wp2
          exact hK _ _ rfl (Shp.refl _ _)
        refine opsOkA_cons ?_ ?_
        · intro K vs W hR hD hK
          clear hD
          try dsimp only at hK ⊢
          simp only [Act.put, List.setIfInBounds_toArray, List.set_cons_succ, List.set_cons_zero] at hK
          go_wp2
          exact hK _ _ rfl (Shp.refl _ _)
        refine opsOkA_cons ?_ ?_
        · intro K vs W hR hD hK
          have d2 : vs 2 = .pointer (some ⟨bp, 1, none⟩) := hD 2 (by decide)
          clear hD
          try dsimp only at hK ⊢
          simp only [Act.put, List.setIfInBounds_toArray, List.set_cons_succ, List.set_cons_zero] at hK
          generalize vs 2 = v2 at hK d2 ⊢
          subst v2
          have q0 := (HBB.out W hR).cell 1 rfl
          go_wp2
          exact hK _ _ rfl (Shp.refl _ _)
        refine opsOkA_cons ?_ ?_
        · intro K vs W hR hD hK
          clear hD
          try dsimp only at hK ⊢
          simp only [Act.put, List.setIfInBounds_toArray, List.set_cons_succ, List.set_cons_zero] at hK
          go_wp2
          exact hK _ _ rfl (Shp.refl _ _)
        refine opsOkA_cons ?_ ?_
        · intro K vs W hR hD hK
          clear hD
          try dsimp only at hK ⊢
          simp only [Act.put, List.setIfInBounds_toArray, List.set_cons_succ, List.set_cons_zero] at hK
          go_wp2
          exact hK _ _ rfl (Shp.refl _ _)
        refine opsOkA_cons ?_ ?_
        · intro K vs W hR hD hK
          have d1 : vs 1 = .slice (some ⟨gb, 0, none⟩) n1 e1 := hD 1 (by decide)
          clear hD
          try dsimp only at hK ⊢
          simp only [Act.put, List.setIfInBounds_toArray, List.set_cons_succ, List.set_cons_zero] at hK
          generalize vs 1 = v1 at hK d1 ⊢
          subst v1
          have hix := HIX1.out
          go_wp2_with fail
          exact hK _ _ rfl (Shp.refl _ _)
        refine opsOkA_cons ?_ ?_
        · intro K vs W hR hD hK
          have d6 : vs 6 = .pointer (some ⟨gb, 0, none⟩) := hD 6 (by decide)
          clear hD
          try dsimp only at hK ⊢
          simp only [Act.put, List.setIfInBounds_toArray, List.set_cons_succ, List.set_cons_zero] at hK
          generalize vs 6 = v6 at hK d6 ⊢
          subst v6
          go_wp2
          exact hK _ _ rfl (Shp.refl _ _)
        refine opsOkA_cons ?_ ?_
        · intro K vs W hR hD hK
          have d4 : vs 4 = .int .i64 vk := hD 4 (by decide)
          have d7 : vs 7 = .pointer (some ⟨gb, 1, none⟩) := hD 7 (by decide)
          clear hD
          try dsimp only at hK ⊢
          simp only [Act.put, List.setIfInBounds_toArray, List.set_cons_succ, List.set_cons_zero] at hK
          generalize vs 4 = v4 at hK d4 ⊢
          subst v4
          generalize vs 7 = v7 at hK d7 ⊢
          subst v7
          obtain ⟨v0, q0⟩ := (HRN.out W hR).cell
          have q1 := (HRN.out W hR).free
          go_wp2
          exact hK undef _ trivial (Shp.set (.inl rfl) _ _)
        refine opsOkA_cons ?_ ?_
        · intro K vs W hR hD hK
          have d3 : vs 3 = .slice (some ⟨hb3, 0, none⟩) n2 e2 := hD 3 (by decide)
          clear hD
          try dsimp only at hK ⊢
          simp only [Act.put, List.setIfInBounds_toArray, List.set_cons_succ, List.set_cons_zero] at hK
          generalize vs 3 = v3 at hK d3 ⊢
          subst v3
          have hix := HIX2.out
          go_wp2_with fail
          exact hK _ _ rfl (Shp.refl _ _)
        refine opsOkA_cons ?_ ?_
        · intro K vs W hR hD hK
          have d9 : vs 9 = .pointer (some ⟨hb3, 0, none⟩) := hD 9 (by decide)
          clear hD
          try dsimp only at hK ⊢
          simp only [Act.put, List.setIfInBounds_toArray, List.set_cons_succ, List.set_cons_zero] at hK
          generalize vs 9 = v9 at hK d9 ⊢
          subst v9
          go_wp2
          exact hK _ _ rfl (Shp.refl _ _)
        refine opsOkA_cons ?_ ?_
        · intro K vs W hR hD hK
          have d5 : vs 5 = .int .i64 vk := hD 5 (by decide)
          have d10 : vs 10 = .pointer (some ⟨hb3, 1, none⟩) := hD 10 (by decide)
          clear hD
          try dsimp only at hK ⊢
          simp only [Act.put, List.setIfInBounds_toArray, List.set_cons_succ, List.set_cons_zero] at hK
          generalize vs 5 = v5 at hK d5 ⊢
          subst v5
          generalize vs 10 = v10 at hK d10 ⊢
          subst v10
          obtain ⟨v0, q0⟩ := (HRE.out W hR).cell
          have q1 := (HRE.out W hR).free
          go_wp2
          exact hK undef _ trivial (Shp.set (.inr rfl) _ _)
        exact opsOkA_nil
      · intro vs wq11 hR hF
        clear hF
        try dsimp only
        clear HSd
        clear HRN HRE HBB
        have k1 : Mod (fun _ => False) wq8 wq11 := (HS.out.now).2.2.2.1.old ((Mod.drew (fun k => k = gb ∨ k = hb3) _).trans hR.1 (fun _ _ e => e) (fun _ _ e => e)) (fun i hi => by rcases hi with rfl | rfl <;> assumption)
        replace HS := Lib.hid (HSP.out.step k1)
        clear k1 hR HSP HIX1 HIX2
        have h0E : 0 < G.E.length := by rw [he.out]; exact h2n.1
        obtain ⟨ux, hx⟩ : ∃ x, (G.E[0]).1 = x := ⟨_, rfl⟩
        obtain ⟨uy, hy⟩ : ∃ x, (G.E[0]).2.1 = x := ⟨_, rfl⟩
        obtain ⟨uz, hz⟩ : ∃ x, (G.E[0]).2.2 = x := ⟨_, rfl⟩
        obtain ⟨qb, qo, hpl, e0c, e1c, e2c⟩ := rd3 (HS.out.now).1.re 0 h0E
        have hpl2 : (⟨eb2, 0, none⟩ : Addr) = ⟨qb, qo, none⟩ := by rw [← hpl]; simp [elemA, Addr.add]
        cases hpl2
        rw [hx] at e0c
        replace HS := Lib.hid ((Ev.cell e0c).and HS.out)
        clear hpl e0c e1c e2c
        have hix3 : ∀ wx, (Instr.indexAt 23 (.slice (some ⟨eb2, 0, none⟩) n2 d2b) (.int .i64 0)).run Try.prog wx = .ok (.pointer (some ⟨eb2, 0, none⟩)) wx := fun wx => by have h := run_indexS (P := Try.prog) wx 23 41 iE 3 Try.underlying23 hiE hsE (some ⟨eb2, 0, none⟩) n2 d2b 0 h2n.1 (by simp); simpa [elemA, Addr.add] using h
        have HIX3 := Lib.hid hix3
        obtain ⟨la, hla⟩ : ∃ n, (gOut G ux).length = n := ⟨_, rfl⟩
        have hl0 : 0 < la := by rw [← hla, ← hx]; exact gOut_first G hmay.out h0E
        have hl1 : la ≤ 67 := by rw [← hla]; have := gOut_len G ux; have := he.out; omega
        have HLA := Lib.hid hla
        have HX := Lib.hid hx
        clear hla hx hy hz
        have hbbo := (HS.out.now).2.2.1
        have qbo_0 := hbbo.cell 0 rfl
        have qbo_1 := hbbo.cell 1 rfl
        have qbo_2 := hbbo.cell 2 rfl
        have lbo := hbbo.lt
        clear hbbo
        have qc := (HS.out.now).1
        go_wp2_with fail
        clear qbo_0 qbo_1 qbo_2 lbo
        clear qc hix3
        have HSP := HS
        replace HS := Lib.hid ((Ev.mod wq11).and HS.out)
        refine (out_own p B C _ G ((HS.out.now).2.2.2.2.1) ux la HLA.out hl0).mono ?_
        rintro e wq12 ⟨ob, oc, rfl, l3, r1, hmm⟩
        replace HS := Lib.hid (HS.out.step hmm)
        clear hmm
        obtain ⟨ov, q0⟩ := r1.cell
        have q1 := r1.free
        have z4 : ((la : Int) == 0) = false := by rw [beq_eq_false_iff_ne]; omega
        have hix4 : ∀ wx, (Instr.indexAt 50 (.slice (some ⟨ob, 0, none⟩) la oc) (.int .i64 0)).run Try.prog wx = .ok (.pointer (some ⟨ob, 0, none⟩)) wx := fun wx => by have h := run_indexS (P := Try.prog) wx 50 3 iI 1 Try.underlying50 hiI hsI (some ⟨ob, 0, none⟩) la oc 0 hl0 (by simp); simpa [elemA, Addr.add] using h
        clear r1
        go_wp2_with fail
        obtain ⟨ws, hws⟩ : ∃ W, World.setCell wq12 ⟨ob, 0, none⟩ (.int .i64 vk) = W := ⟨_, rfl⟩
        rw [hws]
        have k1 : Mod (fun _ => False) wq11 ws := by rw [← hws]; exact (HS.out.now).1.old (Mod.setCell (F := fun k => k = ob) _ ⟨ob, 0, none⟩ _ rfl) (fun i hi => by subst hi; exact l3)
        replace HS := Lib.hid (HSP.out.step k1)
        clear k1 HSP hws hix4 q0 q1 z4
        have hne : decide (gOut G ux = []) = false := decide_eq_false (fun h => by have := HLA.out; rw [h] at this; simp at this; omega)
        have HNE := Lib.hid hne
        clear hne
        go_upto_region 16 with fail
        have HSd := Lib.hid HS.out.drew
        refine wp_region_inv3 (act := ?actgy_r16_3) (Mod (fun _ => False)) (fun i => (gy_r16_3_F p bg bo nb eb nb2 eb2 n1 d1 n2 d2 n3 d3 d1b d2b d3b vk ux a3 a3b G).getD i (fun _ _ => True)) (fun i => gy_r16_3_D.getD i []) (by kernel_rfl) (by kernel_rfl) (by kernel_rfl) (by kernel_rfl) (fun _ => Mod.refl _ _)
          (fun _ _ _ h k => h.trans k (fun _ _ e => e) (fun _ _ e => e)) ?hactgy_r16_3 (stable_list ?_) ?_ ?_
        case hactgy_r16_3 => intro vs; simp only [putAll, Nat.zero_add, Nat.reduceAdd, Act.put, List.setIfInBounds_toArray, List.set_cons_succ, List.set_cons_zero]; exact rfl
        · unfold gy_r16_3_F
          exact stable_cons (stable_val _) <| stable_cons (PlainW.st _ _ _ _) <| stable_cons (stable_val _) <| stable_cons (stable_val _) <| stable_cons (stable_val _) <| stable_cons (stable_val _) <| stable_cons (stable_val _) <| stable_cons (stable_val _) <| stable_cons (stable_val _) <| stable_cons (stable_val _) <| stable_cons (stable_val _) <| stable_cons (IRow.st _) <| stable_cons (IRow.st _) <| stable_cons (stable_val _) <| stable_cons (stable_val _) <| stable_cons (stable_val _) <| stable_cons (stable_val _) <| stable_cons (stable_val _) <| stable_cons (stable_val _) <| stable_cons (stable_val _) <| stable_nil
        · refine opsOkA_cons ?_ ?_
          · intro K vs W hR hD hK
            clear hD
            try dsimp only at hK ⊢
            simp only [Act.put, List.setIfInBounds_toArray, List.set_cons_succ, List.set_cons_zero] at hK
            go_wp2
            exact hK _ _ rfl (Mod.refl _ _)
          refine opsOkA_cons ?_ ?_
          · intro K vs W hR hD hK
            have d0 : vs 0 = .pointer (some ⟨p, 0, none⟩) := hD 0 (by decide)
            clear hD
            try dsimp only at hK ⊢
            simp only [Act.put, List.setIfInBounds_toArray, List.set_cons_succ, List.set_cons_zero] at hK
            generalize vs 0 = v0 at hK d0 ⊢
            subst v0
            go_wp2_with (go_at_call 15; refine (plain_row p B C W G n1 n2 n3 hn.out he.out hb.out ((HSd.out.at (hR)).2.2.2.1)).mono ?_; rintro e' w' ⟨x', rfl, hx', hm'⟩)
            exact hK _ _ hx' hm'
          refine opsOkA_cons ?_ ?_
          · intro K vs W hR hD hK
            clear hD
            try dsimp only at hK ⊢
            simp only [Act.put, List.setIfInBounds_toArray, List.set_cons_succ, List.set_cons_zero] at hK
            have hbx := (HSd.out.at (hR)).2.2.1
            have q0 := hbx.cell 0 rfl
            have q1 := hbx.cell 1 rfl
            have q2 := hbx.cell 2 rfl
            go_wp2
            exact hK _ _ rfl (Mod.refl _ _)
          refine opsOkA_cons ?_ ?_
          · intro K vs W hR hD hK
            have d1 : (PlainW n1 n2 n3 G) (vs 1) W := hD 1 (by decide)
            have d2 : vs 2 = .agg #[.slice (some ⟨nb2, 0, none⟩) n1 d1b, .slice (some ⟨eb2, 0, none⟩) n2 d2b, .slice a3b n3 d3b] := hD 2 (by decide)
            clear hD
            try dsimp only at hK ⊢
            simp only [Act.put, List.setIfInBounds_toArray, List.set_cons_succ, List.set_cons_zero] at hK
            generalize vs 1 = v1 at hK d1 ⊢
            generalize vs 2 = v2 at hK d2 ⊢
            subst v2
            obtain ⟨x11, y11, x21, y21, x31, y31, rfl, hv1⟩ := d1
            go_wp2_with (go_at_call 14; refine (same_any G W _ _ _ _ _ _ _ _ _ hv1 _ _ _ _ _ _ ((HSd.out.at (hR)).2.1) (by omega) (by omega) (by omega)).mono ?_; rintro e' w' ⟨rfl, hm'⟩)
            exact hK _ _ rfl hm'
          refine opsOkA_cons ?_ ?_
          · intro K vs W hR hD hK
            have d3 : vs 3 = .bool true := hD 3 (by decide)
            clear hD
            try dsimp only at hK ⊢
            simp only [Act.put, List.setIfInBounds_toArray, List.set_cons_succ, List.set_cons_zero] at hK
            generalize vs 3 = v3 at hK d3 ⊢
            subst v3
            go_wp2
            exact hK _ _ rfl (Mod.refl _ _)
          refine opsOkA_cons ?_ ?_
          · intro K vs W hR hD hK
            have d4 : vs 4 = .bool true := hD 4 (by decide)
            clear hD
            try dsimp only at hK ⊢
            simp only [Act.put, List.setIfInBounds_toArray, List.set_cons_succ, List.set_cons_zero] at hK
            generalize vs 4 = v4 at hK d4 ⊢
            subst v4
            go_wp2
            exact hK _ _ rfl (Mod.refl _ _)
          refine opsOkA_cons ?_ ?_
          · intro K vs W hR hD hK
            have d4 : vs 4 = .bool true := hD 4 (by decide)
            clear hD
            try dsimp only at hK ⊢
            simp only [Act.put, List.setIfInBounds_toArray, List.set_cons_succ, List.set_cons_zero] at hK
            generalize vs 4 = v4 at hK d4 ⊢
            subst v4
            go_wp2
            exact hK _ _ rfl (Mod.refl _ _)
          refine opsOkA_cons ?_ ?_
          · intro K vs W hR hD hK
            have d4 : vs 4 = .bool true := hD 4 (by decide)
            have d6 : vs 6 = .pointer (some ⟨bo, 1, none⟩) := hD 6 (by decide)
            clear hD
            try dsimp only at hK ⊢
            simp only [Act.put, List.setIfInBounds_toArray, List.set_cons_succ, List.set_cons_zero] at hK
            generalize vs 4 = v4 at hK d4 ⊢
            subst v4
            generalize vs 6 = v6 at hK d6 ⊢
            subst v6
            have q0 := ((HSd.out.at (hR)).2.2.1).cell 1 rfl
            go_wp2
            exact hK _ _ rfl (Mod.refl _ _)
          refine opsOkA_cons ?_ ?_
          · intro K vs W hR hD hK
            have d4 : vs 4 = .bool true := hD 4 (by decide)
            have d7 : vs 7 = .slice (some ⟨eb2, 0, none⟩) n2 d2b := hD 7 (by decide)
            clear hD
            try dsimp only at hK ⊢
            simp only [Act.put, List.setIfInBounds_toArray, List.set_cons_succ, List.set_cons_zero] at hK
            generalize vs 4 = v4 at hK d4 ⊢
            subst v4
            generalize vs 7 = v7 at hK d7 ⊢
            subst v7
            have hix := HIX3.out
            go_wp2_with fail
            exact hK _ _ rfl (Mod.refl _ _)
          refine opsOkA_cons ?_ ?_
          · intro K vs W hR hD hK
            have d4 : vs 4 = .bool true := hD 4 (by decide)
            have d8 : vs 8 = .pointer (some ⟨eb2, 0, none⟩) := hD 8 (by decide)
            clear hD
            try dsimp only at hK ⊢
            simp only [Act.put, List.setIfInBounds_toArray, List.set_cons_succ, List.set_cons_zero] at hK
            generalize vs 4 = v4 at hK d4 ⊢
            subst v4
            generalize vs 8 = v8 at hK d8 ⊢
            subst v8
            go_wp2
            exact hK _ _ rfl (Mod.refl _ _)
          refine opsOkA_cons ?_ ?_
          · intro K vs W hR hD hK
            have d4 : vs 4 = .bool true := hD 4 (by decide)
            have d9 : vs 9 = .pointer (some ⟨eb2, 0, none⟩) := hD 9 (by decide)
            clear hD
            try dsimp only at hK ⊢
            simp only [Act.put, List.setIfInBounds_toArray, List.set_cons_succ, List.set_cons_zero] at hK
            generalize vs 4 = v4 at hK d4 ⊢
            subst v4
            generalize vs 9 = v9 at hK d9 ⊢
            subst v9
            have c0 := (HSd.out.at (hR)).1
            go_wp2
            exact hK _ _ rfl (Mod.refl _ _)
          refine opsOkA_cons ?_ ?_
          · intro K vs W hR hD hK
            have d4 : vs 4 = .bool true := hD 4 (by decide)
            have d5 : vs 5 = .pointer (some ⟨p, 0, none⟩) := hD 5 (by decide)
            have d10 : vs 10 = .int .i64 ux := hD 10 (by decide)
            clear hD
            try dsimp only at hK ⊢
            simp only [Act.put, List.setIfInBounds_toArray, List.set_cons_succ, List.set_cons_zero] at hK
            generalize vs 4 = v4 at hK d4 ⊢
            subst v4
            generalize vs 5 = v5 at hK d5 ⊢
            subst v5
            generalize vs 10 = v10 at hK d10 ⊢
            subst v10
            go_wp2_with (go_at_call 23; refine (out_row p B C W G ((HSd.out.at (hR)).2.2.2.1) ux).mono ?_; rintro e' w' ⟨x', rfl, hx', hm'⟩)
            exact hK _ _ hx' hm'
          refine opsOkA_cons ?_ ?_
          · intro K vs W hR hD hK
            have d4 : vs 4 = .bool true := hD 4 (by decide)
            clear hD
            try dsimp only at hK ⊢
            simp only [Act.put, List.setIfInBounds_toArray, List.set_cons_succ, List.set_cons_zero] at hK
            generalize vs 4 = v4 at hK d4 ⊢
            subst v4
            go_wp2
            exact hK _ _ ⟨_, _, rfl, Rd.ofOwn (own_empty W 3 1 W.heap.size rfl)⟩ (Mod.alloc _ _ _)
          refine opsOkA_cons ?_ ?_
          · intro K vs W hR hD hK
            have d4 : vs 4 = .bool true := hD 4 (by decide)
            have d11 : (IRow (gOut G ux)) (vs 11) W := hD 11 (by decide)
            have d12 : (IRow []) (vs 12) W := hD 12 (by decide)
            clear hD
            try dsimp only at hK ⊢
            simp only [Act.put, List.setIfInBounds_toArray, List.set_cons_succ, List.set_cons_zero] at hK
            generalize vs 4 = v4 at hK d4 ⊢
            subst v4
            generalize vs 11 = v11 at hK d11 ⊢
            generalize vs 12 = v12 at hK d12 ⊢
            obtain ⟨ax11, cx11, rfl, hx11⟩ := d11
            obtain ⟨ax12, cx12, rfl, hx12⟩ := d12
            go_wp2_with (go_at_call 25; refine (ints_same W _ _ _ _ rfl hx11 _ _ _ _ rfl hx12 (by have := gOut_len G ux; have := he.out; omega) false HNE.out).mono ?_; rintro e' w' ⟨rfl, hm'⟩)
            exact hK _ _ rfl hm'
          refine opsOkA_cons ?_ ?_
          · intro K vs W hR hD hK
            have d4 : vs 4 = .bool true := hD 4 (by decide)
            have d13 : vs 13 = .bool false := hD 13 (by decide)
            clear hD
            try dsimp only at hK ⊢
            simp only [Act.put, List.setIfInBounds_toArray, List.set_cons_succ, List.set_cons_zero] at hK
            generalize vs 4 = v4 at hK d4 ⊢
            subst v4
            generalize vs 13 = v13 at hK d13 ⊢
            subst v13
            go_wp2
            exact hK _ _ rfl (Mod.refl _ _)
          refine opsOkA_cons ?_ ?_
          · intro K vs W hR hD hK
            have d4 : vs 4 = .bool true := hD 4 (by decide)
            have d14 : vs 14 = .bool true := hD 14 (by decide)
            clear hD
            try dsimp only at hK ⊢
            simp only [Act.put, List.setIfInBounds_toArray, List.set_cons_succ, List.set_cons_zero] at hK
            generalize vs 4 = v4 at hK d4 ⊢
            subst v4
            generalize vs 14 = v14 at hK d14 ⊢
            subst v14
            go_wp2
            exact hK _ _ rfl (Mod.refl _ _)
          refine opsOkA_cons ?_ ?_
          · intro K vs W hR hD hK
            have d15 : vs 15 = .bool true := hD 15 (by decide)
            clear hD
            try dsimp only at hK ⊢
            simp only [Act.put, List.setIfInBounds_toArray, List.set_cons_succ, List.set_cons_zero] at hK
            generalize vs 15 = v15 at hK d15 ⊢
            subst v15
            go_wp2
            exact hK _ _ rfl (Mod.refl _ _)
          refine opsOkA_cons ?_ ?_
          · intro K vs W hR hD hK
            have d16 : vs 16 = .bool true := hD 16 (by decide)
            clear hD
            try dsimp only at hK ⊢
            simp only [Act.put, List.setIfInBounds_toArray, List.set_cons_succ, List.set_cons_zero] at hK
            generalize vs 16 = v16 at hK d16 ⊢
            subst v16
            go_wp2_with (go_at_call 9; refine (awake_any W).mono ?_; rintro e' w' ⟨rfl, hm'⟩)
            exact hK _ _ rfl hm'
          refine opsOkA_cons ?_ ?_
          · intro K vs W hR hD hK
            have d16 : vs 16 = .bool true := hD 16 (by decide)
            have d17 : vs 17 = .bool true := hD 17 (by decide)
            clear hD
            try dsimp only at hK ⊢
            simp only [Act.put, List.setIfInBounds_toArray, List.set_cons_succ, List.set_cons_zero] at hK
            generalize vs 16 = v16 at hK d16 ⊢
            subst v16
            generalize vs 17 = v17 at hK d17 ⊢
            subst v17
            go_wp2
            exact hK _ _ rfl (Mod.refl _ _)
          refine opsOkA_cons ?_ ?_
          · intro K vs W hR hD hK
            have d18 : vs 18 = .bool true := hD 18 (by decide)
            clear hD
            try dsimp only at hK ⊢
            simp only [Act.put, List.setIfInBounds_toArray, List.set_cons_succ, List.set_cons_zero] at hK
            generalize vs 18 = v18 at hK d18 ⊢
            subst v18
            go_wp2
            exact hK _ _ rfl (Mod.refl _ _)
          exact opsOkA_nil
        · intro vs wq13 hR hF
          have d19 : vs 19 = .bool true := hF 19 (by decide)
          clear hF
          try dsimp only
          generalize vs 19 = v19 at d19 ⊢
          subst d19
          replace HS := Lib.hid (HSd.out.step hR)
          clear HSd hR
          have hbbo := (HS.out.now).2.2.1
          have qbo_0 := hbbo.cell 0 rfl
          have qbo_1 := hbbo.cell 1 rfl
          have qbo_2 := hbbo.cell 2 rfl
          have lbo := hbbo.lt
          clear hbbo
          go_wp2_with fail
          go_ret
          exact ⟨rfl, (HS.out.now).2.2.2.2⟩
theorem gstays_law (w : World) (a0 : Option Addr) (m c0 : Nat) (l : List Int) (ok : (encSlice (encInt .i64)).ok w (.slice a0 m c0, l)) (vk : Int) (_ : (Lit.int .i64 vk).wf = true) :
    Calls Try.prog 5 #[.slice a0 m c0, .int .i64 vk] w fun e w' => e = .returned (.bool true) ∧ Below w.heap.size w w' := by
  obtain ⟨hn, hr, _⟩ := ok_ints ok
  exact (gstays_all w a0 m c0 l hn hr vk).mono fun e w' h => ⟨h.1, h.2.below (Nat.le_refl _) (fun _ e => e.elim)⟩
end Go.Proofs.Ytnibokikmckfiaa
