/- made by contract: a graph of numbers, and its turns. -/
import Derived.Test.YtbjdjafkpldbnaaTurns
import Derived.Test.YtbjdjafkpldbnaaLawG
import Derived.Deep.DeepCutAuto
import Derived.Deep.CutBlock
namespace Go.Proofs.Ytbjdjafkpldbnaa
open Go.RowKit Mile
set_option maxRecDepth 100000
/-- New turns at a block that is not b. -/
def TNew (b p : Nat) : Value → World → Prop := fun v W => ∃ t, v = .pointer (some ⟨t, 0, none⟩) ∧ t ≠ b ∧ Blk W t 54 [.pointer (some ⟨p, 0, none⟩)]
theorem TNew.st {b p : Nat} {T : TypeId} {tgt : List Value} : Stable (Tow b T tgt) (TNew b p) := fun _ _ _ ⟨t, h, hn, hb⟩ m => ⟨t, h, hn, hb.keep m.1 hn⟩
def Set3 (b : Nat) (tgt : List Value) : Value → World → Prop := fun _ W => ∀ k, k < 3 → Room W b 28 k ∧ ∃ u, tgt[k]? = some u ∧ W.cell? ⟨b, k, none⟩ = some u
theorem Set3.st {b : Nat} {tgt : List Value} : Stable (Tow b 28 tgt) (Set3 b tgt) := fun _ _ _ h m k hk => by
  obtain ⟨r, u, hu, hc⟩ := h k hk
  exact ⟨m.shp r, u, hu, m.there r hu hc⟩
theorem room_of_blk {w : World} {b : Nat} {T : TypeId} {cs : List Value} (h : Blk w b T cs) (k : Nat) (hk : k < cs.length) : Room w b T k := ⟨cs.toArray, h, by simpa using hk⟩
theorem set3_of {b : Nat} {x y z : Value} {W : World} (h : ∀ k, k < 3 → Room W b 28 k) :
    Set3 b [x, y, z] undef (((W.setCell ⟨b, 0, none⟩ x).setCell ⟨b, 1, none⟩ y).setCell ⟨b, 2, none⟩ z) ∧ Tow b 28 [x, y, z] W (((W.setCell ⟨b, 0, none⟩ x).setCell ⟨b, 1, none⟩ y).setCell ⟨b, 2, none⟩ z) := by
  have t1 : Tow b 28 [x, y, z] W (W.setCell ⟨b, 0, none⟩ x) := Tow.set 0 x rfl
  have t2 : Tow b 28 [x, y, z] (W.setCell ⟨b, 0, none⟩ x) ((W.setCell ⟨b, 0, none⟩ x).setCell ⟨b, 1, none⟩ y) := Tow.set 1 y rfl
  have t3 : Tow b 28 [x, y, z] ((W.setCell ⟨b, 0, none⟩ x).setCell ⟨b, 1, none⟩ y) (((W.setCell ⟨b, 0, none⟩ x).setCell ⟨b, 1, none⟩ y).setCell ⟨b, 2, none⟩ z) := Tow.set 2 z rfl
  have own : ∀ (V : World) (k : Nat) (u : Value), Room V b 28 k → (V.setCell ⟨b, k, none⟩ u).cell? ⟨b, k, none⟩ = some u := fun V k u hr => by
    obtain ⟨cur, hc, hk⟩ := hr
    rw [cell_of_row _ b k _ _ (0, 0) (heap_setCell_same V b k cur _ u hc)]; simp [hk]
  have t := (t1.trans t2).trans t3
  refine ⟨fun k hk => ⟨t.shp (h k hk), ?_⟩, t⟩
  match k, hk with
  | 0, _ => exact ⟨x, rfl, t3.there ((t1.trans t2).shp (h 0 (by omega))) rfl (t2.there (t1.shp (h 0 (by omega))) rfl (own _ 0 x (h 0 (by omega))))⟩
  | 1, _ => exact ⟨y, rfl, t3.there ((t1.trans t2).shp (h 1 (by omega))) rfl (own _ 1 y (t1.shp (h 1 (by omega))))⟩
  | 2, _ => exact ⟨z, rfl, own _ 2 z ((t1.trans t2).shp (h 2 (by omega)))⟩
/-- What each operation of the statement leaves. -/
def md_r5_0_F (b2 b4 p nb eb n1 d1 n2 d2 n3 d3 : Nat) (a3 : Option Addr) : List (Value → World → Prop) :=
  [IsV (.agg #[.slice (some ⟨nb, 0, none⟩) n1 d1, .slice (some ⟨eb, 0, none⟩) n2 d2, .slice a3 n3 d3]),
   IsV (.pointer (some ⟨p, 0, none⟩)),
   (TNew b2 p),
   (Set3 b2 [.slice (some ⟨nb, 0, none⟩) n1 d1, .slice (some ⟨eb, 0, none⟩) n2 d2, .slice a3 n3 d3]),
   (TNew b2 p)]
def md_r5_0_D : List (List Nat) := [[], [], [1], [0], [2]]

set_option maxHeartbeats 16000000 in
theorem made19_any (w : World) (a0 : Option Addr) (m c0 : Nat) (l : List Int) (hm : l.length = m) (hr : Rd w 1 (.slice a0 m c0) m (l.map (Value.int .i64))) :
    Calls Try.prog 8 #[.slice a0 m c0] w fun e w' => ∃ a1 n1 d1 a2 n2 d2 a3 n3 d3 t p B C, e = .returned (.tuple #[.agg #[.slice a1 n1 d1, .slice a2 n2 d2, .slice a3 n3 d3], .pointer (some ⟨t, 0, none⟩)]) ∧ GV w' a1 n1 d1 a2 n2 d2 a3 n3 d3 (townG l) ∧ TO w' t p B C (townG l) ∧ Mod (fun _ => False) w w' := by
  have HS : Hid (Ev (Mod (fun _ => False) w) w) := Lib.hid (Ev.mod w)
  replace HS := Lib.hid ((Ev.rd hr).and HS.out)
  go_enter Try.func8, Try.ntmps8
  go_wp2_with fail
  obtain ⟨b2, hb2⟩ : ∃ b, w.heap.size = b := ⟨_, rfl⟩
  obtain ⟨wq1, hwq1⟩ : ∃ W, World.alloc w (.cells #[.slice none 0 0, .slice none 0 0, .slice none 0 0] 28) = W := ⟨_, rfl⟩
  have hBb2 : Blk wq1 b2 28 [.slice none 0 0, .slice none 0 0, .slice none 0 0] := by rw [← hwq1, ← hb2]; exact Blk.new _ 28 [.slice none 0 0, .slice none 0 0, .slice none 0 0]
  have hzb2 : wq1.heap.size = b2 + 1 := by rw [← hwq1, ← hb2]; exact heap_size_alloc _ _
  replace HS := Lib.hid (HS.out.step (w' := wq1) (by rw [← hwq1]; exact Mod.alloc _ _ _))
  replace HS := Lib.hid ((Ev.blk hBb2).and HS.out)
  have lb2 : w.heap.size ≤ b2 := by omega
  try rw [hwq1]
  try rw [hb2]
  clear hzb2 hBb2 hb2 hwq1
  have lb2b : b2 < wq1.heap.size := ((HS.out.now).1).lt
  refine (town_own _ a0 m c0 l hm ((HS.out.now).2.1)).mono ?_
  rintro e wq2 ⟨nb, n1, d1, eb, n2, d2, a3, n3, d3, rfl, hg, ht, hmm⟩
  replace HS := Lib.hid (HS.out.step hmm)
  clear hmm
  have ht2 : TR wq1.heap.size (.slice (some ⟨nb, 0, none⟩) n1 d1) (.slice (some ⟨eb, 0, none⟩) n2 d2) (.slice a3 n3 d3) (townG l).N (townG l).E (townG l).B wq2 := ht
  replace HS := Lib.hid ((Ev.gv hg).and HS.out)
  replace HS := Lib.hid ((Ev.tr ht2).and HS.out)
  replace HS := Lib.hid ((Ev.mod wq2).and HS.out)
  have hn := Lib.hid hg.n
  have he := Lib.hid hg.e
  have hb := Lib.hid hg.b
  clear hg ht ht2
  have lz2 : b2 < wq2.heap.size := ((HS.out.now).2.2.2.1).lt
  go_wp2_with fail
  obtain ⟨b4, hb4⟩ : ∃ b, wq2.heap.size = b := ⟨_, rfl⟩
  obtain ⟨wq3, hwq3⟩ : ∃ W, World.alloc wq2 (.cells #[.slice (some ⟨nb, 0, none⟩) n1 d1, .slice (some ⟨eb, 0, none⟩) n2 d2, .slice a3 n3 d3] 28) = W := ⟨_, rfl⟩
  have hBb4 : Blk wq3 b4 28 [.slice (some ⟨nb, 0, none⟩) n1 d1, .slice (some ⟨eb, 0, none⟩) n2 d2, .slice a3 n3 d3] := by rw [← hwq3, ← hb4]; exact Blk.new _ 28 [.slice (some ⟨nb, 0, none⟩) n1 d1, .slice (some ⟨eb, 0, none⟩) n2 d2, .slice a3 n3 d3]
  have hzb4 : wq3.heap.size = b4 + 1 := by rw [← hwq3, ← hb4]; exact heap_size_alloc _ _
  replace HS := Lib.hid (HS.out.step (w' := wq3) (by rw [← hwq3]; exact Mod.alloc _ _ _))
  replace HS := Lib.hid ((Ev.blk hBb4).and HS.out)
  have l24 : b2 < b4 := by omega
  try rw [hwq3]
  try rw [hb4]
  clear hzb4 hBb4 hb4 hwq3
  have lz4 : b4 < wq3.heap.size := ((HS.out.now).1).lt
  refine (new_at (townG l) (town_may l) _ _ n1 d1 _ n2 d2 a3 n3 d3 ((HS.out.now).2.2.2.1)).mono ?_
  rintro e wq4 ⟨p, B, C, rfl, hB, hgo, hmm⟩
  replace HS := Lib.hid (HS.out.step hmm)
  clear hmm
  have lB : b2 < B := by omega
  clear hB
  replace HS := Lib.hid ((Ev.go hgo).and HS.out)
  clear hgo
  have hbb4 := (HS.out.now).2.1
  have qb4_0 := hbb4.cell 0 rfl
  have qb4_1 := hbb4.cell 1 rfl
  have qb4_2 := hbb4.cell 2 rfl
  have lb4 := hbb4.lt
  clear hbb4
  go_wp2_with fail
  clear qb4_0 qb4_1 qb4_2 lb4
  have HB4 : Hid (∀ W, Tow b2 28 [.slice (some ⟨nb, 0, none⟩) n1 d1, .slice (some ⟨eb, 0, none⟩) n2 d2, .slice a3 n3 d3] (World.drew wq4) W → Blk W b4 28 [.slice (some ⟨nb, 0, none⟩) n1 d1, .slice (some ⟨eb, 0, none⟩) n2 d2, .slice a3 n3 d3]) := Lib.hid fun W h => Blk.keep ((HS.out.now).2.1) ((Mod.drew (fun k => k = b2) _).trans h.1 (fun _ _ e => e) (fun _ _ e => e)) (by intro h; omega)
  have HGO : Hid (∀ W, Tow b2 28 [.slice (some ⟨nb, 0, none⟩) n1 d1, .slice (some ⟨eb, 0, none⟩) n2 d2, .slice a3 n3 d3] (World.drew wq4) W → GO W p B C (townG l)) := Lib.hid fun W h => ((HS.out.now).1).keep ((Mod.drew (fun k => k = b2) _).trans h.1 (fun _ _ e => e) (fun _ _ e => e)) (fun k h1 _ e => by omega)
  have HRM : Hid (∀ W, Tow b2 28 [.slice (some ⟨nb, 0, none⟩) n1 d1, .slice (some ⟨eb, 0, none⟩) n2 d2, .slice a3 n3 d3] (World.drew wq4) W → ∀ k, k < 3 → Room W b2 28 k) := Lib.hid fun W h k hk => h.shp (room_of_blk (Blk.drew ((HS.out.now).2.2.2.2.2.1)) k hk)
  have HLT : Hid (∀ W, Tow b2 28 [.slice (some ⟨nb, 0, none⟩) n1 d1, .slice (some ⟨eb, 0, none⟩) n2 d2, .slice a3 n3 d3] (World.drew wq4) W → b2 < W.heap.size) := Lib.hid fun W h => by have h1 := h.1.size; have h2 := ((HS.out.now).2.2.2.2.2.1).lt; exact Nat.lt_of_lt_of_le h2 h1
  go_upto_region 5 with fail
  have HSd := Lib.hid HS.out.drew
  refine wp_region_inv3 (act := ?actmd_r5_0) (Tow b2 28 [.slice (some ⟨nb, 0, none⟩) n1 d1, .slice (some ⟨eb, 0, none⟩) n2 d2, .slice a3 n3 d3]) (fun i => (md_r5_0_F b2 b4 p nb eb n1 d1 n2 d2 n3 d3 a3).getD i (fun _ _ => True)) (fun i => md_r5_0_D.getD i []) (by kernel_rfl) (by kernel_rfl) (by kernel_rfl) (by kernel_rfl) (fun _ => Tow.refl _ _ _ _)
    (fun _ _ _ h k => h.trans k) ?hactmd_r5_0 (stable_list ?_) ?_ ?_
  case hactmd_r5_0 => intro vs; simp only [putAll, Nat.zero_add, Nat.reduceAdd, Act.put, List.setIfInBounds_toArray, List.set_cons_succ, List.set_cons_zero]; exact rfl
  · unfold md_r5_0_F
    exact stable_cons (stable_val _) <| stable_cons (stable_val _) <| stable_cons (TNew.st) <| stable_cons (Set3.st) <| stable_cons (TNew.st) <| stable_nil
  · refine opsOkA_cons ?_ ?_
    · intro K vs W hR hD hK
      clear hD
      try dsimp only at hK ⊢
      simp only [Act.put, List.setIfInBounds_toArray, List.set_cons_succ, List.set_cons_zero] at hK
      have hbx := HB4.out W hR
      have q0 := hbx.cell 0 rfl
      have q1 := hbx.cell 1 rfl
      have q2 := hbx.cell 2 rfl
      go_wp2
      exact hK _ _ rfl (Tow.refl _ _ _ _)
    refine opsOkA_cons ?_ ?_
    · intro K vs W hR hD hK
      clear hD
      try dsimp only at hK ⊢
      simp only [Act.put, List.setIfInBounds_toArray, List.set_cons_succ, List.set_cons_zero] at hK
      go_wp2
      exact hK _ _ rfl (Tow.refl _ _ _ _)
    refine opsOkA_cons ?_ ?_
    · intro K vs W hR hD hK
      have dq1 : vs 1 = .pointer (some ⟨p, 0, none⟩) := hD 1 (by decide)
      clear hD
      try dsimp only at hK ⊢
      simp only [Act.put, List.setIfInBounds_toArray, List.set_cons_succ, List.set_cons_zero] at hK
      generalize vs 1 = vq1 at hK dq1 ⊢
      subst vq1
      have hlt := HLT.out W hR
      go_wp2_with (go_at_call 21; refine (tnew_any p B C (townG l) W (HGO.out W hR)).mono ?_; rintro e' w' ⟨t, rfl, ht, hto, hm'⟩)
      exact hK _ _ ⟨t, rfl, by omega, hto.blk⟩ (Tow.ofMod hm')
    refine opsOkA_cons ?_ ?_
    · intro K vs W hR hD hK
      have dq0 : vs 0 = .agg #[.slice (some ⟨nb, 0, none⟩) n1 d1, .slice (some ⟨eb, 0, none⟩) n2 d2, .slice a3 n3 d3] := hD 0 (by decide)
      clear hD
      try dsimp only at hK ⊢
      simp only [Act.put, List.setIfInBounds_toArray, List.set_cons_succ, List.set_cons_zero] at hK
      generalize vs 0 = vq0 at hK dq0 ⊢
      subst vq0
      have hrm := HRM.out W hR
      obtain ⟨y0, q0⟩ := (hrm 0 (by omega)).cell
      obtain ⟨y1, q1⟩ := (hrm 1 (by omega)).cell
      obtain ⟨y2, q2⟩ := (hrm 2 (by omega)).cell
      have f0 := (hrm 0 (by omega)).free
      have f1 := (hrm 1 (by omega)).free
      have f2 := (hrm 2 (by omega)).free
      have HP := Lib.hid (set3_of (x := .slice (some ⟨nb, 0, none⟩) n1 d1) (y := .slice (some ⟨eb, 0, none⟩) n2 d2) (z := .slice a3 n3 d3) hrm)
      clear hrm
      go_wp2
      exact hK undef _ HP.out.1 HP.out.2
    refine opsOkA_cons ?_ ?_
    · intro K vs W hR hD hK
      have dq2 : (TNew b2 p) (vs 2) W := hD 2 (by decide)
      clear hD
      try dsimp only at hK ⊢
      simp only [Act.put, List.setIfInBounds_toArray, List.set_cons_succ, List.set_cons_zero] at hK
      generalize vs 2 = vq2 at hK dq2 ⊢
      have ht := dq2
      go_wp2
      exact hK _ _ ht (Tow.refl _ _ _ _)
    exact opsOkA_nil
  · intro vs wq5 hR hF
    have dq3 : (Set3 b2 [.slice (some ⟨nb, 0, none⟩) n1 d1, .slice (some ⟨eb, 0, none⟩) n2 d2, .slice a3 n3 d3]) (vs 3) wq5 := hF 3 (by decide)
    have dq4 : (TNew b2 p) (vs 4) wq5 := hF 4 (by decide)
    clear hF
    try dsimp only
    generalize vs 3 = vq3 at dq3 ⊢
    generalize vs 4 = vq4 at dq4 ⊢
    clear HSd
    obtain ⟨t, rfl, htn, htb⟩ := dq4
    have k1 := ((HS.out.now).2.2.2.2.2.2.2).old ((Mod.drew (fun k => k = b2) _).trans hR.1 (fun _ _ e => e) (fun _ _ e => e)) (fun i hi => by subst hi; exact lb2)
    have k2 := HGO.out _ hR
    have k3 := ((HS.out.now).2.2.2.1).keepF ((Mod.drew (fun k => k = b2) _).trans hR.1 (fun _ _ e => e) (fun _ _ e => e)) (fun k e => by omega)
    have k4 := hR.blk (Blk.drew ((HS.out.now).2.2.2.2.2.1)) rfl (fun k hk => by obtain ⟨_, u, hu, hc⟩ := dq3 k hk; rw [hu, hc])
    have K := Lib.hid (And.intro k1 (And.intro k2 (And.intro k3 k4)))
    have HTB := Lib.hid htb
    clear k1 k2 k3 k4 dq3 hR htb
    go_wp2_with fail
    (try simp only [Exit.inBlock, Exit.then])
    refine bodyPost_ret (results_row_tmp rfl _ _ b2 28 #[.slice (some ⟨nb, 0, none⟩) n1 d1, .slice (some ⟨eb, 0, none⟩) n2 d2, .slice a3 n3 d3] (0, 0) _ rfl K.out.2.2.2 Try.underlying28 rfl (by kernel_rfl)) rfl ?_
    exact ⟨_, n1, d1, _, n2, d2, a3, n3, d3, t, p, B, C, rfl, tr_gv K.out.2.2.1 hn.out he.out hb.out, ⟨HTB.out, K.out.2.1⟩, K.out.1⟩
end Go.Proofs.Ytbjdjafkpldbnaa
