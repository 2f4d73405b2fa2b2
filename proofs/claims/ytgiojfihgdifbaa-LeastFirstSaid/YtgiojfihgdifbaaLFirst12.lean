/- LeastFirst walked. -/
import Derived.Test.YtgiojfihgdifbaaAwake12
import Derived.Test.YtgiojfihgdifbaaLaw11
import Derived.Test.YtgiojfihgdifbaaKLeast
import Derived.Test.YtgiojfihgdifbaaR4
import Derived.Test.YtgiojfihgdifbaaKNext
import Derived.Test.YtgiojfihgdifbaaRdT
import Derived.Test.YtgiojfihgdifbaaKOpen
import Derived.Test.YtgiojfihgdifbaaRegion2
import Derived.Deep.DeepCutAuto
import Derived.Deep.CutBlock
namespace Go.Proofs.Ytgiojfihgdifbaa
open Go.RowKit Mile
set_option maxRecDepth 100000
/-- What each operation of the statement leaves. -/
def lf_r6_0_F (nv : Int) (ev : Int) (re : Int) (rv : Int) (a1 : Option Addr) (a2 : Option Addr) (n1 : Nat) (d1 : Nat) (n2 : Nat) (d2 : Nat) (bg : Nat) : List (Value → World → Prop) :=
  [IsV (.int .i64 ev),
   IsV (.pointer (some ⟨bg, 1, none⟩)),
   IsV (.slice a2 n2 d2),
   IsV (.int .i64 (n2 : Int)),
   IsV (.int .i64 re),
   IsV (.int .i64 nv),
   IsV (.pointer (some ⟨bg, 0, none⟩)),
   IsV (.slice a1 n1 d1),
   IsV (.int .i64 (n1 : Int)),
   IsV (.int .i64 rv),
   IsV (.int .i64 re),
   IsV (.int .i64 rv)]
def lf_r6_0_D : List (List Nat) := [[], [], [1], [2], [0, 3], [], [], [6], [7], [5, 8], [4], [9]]

/-- What each operation of the statement leaves. -/
def lf_r16_1_F (q : Nat) (ln : Nat) (cn : Nat) (an : Option Addr) : List (Value → World → Prop) :=
  [IsV (.int .i64 (q : Int)),
   IsV (.slice an ln cn),
   IsV (.int .i64 (ln : Int)),
   IsV (.bool false),
   IsV (.bool false),
   IsV (undef),
   IsV (undef),
   IsV (undef),
   IsV (undef),
   IsV (undef),
   IsV (undef),
   IsV (undef),
   IsV (undef),
   IsV (undef),
   IsV (.bool false)]
def lf_r16_1_D : List (List Nat) := [[], [], [1], [0, 2], [3], [4], [4], [4], [4], [4], [4], [4], [4], [4], [4, 13]]

/-- What each operation of the statement leaves. -/
def lf_r20_2_F (lw : Nat) (cw : Nat) (i0 : Nat) (j : Nat) (aw : Option Addr) (a1 : Option Addr) (a2 : Option Addr) (a3 : Option Addr) (n1 : Nat) (d1 : Nat) (n2 : Nat) (d2 : Nat) (n3 : Nat) (d3 : Nat) (gb : Nat) (go : Nat) : List (Value → World → Prop) :=
  [IsV (.agg #[.slice a1 n1 d1, .slice a2 n2 d2, .slice a3 n3 d3]),
   IsV (.slice aw lw cw),
   IsV (.int .i64 (i0 : Int)),
   IsV (.pointer (some ⟨gb, go, none⟩)),
   IsV (.int .i64 (j : Int)),
   IsV (.bool true)]
def lf_r20_2_D : List (List Nat) := [[], [], [], [1, 2], [3], [0, 4]]

/-- What each operation of the statement leaves. -/
def lf_r16_3_F (lw : Nat) (cw : Nat) (i0 : Nat) (xq : Nat) (j : Nat) (q : Nat) (ln : Nat) (cn : Nat) (aw : Option Addr) (an : Option Addr) (gb : Nat) (go : Nat) (fb : Nat) (fo : Nat) : List (Value → World → Prop) :=
  [IsV (.int .i64 (q : Int)),
   IsV (.slice an ln cn),
   IsV (.int .i64 (ln : Int)),
   IsV (.bool true),
   IsV (.bool true),
   IsV (.slice an ln cn),
   IsV (.int .i64 (q : Int)),
   IsV (.pointer (some ⟨fb, fo, none⟩)),
   IsV (.int .i64 (xq : Int)),
   IsV (.slice aw lw cw),
   IsV (.int .i64 (i0 : Int)),
   IsV (.pointer (some ⟨gb, go, none⟩)),
   IsV (.int .i64 (j : Int)),
   IsV (.bool false),
   IsV (.bool false)]
def lf_r16_3_D : List (List Nat) := [[], [], [1], [0, 2], [3], [4], [4], [4, 5, 6], [4, 7], [4], [4], [4, 9, 10], [4, 11], [4, 8, 12], [4, 13]]

/-- What each operation of the statement leaves. -/
def lf_r20_4_F (lw : Nat) (cw : Nat) (i0 : Nat) (j : Nat) (aw : Option Addr) (a1 : Option Addr) (a2 : Option Addr) (a3 : Option Addr) (n1 : Nat) (d1 : Nat) (n2 : Nat) (d2 : Nat) (n3 : Nat) (d3 : Nat) (gb : Nat) (go : Nat) : List (Value → World → Prop) :=
  [IsV (.agg #[.slice a1 n1 d1, .slice a2 n2 d2, .slice a3 n3 d3]),
   IsV (.slice aw lw cw),
   IsV (.int .i64 (i0 : Int)),
   IsV (.pointer (some ⟨gb, go, none⟩)),
   IsV (.int .i64 (j : Int)),
   IsV (.bool true)]
def lf_r20_4_D : List (List Nat) := [[], [], [], [1, 2], [3], [0, 4]]

/-- What each operation of the statement leaves. -/
def lf_r16_5_F (lw : Nat) (cw : Nat) (i0 : Nat) (xq : Nat) (j : Nat) (q : Nat) (ln : Nat) (cn : Nat) (aw : Option Addr) (an : Option Addr) (gb : Nat) (go : Nat) (fb : Nat) (fo : Nat) : List (Value → World → Prop) :=
  [IsV (.int .i64 (q : Int)),
   IsV (.slice an ln cn),
   IsV (.int .i64 (ln : Int)),
   IsV (.bool true),
   IsV (.bool true),
   IsV (.slice an ln cn),
   IsV (.int .i64 (q : Int)),
   IsV (.pointer (some ⟨fb, fo, none⟩)),
   IsV (.int .i64 (xq : Int)),
   IsV (.slice aw lw cw),
   IsV (.int .i64 (i0 : Int)),
   IsV (.pointer (some ⟨gb, go, none⟩)),
   IsV (.int .i64 (j : Int)),
   IsV (.bool true),
   IsV (.bool true)]
def lf_r16_5_D : List (List Nat) := [[], [], [1], [0, 2], [3], [4], [4], [4, 5, 6], [4, 7], [4], [4], [4, 9, 10], [4, 11], [4, 8, 12], [4, 13]]

/-- What each operation of the statement leaves. -/
def lf_r18_6_F (xq : Nat) (q : Nat) (ln : Nat) (cn : Nat) (cd : Nat) (an : Option Addr) (ad : Option Addr) (dx : Int) (n2 : Nat) (fb : Nat) (fo : Nat) (hb : Nat) (ho : Nat) : List (Value → World → Prop) :=
  [IsV (.slice ad n2 cd),
   IsV (.slice an ln cn),
   IsV (.int .i64 (q : Int)),
   IsV (.pointer (some ⟨fb, fo, none⟩)),
   IsV (.int .i64 (xq : Int)),
   IsV (.pointer (some ⟨hb, ho, none⟩)),
   IsV (.int .i64 dx),
   IsV (.bool false),
   IsV (.bool false),
   IsV (undef),
   IsV (undef),
   IsV (undef),
   IsV (undef),
   IsV (undef),
   IsV (undef),
   IsV (undef),
   IsV (undef),
   IsV (undef),
   IsV (undef),
   IsV (undef),
   IsV (undef),
   IsV (undef),
   IsV (undef),
   IsV (undef),
   IsV (undef),
   IsV (undef),
   IsV (undef),
   IsV (undef),
   IsV (undef),
   IsV (undef),
   IsV (undef),
   IsV (.bool false)]
def lf_r18_6_D : List (List Nat) := [[], [], [], [1, 2], [3], [0, 4], [5], [6], [7], [8], [8], [8], [8], [8], [8], [8], [8], [8], [8], [8], [8], [8], [8], [8], [8], [8], [8], [8], [8], [8], [8], [8, 30]]

/-- What each operation of the statement leaves. -/
def lf_r18_7_F (xq : Nat) (cur : Nat) (q : Nat) (ln : Nat) (cn : Nat) (cd : Nat) (an : Option Addr) (ad : Option Addr) (dx : Int) (dc : Int) (uc : Int) (a2 : Option Addr) (n2 : Nat) (d2 : Nat) (bg : Nat) (kb : Nat) (ko : Nat) (fb : Nat) (fo : Nat) (hb : Nat) (ho : Nat) (pb : Nat) (po : Nat) : List (Value → World → Prop) :=
  [IsV (.slice ad n2 cd),
   IsV (.slice an ln cn),
   IsV (.int .i64 (q : Int)),
   IsV (.pointer (some ⟨fb, fo, none⟩)),
   IsV (.int .i64 (xq : Int)),
   IsV (.pointer (some ⟨hb, ho, none⟩)),
   IsV (.int .i64 dx),
   IsV (.bool true),
   IsV (.bool true),
   IsV (.slice ad n2 cd),
   IsV (.slice an ln cn),
   IsV (.int .i64 (q : Int)),
   IsV (.pointer (some ⟨fb, fo, none⟩)),
   IsV (.int .i64 (xq : Int)),
   IsV (.pointer (some ⟨hb, ho, none⟩)),
   IsV (.int .i64 dx),
   IsV (.pointer (some ⟨bg, 1, none⟩)),
   IsV (.slice a2 n2 d2),
   IsV (.slice an ln cn),
   IsV (.int .i64 (q : Int)),
   IsV (.pointer (some ⟨fb, fo, none⟩)),
   IsV (.int .i64 (xq : Int)),
   IsV (.pointer (some ⟨pb, po, none⟩)),
   IsV (.pointer (some ⟨pb, po + 2, none⟩)),
   IsV (.int .i64 uc),
   IsV (.int .i64 (dx + uc)),
   IsV (.slice ad n2 cd),
   IsV (.int .i64 (cur : Int)),
   IsV (.pointer (some ⟨kb, ko, none⟩)),
   IsV (.int .i64 dc),
   IsV (.bool false),
   IsV (.bool false)]
def lf_r18_7_D : List (List Nat) := [[], [], [], [1, 2], [3], [0, 4], [5], [6], [7], [8], [8], [8], [8, 10, 11], [8, 12], [8, 9, 13], [8, 14], [8], [8, 16], [8], [8], [8, 18, 19], [8, 20], [8, 17, 21], [8, 22], [8, 23], [8, 15, 24], [8], [8], [8, 26, 27], [8, 28], [8, 25, 29], [8, 30]]

set_option maxHeartbeats 64000000 in
theorem lfirst_all (w : World) (a0 : Option Addr) (m c0 : Nat) (l : List Int) (hm : l.length = m) (hr : Rd w 1 (.slice a0 m c0) m (l.map (Value.int .i64))) (ev nv : Int) :
    Calls Try.prog 9 #[.slice a0 m c0, .int .i64 ev, .int .i64 nv] w fun e w' => e = .returned (.bool true) ∧ Mod (fun _ => False) w w' := by
  obtain ⟨iI, hiI, hzI, hsI, hbI⟩ := info_parts GR.infoI
  obtain ⟨iE, hiE, hzE, hsE, hbE⟩ := info_parts GR.infoE
  by_cases hlen0 : m ≤ 100
  case neg =>
    have HS : Hid (Ev (Mod (fun _ => False) w) w) := Lib.hid (Ev.mod w)
    have z0 : decide (100 < (m : Int)) = true := by simp; omega
    have z1 : decide (100 < m) = true := by simp; omega
    go_enter Try.func9, Try.ntmps9
    go_wp2_with fail
    refine (awake12_any _).mono ?_
    rintro e wq1 ⟨rfl, hm⟩
    replace HS := Lib.hid (HS.out.step hm)
    clear hm
    go_wp2_with fail
    go_ret
    exact ⟨rfl, HS.out.now⟩
  have HS : Hid (Ev (Mod (fun _ => False) w) w) := Lib.hid (Ev.mod w)
  have y0 : decide (100 < (m : Int)) = false := by simp; omega
  replace HS := Lib.hid ((Ev.rd hr).and HS.out)
  clear hr
  go_enter Try.func9, Try.ntmps9
  go_wp2_with fail
  refine (M12.made12_any _ a0 m c0 l hm ((HS.out.now).1)).mono ?_
  rintro e wq2 ⟨a1, n1, d1, a2, n2, d2, a3, n3, d3, t, p, B, C, rfl, hg, hto, hmm⟩
  replace HS := Lib.hid (HS.out.step hmm)
  clear hmm
  replace HS := Lib.hid ((Ev.gv hg).and HS.out)
  replace HS := Lib.hid ((Ev.to hto).and HS.out)
  clear hg hto y0
  have hmay := Lib.hid (town_may l)
  have hfew := Lib.hid (town_few l)
  obtain ⟨G, hG⟩ : ∃ G, townG l = G := ⟨_, rfl⟩
  rw [hG] at hmay hfew
  rw [hG] at HS
  clear hG
  have hn := Lib.hid ((HS.out.now).2.1.n)
  have he := Lib.hid ((HS.out.now).2.1.e)
  have hb := Lib.hid ((HS.out.now).2.1.b)
  have h1n : n1 ≤ 16 := by have := hfew.out.1.2; have := hn.out; omega
  have h2n : n2 ≤ 67 := by have := hfew.out.2.1.2; have := he.out; omega
  have h2p : 1 ≤ n2 := by have := hfew.out.2.1.1; have := he.out; omega
  have h3n : n3 ≤ 469 := by have := hfew.out.2.2; have := hb.out; omega
  go_wp2_with fail
  obtain ⟨bg, hbg⟩ : ∃ b, wq2.heap.size = b := ⟨_, rfl⟩
  obtain ⟨wq3, hwq3⟩ : ∃ W, World.alloc wq2 (.cells #[.slice a1 n1 d1, .slice a2 n2 d2, .slice a3 n3 d3] 29) = W := ⟨_, rfl⟩
  have hBbg : Blk wq3 bg 29 [.slice a1 n1 d1, .slice a2 n2 d2, .slice a3 n3 d3] := by rw [← hwq3, ← hbg]; exact Blk.new _ 29 [.slice a1 n1 d1, .slice a2 n2 d2, .slice a3 n3 d3]
  have hzbg : wq3.heap.size = bg + 1 := by rw [← hwq3, ← hbg]; exact heap_size_alloc _ _
  replace HS := Lib.hid (HS.out.step (w' := wq3) (by rw [← hwq3]; exact Mod.alloc _ _ _))
  replace HS := Lib.hid ((Ev.blk hBbg).and HS.out)
  try rw [hwq3]
  try rw [hbg]
  clear hzbg hBbg hbg hwq3
  have hbbg := (HS.out.now).1
  have qbg_0 := hbbg.cell 0 rfl
  have qbg_1 := hbbg.cell 1 rfl
  have qbg_2 := hbbg.cell 2 rfl
  have lbg := hbbg.lt
  clear hbbg
  have hGE : 1 ≤ G.E.length := by rw [he.out]; exact h2p
  have h1p : 1 ≤ n1 := by have := hfew.out.1.1; have := hn.out; omega
  go_upto_region 6 with fail
  have hre0 := Int.emod_nonneg ev (b := (n2 : Int)) (by omega)
  have hre1 := Int.emod_lt_of_pos ev (b := (n2 : Int)) (by omega)
  obtain ⟨re, hre⟩ : ∃ y, ev % (n2 : Int) = y := ⟨_, rfl⟩
  rw [hre] at hre0 hre1
  have HRE := Lib.hid hre
  clear hre
  have hrv0 := Int.emod_nonneg nv (b := (n1 : Int)) (by omega)
  have hrv1 := Int.emod_lt_of_pos nv (b := (n1 : Int)) (by omega)
  obtain ⟨rv, hrv⟩ : ∃ y, nv % (n1 : Int) = y := ⟨_, rfl⟩
  rw [hrv] at hrv0 hrv1
  have HRV := Lib.hid hrv
  clear hrv
  clear qbg_0 qbg_1 qbg_2 lbg
  have HSd := Lib.hid HS.out.drew
  refine wp_region_inv3 (act := ?actlf_r6_0) (Mod (fun _ => False)) (fun i => (lf_r6_0_F nv ev re rv a1 a2 n1 d1 n2 d2 bg).getD i (fun _ _ => True)) (fun i => lf_r6_0_D.getD i []) (by kernel_rfl) (by kernel_rfl) (by kernel_rfl) (by kernel_rfl) (fun _ => Mod.refl _ _)
    (fun _ _ _ h k => h.trans k (fun _ _ e => e) (fun _ _ e => e)) ?hactlf_r6_0 (stable_list ?_) ?_ ?_
  case hactlf_r6_0 => intro vs; simp only [putAll, Nat.zero_add, Nat.reduceAdd, Act.put, List.setIfInBounds_toArray, List.set_cons_succ, List.set_cons_zero]; exact rfl
  · unfold lf_r6_0_F
    exact stable_cons (stable_val _) <| stable_cons (stable_val _) <| stable_cons (stable_val _) <| stable_cons (stable_val _) <| stable_cons (stable_val _) <| stable_cons (stable_val _) <| stable_cons (stable_val _) <| stable_cons (stable_val _) <| stable_cons (stable_val _) <| stable_cons (stable_val _) <| stable_cons (stable_val _) <| stable_cons (stable_val _) <| stable_nil
  · refine opsOkA_cons ?_ ?_
    · intro K vs W hR hD hK
      clear hD
      try dsimp only at hK ⊢
      simp only [Act.put, List.setIfInBounds_toArray, List.set_cons_succ, List.set_cons_zero] at hK
      go_wp2
      exact hK _ _ rfl (Mod.refl _ _)
    refine opsOkA_cons ?_ ?_
    · intro K vs W hR hD hK
      clear hD
      try dsimp only at hK ⊢
      simp only [Act.put, List.setIfInBounds_toArray, List.set_cons_succ, List.set_cons_zero] at hK
      go_wp2
      exact hK _ _ rfl (Mod.refl _ _)
    refine opsOkA_cons ?_ ?_
    · intro K vs W hR hD hK
      have dq1 : vs 1 = .pointer (some ⟨bg, 1, none⟩) := hD 1 (by decide)
      clear hD
      try dsimp only at hK ⊢
      simp only [Act.put, List.setIfInBounds_toArray, List.set_cons_succ, List.set_cons_zero] at hK
      generalize vs 1 = vq1 at hK dq1 ⊢
      subst vq1
      have q0 := ((HSd.out.at (hR)).1).cell 1 rfl
      go_wp2
      exact hK _ _ rfl (Mod.refl _ _)
    refine opsOkA_cons ?_ ?_
    · intro K vs W hR hD hK
      have dq2 : vs 2 = .slice a2 n2 d2 := hD 2 (by decide)
      clear hD
      try dsimp only at hK ⊢
      simp only [Act.put, List.setIfInBounds_toArray, List.set_cons_succ, List.set_cons_zero] at hK
      generalize vs 2 = vq2 at hK dq2 ⊢
      subst vq2
      go_wp2_with fail
      exact hK _ _ rfl (Mod.refl _ _)
    refine opsOkA_cons ?_ ?_
    · intro K vs W hR hD hK
      have dq0 : vs 0 = .int .i64 ev := hD 0 (by decide)
      have dq3 : vs 3 = .int .i64 (n2 : Int) := hD 3 (by decide)
      clear hD
      try dsimp only at hK ⊢
      simp only [Act.put, List.setIfInBounds_toArray, List.set_cons_succ, List.set_cons_zero] at hK
      generalize vs 0 = vq0 at hK dq0 ⊢
      subst vq0
      generalize vs 3 = vq3 at hK dq3 ⊢
      subst vq3
      go_wp2_with (go_at_call 21; refine (round_any ev (n2 : Int) W (by omega) (by omega)).mono ?_; rintro e' w' ⟨rfl, rfl⟩; rw [HRE.out])
      exact hK _ _ rfl (Mod.refl _ _)
    refine opsOkA_cons ?_ ?_
    · intro K vs W hR hD hK
      clear hD
      try dsimp only at hK ⊢
      simp only [Act.put, List.setIfInBounds_toArray, List.set_cons_succ, List.set_cons_zero] at hK
      go_wp2
      exact hK _ _ rfl (Mod.refl _ _)
    refine opsOkA_cons ?_ ?_
    · intro K vs W hR hD hK
      clear hD
      try dsimp only at hK ⊢
      simp only [Act.put, List.setIfInBounds_toArray, List.set_cons_succ, List.set_cons_zero] at hK
      go_wp2
      exact hK _ _ rfl (Mod.refl _ _)
    refine opsOkA_cons ?_ ?_
    · intro K vs W hR hD hK
      have dq6 : vs 6 = .pointer (some ⟨bg, 0, none⟩) := hD 6 (by decide)
      clear hD
      try dsimp only at hK ⊢
      simp only [Act.put, List.setIfInBounds_toArray, List.set_cons_succ, List.set_cons_zero] at hK
      generalize vs 6 = vq6 at hK dq6 ⊢
      subst vq6
      have q0 := ((HSd.out.at (hR)).1).cell 0 rfl
      go_wp2
      exact hK _ _ rfl (Mod.refl _ _)
    refine opsOkA_cons ?_ ?_
    · intro K vs W hR hD hK
      have dq7 : vs 7 = .slice a1 n1 d1 := hD 7 (by decide)
      clear hD
      try dsimp only at hK ⊢
      simp only [Act.put, List.setIfInBounds_toArray, List.set_cons_succ, List.set_cons_zero] at hK
      generalize vs 7 = vq7 at hK dq7 ⊢
      subst vq7
      go_wp2_with fail
      exact hK _ _ rfl (Mod.refl _ _)
    refine opsOkA_cons ?_ ?_
    · intro K vs W hR hD hK
      have dq5 : vs 5 = .int .i64 nv := hD 5 (by decide)
      have dq8 : vs 8 = .int .i64 (n1 : Int) := hD 8 (by decide)
      clear hD
      try dsimp only at hK ⊢
      simp only [Act.put, List.setIfInBounds_toArray, List.set_cons_succ, List.set_cons_zero] at hK
      generalize vs 5 = vq5 at hK dq5 ⊢
      subst vq5
      generalize vs 8 = vq8 at hK dq8 ⊢
      subst vq8
      go_wp2_with (go_at_call 21; refine (round_any nv (n1 : Int) W (by omega) (by omega)).mono ?_; rintro e' w' ⟨rfl, rfl⟩; rw [HRV.out])
      exact hK _ _ rfl (Mod.refl _ _)
    refine opsOkA_cons ?_ ?_
    · intro K vs W hR hD hK
      have dq4 : vs 4 = .int .i64 re := hD 4 (by decide)
      clear hD
      try dsimp only at hK ⊢
      simp only [Act.put, List.setIfInBounds_toArray, List.set_cons_succ, List.set_cons_zero] at hK
      generalize vs 4 = vq4 at hK dq4 ⊢
      subst vq4
      go_wp2
      exact hK _ _ rfl (Mod.refl _ _)
    refine opsOkA_cons ?_ ?_
    · intro K vs W hR hD hK
      have dq9 : vs 9 = .int .i64 rv := hD 9 (by decide)
      clear hD
      try dsimp only at hK ⊢
      simp only [Act.put, List.setIfInBounds_toArray, List.set_cons_succ, List.set_cons_zero] at hK
      generalize vs 9 = vq9 at hK dq9 ⊢
      subst vq9
      go_wp2
      exact hK _ _ rfl (Mod.refl _ _)
    exact opsOkA_nil
  · intro vs wq4 hR hF
    have dq10 : vs 10 = .int .i64 re := hF 10 (by decide)
    have dq11 : vs 11 = .int .i64 rv := hF 11 (by decide)
    clear hF
    try dsimp only
    generalize vs 10 = vq10 at dq10 ⊢
    subst dq10
    generalize vs 11 = vq11 at dq11 ⊢
    subst dq11
    replace HS := Lib.hid (HSd.out.step hR)
    clear HSd hR
    have hbbg := (HS.out.now).1
    have qbg_0 := hbbg.cell 0 rfl
    have qbg_1 := hbbg.cell 1 rfl
    have qbg_2 := hbbg.cell 2 rfl
    have lbg := hbbg.lt
    clear hbbg
    have hnv : 0 ≤ rv ∧ rv < (G.N.length : Int) := ⟨hrv0, by rw [hn.out]; exact hrv1⟩
    obtain ⟨kr, hkr⟩ := Int.eq_ofNat_of_zero_le hre0
    subst hkr
    have hkE : kr < G.E.length := by rw [he.out]; omega
    have hkn : kr < n2 := by omega
    have HVN := Lib.hid hnv
    clear hnv
    go_wp2_with fail
    refine (lway_any t p B C G hmay.out _ ((HS.out.now).2.1) (kr : Int) rv none 0 0 [] rfl (Rd.nil _ _)).mono ?_
    rintro e wq5 ⟨r, hwr, aw, lw, cw, rfl, hwl, hwd, hmm⟩
    replace HS := Lib.hid (HS.out.step hmm)
    clear hmm
    replace HS := Lib.hid ((Ev.rd hwd).and HS.out)
    have hln := hwr.len
    have HWR := Lib.hid hwr
    rw [hwl] at hln
    obtain ⟨ws, hws⟩ : ∃ x, r.getD [] = x := ⟨_, rfl⟩
    obtain ⟨ok, hok⟩ : ∃ x, r.isSome = x := ⟨_, rfl⟩
    rw [hok]
    rw [hws] at HS hwl
    have HWL := Lib.hid hwl
    have HWS := Lib.hid hws
    have HOK := Lib.hid hok
    clear hwd hwr hwl hws hok
    clear qbg_0 qbg_1 qbg_2 lbg
    have hbbg := (HS.out.now).2.1
    have qbg_0 := hbbg.cell 0 rfl
    have qbg_1 := hbbg.cell 1 rfl
    have qbg_2 := hbbg.cell 2 rfl
    have lbg := hbbg.lt
    clear hbbg
    go_wp2_with fail
    refine (r4to_far G hmay.out _ a1 n1 d1 a2 n2 d2 a3 n3 d3 ((HS.out.now).2.2.2.1) rv none 0 0 [] rfl (Rd.nil _ _)).mono ?_
    rintro e wq6 ⟨x, rfl, ⟨ad, nd, cd, d, rfl, hdl, _, hdr, hdt⟩, hmm⟩
    replace HS := Lib.hid (HS.out.step hmm)
    clear hmm
    replace HS := Lib.hid ((Ev.rd hdr).and HS.out)
    have hdf : Fix (webTo G hmay.out rv []) d := by rcases hdt with ⟨_, h⟩ | ⟨h, _⟩; exact h; exact absurd HVN.out h
    have hd2 : n2 = nd := by rw [← hdl, hdf.len]; exact he.out.symm
    subst hd2
    have hat := HWR.out.at HVN.out hkE hdf
    have HAT := Lib.hid hat
    have HDF := Lib.hid hdf
    have HDL := Lib.hid hdl
    clear hdt hdr hdf hdl hat
    clear qbg_0 qbg_1 qbg_2 lbg
    have hbbg := (HS.out.now).2.2.1
    have qbg_0 := hbbg.cell 0 rfl
    have qbg_1 := hbbg.cell 1 rfl
    have qbg_2 := hbbg.cell 2 rfl
    have lbg := hbbg.lt
    clear hbbg
    cases ok with
    | false =>
      have hd_k : kr < d.length := by rw [HDL.out]; exact hkn
      have hda_k := dAt_eq d kr hd_k
      obtain ⟨dc, HDC0⟩ : ∃ qz, d[kr] = qz := ⟨_, rfl⟩
      have HDC := Lib.hid HDC0
      clear HDC0
      rw [HDC.out] at hda_k
      have HDA := Lib.hid hda_k
      clear hda_k
      obtain ⟨kb, ko, hpl, e0⟩ := rd1 (HS.out.now).1 kr hd_k
      have hix := fun wx => run_indexS (P := Try.prog) wx 22 3 iI 1 Try.underlying22 hiI hsI ad n2 cd kr hkn ((HS.out.now).1.some_ (by have := hkn; omega))
      rw [hpl] at hix
      have HIk := Lib.hid hix
      clear hix hpl
      rw [HDC.out] at e0
      replace HS := Lib.hid ((Ev.cell e0).and HS.out)
      clear e0
      have hlt : dc < 0 := by
        have h := HAT.out
        have ho := HOK.out
        by_cases h0 : 0 ≤ dAt d kr
        · rw [if_pos h0] at h; rw [h] at ho; cases ho
        · rw [HDA.out] at h0; omega
      have z0 : decide (dc < 0) = true := by simpa using hlt
      have qk := (HS.out.now).1
      have hix := HIk.out
      go_wp2_with fail
      refine (awake12_any _).mono ?_
      rintro e wq7 ⟨rfl, hmz⟩
      replace HS := Lib.hid (HS.out.step hmz)
      clear hmz
      clear qbg_0 qbg_1 qbg_2 lbg
      have hbbg := (HS.out.now).2.2.2.1
      have qbg_0 := hbbg.cell 0 rfl
      have qbg_1 := hbbg.cell 1 rfl
      have qbg_2 := hbbg.cell 2 rfl
      have lbg := hbbg.lt
      clear hbbg
      go_wp2_with fail
      go_ret
      exact ⟨rfl, (HS.out.now).2.2.2.2.2.2.2⟩
    | true =>
      have hpos : 0 ≤ dAt d kr ∧ ws = wayN G d [] kr := by
        have h := HAT.out
        have ho := HOK.out
        have hs := HWS.out
        by_cases h0 : 0 ≤ dAt d kr
        · rw [if_pos h0] at h; rw [h] at hs; exact ⟨h0, hs.symm⟩
        · rw [if_neg h0] at h; rw [h] at ho; cases ho
      have hp1 := hpos.1
      have HP2 := Lib.hid hpos.2
      clear hpos
      go_wp2_with fail
      replace HS := Lib.hid ((Ev.mod wq6).and HS.out)
      go_loopw [9, 14] (fun av iv wr => ∃ (cur i0 : Nat), i0 ≤ lw ∧ av = .int .i64 cur ∧ iv = .int .i64 i0 ∧ cur < n2 ∧ 0 ≤ dAt d cur ∧ ws.drop i0 = wayN G d [] cur ∧ Mod (fun _ => False) wq6 wr) (fun av iv _ => lw - (intOf iv).toNat)
      case atStart => exact ⟨kr, 0, by omega, rfl, rfl, hkn, hp1, HP2.out, Mod.refl _ _⟩
      case round =>
        obtain ⟨cur, i0, hi0, rfl, rfl, hcn, hc0, hcw, hmr⟩ := hrel
        obtain ⟨wo, hwo⟩ : ∃ x : World, x = wr := ⟨_, rfl⟩
        subst hwo
        replace HS := Lib.hid (HS.out.step hmr)
        clear hmr
        clear qbg_0 qbg_1 qbg_2 lbg
        have hbbg := (HS.out.now).2.2.2.1
        have qbg_0 := hbbg.cell 0 rfl
        have qbg_1 := hbbg.cell 1 rfl
        have qbg_2 := hbbg.cell 2 rfl
        have lbg := hbbg.lt
        clear hbbg
        have HCW := Lib.hid hcw
        clear hcw
        by_cases hli : i0 < lw
        case pos =>
          have z0 : decide ((i0 : Int) < (lw : Int)) = true := by simp; omega
          have hil : i0 < ws.length := by rw [HWL.out]; exact hli
          have hdr := HCW.out
          rw [List.drop_eq_getElem_cons hil] at hdr
          have hpos : 0 < dAt d cur := by
            by_cases h : 0 < dAt d cur
            · exact h
            · rw [wayN_end h] at hdr; cases hdr
          obtain ⟨j, hj, hjE, _, _, hj0, _, hjl⟩ := next_ok HDF.out hpos
          rw [wayN_step HDF.out hpos hj] at hdr
          have hwj : ws[i0] = (j : Int) := (List.cons.inj hdr).1
          have HDR := Lib.hid (List.cons.inj hdr).2
          have hjn : j < n2 := by rw [← he.out]; exact hjE
          have HJ := Lib.hid hj
          have HWJ := Lib.hid hwj
          clear hdr hj hwj
          obtain ⟨gb, go, hpl, e0⟩ := rd1 (HS.out.now).2.2.1 i0 hil
          have hix := fun wx => run_indexS (P := Try.prog) wx 22 3 iI 1 Try.underlying22 hiI hsI aw lw cw i0 hli ((HS.out.now).2.2.1.some_ (by have := hli; omega))
          rw [hpl] at hix
          have HIg := Lib.hid hix
          clear hix hpl
          rw [HWJ.out] at e0
          replace HS := Lib.hid ((Ev.cell e0).and HS.out)
          clear e0
          have hd_k : cur < d.length := by rw [HDL.out]; exact hcn
          have hda_k := dAt_eq d cur hd_k
          obtain ⟨dc, HDC0⟩ : ∃ qz, d[cur] = qz := ⟨_, rfl⟩
          have HDC := Lib.hid HDC0
          clear HDC0
          rw [HDC.out] at hda_k
          have HDA := Lib.hid hda_k
          clear hda_k
          obtain ⟨kb, ko, hpl, e0⟩ := rd1 (HS.out.now).2.2.1 cur hd_k
          have hix := fun wx => run_indexS (P := Try.prog) wx 22 3 iI 1 Try.underlying22 hiI hsI ad n2 cd cur hcn ((HS.out.now).2.2.1.some_ (by have := hcn; omega))
          rw [hpl] at hix
          have HIk := Lib.hid hix
          clear hix hpl
          rw [HDC.out] at e0
          replace HS := Lib.hid ((Ev.cell e0).and HS.out)
          clear e0
          go_wp2_with fail
          refine (r4next_any G _ a1 n1 d1 a2 n2 d2 a3 n3 d3 ((HS.out.now).2.2.2.2.2.2.2.1) (by omega) (by omega) (cur : Int)).mono ?_
          rintro e wq8 ⟨v', rfl, ⟨an, cn, rfl, hx'⟩, hmm⟩
          replace HS := Lib.hid (HS.out.step hmm)
          clear hmm
          clear z0
          replace HS := Lib.hid ((Ev.rd hx').and HS.out)
          clear hx'
          have hnl := nxtR_len G (cur : Int)
          obtain ⟨ns, hns⟩ : ∃ x, nxtR G (cur : Int) = x := ⟨_, rfl⟩
          have hin : ∀ (i : Nat) (h : i < ns.length), ∃ q : Nat, ns[i] = (q : Int) ∧ q < G.E.length ∧ (q : Int) ∈ nxtR G (cur : Int) := by subst hns; intro i h; obtain ⟨q, h1, h2, _⟩ := nxtR_at G (cur : Int) i h; exact ⟨q, h1, h2, by rw [← h1]; exact List.getElem_mem h⟩
          rw [hns] at HS hnl ⊢
          obtain ⟨ln, hln⟩ : ∃ n, ns.length = n := ⟨_, rfl⟩
          rw [hln] at HS hnl ⊢
          have hl1 : ln ≤ 512 := by have := he.out; omega
          have HLN := Lib.hid hln
          have HIN := Lib.hid hin
          clear hln hnl hin hns
          clear qbg_0 qbg_1 qbg_2 lbg
          have hbbg := (HS.out.now).2.2.2.2.2.2.1
          have qbg_0 := hbbg.cell 0 rfl
          have qbg_1 := hbbg.cell 1 rfl
          have qbg_2 := hbbg.cell 2 rfl
          have lbg := hbbg.lt
          clear hbbg
          go_wp2_with fail
          replace HS := Lib.hid ((Ev.mod wq8).and HS.out)
          go_loopw [16] (fun qv wr => ∃ (q : Nat), q ≤ ln ∧ qv = .int .i64 q ∧ Mod (fun _ => False) wq8 wr) (fun qv _ => ln - (intOf qv).toNat)
          case atStart => exact ⟨0, by omega, rfl, Mod.refl _ _⟩
          case round =>
            obtain ⟨q, hq, rfl, hmr⟩ := hrel
            obtain ⟨wn, hwo⟩ : ∃ x : World, x = wr := ⟨_, rfl⟩
            subst hwo
            replace HS := Lib.hid (HS.out.step hmr)
            clear hmr
            clear qbg_0 qbg_1 qbg_2 lbg
            have hbbg := (HS.out.now).2.2.2.2.2.2.2.1
            have qbg_0 := hbbg.cell 0 rfl
            have qbg_1 := hbbg.cell 1 rfl
            have qbg_2 := hbbg.cell 2 rfl
            have lbg := hbbg.lt
            clear hbbg
            by_cases hlq : q < ln
            case neg =>
              have Z3 := Lib.hid (show decide ((q : Int) < (ln : Int)) = false by simp; omega)
              go_upto_region 16 with fail
              clear qbg_0 qbg_1 qbg_2 lbg
              have HSd := Lib.hid HS.out.drew
              refine wp_region_inv3 (act := ?actlf_r16_1) (Mod (fun _ => False)) (fun i => (lf_r16_1_F q ln cn an).getD i (fun _ _ => True)) (fun i => lf_r16_1_D.getD i []) (by kernel_rfl) (by kernel_rfl) (by kernel_rfl) (by kernel_rfl) (fun _ => Mod.refl _ _)
                (fun _ _ _ h k => h.trans k (fun _ _ e => e) (fun _ _ e => e)) ?hactlf_r16_1 (stable_list ?_) ?_ ?_
              case hactlf_r16_1 => intro vs; simp only [putAll, Nat.zero_add, Nat.reduceAdd, Act.put, List.setIfInBounds_toArray, List.set_cons_succ, List.set_cons_zero]; exact rfl
              · unfold lf_r16_1_F
                exact stable_cons (stable_val _) <| stable_cons (stable_val _) <| stable_cons (stable_val _) <| stable_cons (stable_val _) <| stable_cons (stable_val _) <| stable_cons (stable_val _) <| stable_cons (stable_val _) <| stable_cons (stable_val _) <| stable_cons (stable_val _) <| stable_cons (stable_val _) <| stable_cons (stable_val _) <| stable_cons (stable_val _) <| stable_cons (stable_val _) <| stable_cons (stable_val _) <| stable_cons (stable_val _) <| stable_nil
              · refine opsOkA_cons ?_ ?_
                · intro K vs W hR hD hK
                  clear hD
                  try dsimp only at hK ⊢
                  simp only [Act.put, List.setIfInBounds_toArray, List.set_cons_succ, List.set_cons_zero] at hK
                  go_wp2
                  exact hK _ _ rfl (Mod.refl _ _)
                refine opsOkA_cons ?_ ?_
                · intro K vs W hR hD hK
                  clear hD
                  try dsimp only at hK ⊢
                  simp only [Act.put, List.setIfInBounds_toArray, List.set_cons_succ, List.set_cons_zero] at hK
                  go_wp2
                  exact hK _ _ rfl (Mod.refl _ _)
                refine opsOkA_cons ?_ ?_
                · intro K vs W hR hD hK
                  have dq1 : vs 1 = .slice an ln cn := hD 1 (by decide)
                  clear hD
                  try dsimp only at hK ⊢
                  simp only [Act.put, List.setIfInBounds_toArray, List.set_cons_succ, List.set_cons_zero] at hK
                  generalize vs 1 = vq1 at hK dq1 ⊢
                  subst vq1
                  go_wp2_with fail
                  exact hK _ _ rfl (Mod.refl _ _)
                refine opsOkA_cons ?_ ?_
                · intro K vs W hR hD hK
                  have dq0 : vs 0 = .int .i64 (q : Int) := hD 0 (by decide)
                  have dq2 : vs 2 = .int .i64 (ln : Int) := hD 2 (by decide)
                  clear hD
                  try dsimp only at hK ⊢
                  simp only [Act.put, List.setIfInBounds_toArray, List.set_cons_succ, List.set_cons_zero] at hK
                  generalize vs 0 = vq0 at hK dq0 ⊢
                  subst vq0
                  generalize vs 2 = vq2 at hK dq2 ⊢
                  subst vq2
                  have zz := Z3.out
                  go_wp2
                  exact hK _ _ rfl (Mod.refl _ _)
                refine opsOkA_cons ?_ ?_
                · intro K vs W hR hD hK
                  have dq3 : vs 3 = .bool false := hD 3 (by decide)
                  clear hD
                  try dsimp only at hK ⊢
                  simp only [Act.put, List.setIfInBounds_toArray, List.set_cons_succ, List.set_cons_zero] at hK
                  generalize vs 3 = vq3 at hK dq3 ⊢
                  subst vq3
                  go_wp2
                  exact hK _ _ rfl (Mod.refl _ _)
                refine opsOkA_cons ?_ ?_
                · intro K vs W hR hD hK
                  have dq4 : vs 4 = .bool false := hD 4 (by decide)
                  clear hD
                  try dsimp only at hK ⊢
                  simp only [Act.put, List.setIfInBounds_toArray, List.set_cons_succ, List.set_cons_zero] at hK
                  generalize vs 4 = vq4 at hK dq4 ⊢
                  subst vq4
                  go_wp2
                  exact hK _ _ rfl (Mod.refl _ _)
                refine opsOkA_cons ?_ ?_
                · intro K vs W hR hD hK
                  have dq4 : vs 4 = .bool false := hD 4 (by decide)
                  clear hD
                  try dsimp only at hK ⊢
                  simp only [Act.put, List.setIfInBounds_toArray, List.set_cons_succ, List.set_cons_zero] at hK
                  generalize vs 4 = vq4 at hK dq4 ⊢
                  subst vq4
                  go_wp2
                  exact hK _ _ rfl (Mod.refl _ _)
                refine opsOkA_cons ?_ ?_
                · intro K vs W hR hD hK
                  have dq4 : vs 4 = .bool false := hD 4 (by decide)
                  clear hD
                  try dsimp only at hK ⊢
                  simp only [Act.put, List.setIfInBounds_toArray, List.set_cons_succ, List.set_cons_zero] at hK
                  generalize vs 4 = vq4 at hK dq4 ⊢
                  subst vq4
                  go_wp2_with fail
                  exact hK _ _ rfl (Mod.refl _ _)
                refine opsOkA_cons ?_ ?_
                · intro K vs W hR hD hK
                  have dq4 : vs 4 = .bool false := hD 4 (by decide)
                  clear hD
                  try dsimp only at hK ⊢
                  simp only [Act.put, List.setIfInBounds_toArray, List.set_cons_succ, List.set_cons_zero] at hK
                  generalize vs 4 = vq4 at hK dq4 ⊢
                  subst vq4
                  go_wp2
                  exact hK _ _ rfl (Mod.refl _ _)
                refine opsOkA_cons ?_ ?_
                · intro K vs W hR hD hK
                  have dq4 : vs 4 = .bool false := hD 4 (by decide)
                  clear hD
                  try dsimp only at hK ⊢
                  simp only [Act.put, List.setIfInBounds_toArray, List.set_cons_succ, List.set_cons_zero] at hK
                  generalize vs 4 = vq4 at hK dq4 ⊢
                  subst vq4
                  go_wp2
                  exact hK _ _ rfl (Mod.refl _ _)
                refine opsOkA_cons ?_ ?_
                · intro K vs W hR hD hK
                  have dq4 : vs 4 = .bool false := hD 4 (by decide)
                  clear hD
                  try dsimp only at hK ⊢
                  simp only [Act.put, List.setIfInBounds_toArray, List.set_cons_succ, List.set_cons_zero] at hK
                  generalize vs 4 = vq4 at hK dq4 ⊢
                  subst vq4
                  go_wp2
                  exact hK _ _ rfl (Mod.refl _ _)
                refine opsOkA_cons ?_ ?_
                · intro K vs W hR hD hK
                  have dq4 : vs 4 = .bool false := hD 4 (by decide)
                  clear hD
                  try dsimp only at hK ⊢
                  simp only [Act.put, List.setIfInBounds_toArray, List.set_cons_succ, List.set_cons_zero] at hK
                  generalize vs 4 = vq4 at hK dq4 ⊢
                  subst vq4
                  go_wp2_with fail
                  exact hK _ _ rfl (Mod.refl _ _)
                refine opsOkA_cons ?_ ?_
                · intro K vs W hR hD hK
                  have dq4 : vs 4 = .bool false := hD 4 (by decide)
                  clear hD
                  try dsimp only at hK ⊢
                  simp only [Act.put, List.setIfInBounds_toArray, List.set_cons_succ, List.set_cons_zero] at hK
                  generalize vs 4 = vq4 at hK dq4 ⊢
                  subst vq4
                  go_wp2
                  exact hK _ _ rfl (Mod.refl _ _)
                refine opsOkA_cons ?_ ?_
                · intro K vs W hR hD hK
                  have dq4 : vs 4 = .bool false := hD 4 (by decide)
                  clear hD
                  try dsimp only at hK ⊢
                  simp only [Act.put, List.setIfInBounds_toArray, List.set_cons_succ, List.set_cons_zero] at hK
                  generalize vs 4 = vq4 at hK dq4 ⊢
                  subst vq4
                  go_wp2
                  exact hK _ _ rfl (Mod.refl _ _)
                refine opsOkA_cons ?_ ?_
                · intro K vs W hR hD hK
                  have dq4 : vs 4 = .bool false := hD 4 (by decide)
                  have dq13 : vs 13 = undef := hD 13 (by decide)
                  clear hD
                  try dsimp only at hK ⊢
                  simp only [Act.put, List.setIfInBounds_toArray, List.set_cons_succ, List.set_cons_zero] at hK
                  generalize vs 4 = vq4 at hK dq4 ⊢
                  subst vq4
                  generalize vs 13 = vq13 at hK dq13 ⊢
                  subst vq13
                  go_wp2
                  exact hK _ _ rfl (Mod.refl _ _)
                exact opsOkA_nil
              · intro vs wq9 hR hF
                have dq14 : vs 14 = .bool false := hF 14 (by decide)
                clear hF
                try dsimp only
                generalize vs 14 = vq14 at dq14 ⊢
                subst dq14
                replace HS := Lib.hid (HSd.out.step hR)
                clear HSd hR
                have hbbg := (HS.out.now).2.2.2.2.2.2.2.1
                have qbg_0 := hbbg.cell 0 rfl
                have qbg_1 := hbbg.cell 1 rfl
                have qbg_2 := hbbg.cell 2 rfl
                have lbg := hbbg.lt
                clear hbbg
                go_upto_region 20 with fail
                clear qbg_0 qbg_1 qbg_2 lbg
                have HSd := Lib.hid HS.out.drew
                refine wp_region_inv3 (act := ?actlf_r20_2) (Mod (fun _ => False)) (fun i => (lf_r20_2_F lw cw i0 j aw a1 a2 a3 n1 d1 n2 d2 n3 d3 gb go).getD i (fun _ _ => True)) (fun i => lf_r20_2_D.getD i []) (by kernel_rfl) (by kernel_rfl) (by kernel_rfl) (by kernel_rfl) (fun _ => Mod.refl _ _)
                  (fun _ _ _ h k => h.trans k (fun _ _ e => e) (fun _ _ e => e)) ?hactlf_r20_2 (stable_list ?_) ?_ ?_
                case hactlf_r20_2 => intro vs; simp only [putAll, Nat.zero_add, Nat.reduceAdd, Act.put, List.setIfInBounds_toArray, List.set_cons_succ, List.set_cons_zero]; exact rfl
                · unfold lf_r20_2_F
                  exact stable_cons (stable_val _) <| stable_cons (stable_val _) <| stable_cons (stable_val _) <| stable_cons (stable_val _) <| stable_cons (stable_val _) <| stable_cons (stable_val _) <| stable_nil
                · refine opsOkA_cons ?_ ?_
                  · intro K vs W hR hD hK
                    clear hD
                    try dsimp only at hK ⊢
                    simp only [Act.put, List.setIfInBounds_toArray, List.set_cons_succ, List.set_cons_zero] at hK
                    have hbx := (HSd.out.at (hR)).2.2.2.2.2.2.2.1
                    have q0 := hbx.cell 0 rfl
                    have q1 := hbx.cell 1 rfl
                    have q2 := hbx.cell 2 rfl
                    go_wp2
                    exact hK _ _ rfl (Mod.refl _ _)
                  refine opsOkA_cons ?_ ?_
                  · intro K vs W hR hD hK
                    clear hD
                    try dsimp only at hK ⊢
                    simp only [Act.put, List.setIfInBounds_toArray, List.set_cons_succ, List.set_cons_zero] at hK
                    go_wp2
                    exact hK _ _ rfl (Mod.refl _ _)
                  refine opsOkA_cons ?_ ?_
                  · intro K vs W hR hD hK
                    clear hD
                    try dsimp only at hK ⊢
                    simp only [Act.put, List.setIfInBounds_toArray, List.set_cons_succ, List.set_cons_zero] at hK
                    go_wp2
                    exact hK _ _ rfl (Mod.refl _ _)
                  refine opsOkA_cons ?_ ?_
                  · intro K vs W hR hD hK
                    have dq1 : vs 1 = .slice aw lw cw := hD 1 (by decide)
                    have dq2 : vs 2 = .int .i64 (i0 : Int) := hD 2 (by decide)
                    clear hD
                    try dsimp only at hK ⊢
                    simp only [Act.put, List.setIfInBounds_toArray, List.set_cons_succ, List.set_cons_zero] at hK
                    generalize vs 1 = vq1 at hK dq1 ⊢
                    subst vq1
                    generalize vs 2 = vq2 at hK dq2 ⊢
                    subst vq2
                    have hix := HIg.out
                    go_wp2_with fail
                    exact hK _ _ rfl (Mod.refl _ _)
                  refine opsOkA_cons ?_ ?_
                  · intro K vs W hR hD hK
                    have dq3 : vs 3 = .pointer (some ⟨gb, go, none⟩) := hD 3 (by decide)
                    clear hD
                    try dsimp only at hK ⊢
                    simp only [Act.put, List.setIfInBounds_toArray, List.set_cons_succ, List.set_cons_zero] at hK
                    generalize vs 3 = vq3 at hK dq3 ⊢
                    subst vq3
                    have c0 := (HSd.out.at (hR)).2.2.2.1
                    go_wp2
                    exact hK _ _ rfl (Mod.refl _ _)
                  refine opsOkA_cons ?_ ?_
                  · intro K vs W hR hD hK
                    have dq0 : vs 0 = .agg #[.slice a1 n1 d1, .slice a2 n2 d2, .slice a3 n3 d3] := hD 0 (by decide)
                    have dq4 : vs 4 = .int .i64 (j : Int) := hD 4 (by decide)
                    clear hD
                    try dsimp only at hK ⊢
                    simp only [Act.put, List.setIfInBounds_toArray, List.set_cons_succ, List.set_cons_zero] at hK
                    generalize vs 0 = vq0 at hK dq0 ⊢
                    subst vq0
                    generalize vs 4 = vq4 at hK dq4 ⊢
                    subst vq4
                    go_wp2_with (go_at_call 31; refine (r4edge_any G W a1 n1 d1 a2 n2 d2 a3 n3 d3 ((HSd.out.at (hR)).2.2.2.2.2.2.2.2.2.1) (by omega) (j : Int)).mono ?_; rintro e' w' ⟨rfl, hm'⟩; rw [decide_eq_true (show 0 ≤ (j : Int) ∧ (j : Int) < (G.E.length : Int) by omega)])
                    exact hK _ _ rfl hm'
                  exact opsOkA_nil
                · intro vs wq10 hR hF
                  have dq5 : vs 5 = .bool true := hF 5 (by decide)
                  clear hF
                  try dsimp only
                  generalize vs 5 = vq5 at dq5 ⊢
                  subst dq5
                  replace HS := Lib.hid (HSd.out.step hR)
                  clear HSd hR
                  have hbbg := (HS.out.now).2.2.2.2.2.2.2.1
                  have qbg_0 := hbbg.cell 0 rfl
                  have qbg_1 := hbbg.cell 1 rfl
                  have qbg_2 := hbbg.cell 2 rfl
                  have lbg := hbbg.lt
                  clear hbbg
                  have qg := (HS.out.now).2.2.2.1
                  have hix1 := HIg.out
                  go_wp2_with fail
                  go_roundw
                  case rel => exact ⟨j, i0 + 1, hli, rfl, by go_num, hjn, hj0, HDR.out, (HS.out.now).2.2.2.2.1⟩
                  case measure => simp [intOf]; omega
            case pos =>
              have Z3 := Lib.hid (show decide ((q : Int) < (ln : Int)) = true by simp; omega)
              have hql : q < ns.length := by rw [HLN.out]; exact hlq
              obtain ⟨xq, hxq, hxE, hxm⟩ := HIN.out q hql
              have hxn : xq < n2 := by rw [← he.out]; exact hxE
              have HXQ := Lib.hid hxq
              have HXM := Lib.hid hxm
              clear hxq hxm
              obtain ⟨fb, fo, hpl, e0⟩ := rd1 (HS.out.now).2.1 q hql
              have hix := fun wx => run_indexS (P := Try.prog) wx 22 3 iI 1 Try.underlying22 hiI hsI an ln cn q hlq ((HS.out.now).2.1.some_ (by have := hlq; omega))
              rw [hpl] at hix
              have HIf := Lib.hid hix
              clear hix hpl
              rw [HXQ.out] at e0
              replace HS := Lib.hid ((Ev.cell e0).and HS.out)
              clear e0
              by_cases hxj : xq < j
              case neg =>
                have Z13 := Lib.hid (show decide ((xq : Int) < (j : Int)) = false by simp; omega)
                go_upto_region 16 with fail
                clear qbg_0 qbg_1 qbg_2 lbg
                have HSd := Lib.hid HS.out.drew
                refine wp_region_inv3 (act := ?actlf_r16_3) (Mod (fun _ => False)) (fun i => (lf_r16_3_F lw cw i0 xq j q ln cn aw an gb go fb fo).getD i (fun _ _ => True)) (fun i => lf_r16_3_D.getD i []) (by kernel_rfl) (by kernel_rfl) (by kernel_rfl) (by kernel_rfl) (fun _ => Mod.refl _ _)
                  (fun _ _ _ h k => h.trans k (fun _ _ e => e) (fun _ _ e => e)) ?hactlf_r16_3 (stable_list ?_) ?_ ?_
                case hactlf_r16_3 => intro vs; simp only [putAll, Nat.zero_add, Nat.reduceAdd, Act.put, List.setIfInBounds_toArray, List.set_cons_succ, List.set_cons_zero]; exact rfl
                · unfold lf_r16_3_F
                  exact stable_cons (stable_val _) <| stable_cons (stable_val _) <| stable_cons (stable_val _) <| stable_cons (stable_val _) <| stable_cons (stable_val _) <| stable_cons (stable_val _) <| stable_cons (stable_val _) <| stable_cons (stable_val _) <| stable_cons (stable_val _) <| stable_cons (stable_val _) <| stable_cons (stable_val _) <| stable_cons (stable_val _) <| stable_cons (stable_val _) <| stable_cons (stable_val _) <| stable_cons (stable_val _) <| stable_nil
                · refine opsOkA_cons ?_ ?_
                  · intro K vs W hR hD hK
                    clear hD
                    try dsimp only at hK ⊢
                    simp only [Act.put, List.setIfInBounds_toArray, List.set_cons_succ, List.set_cons_zero] at hK
                    go_wp2
                    exact hK _ _ rfl (Mod.refl _ _)
                  refine opsOkA_cons ?_ ?_
                  · intro K vs W hR hD hK
                    clear hD
                    try dsimp only at hK ⊢
                    simp only [Act.put, List.setIfInBounds_toArray, List.set_cons_succ, List.set_cons_zero] at hK
                    go_wp2
                    exact hK _ _ rfl (Mod.refl _ _)
                  refine opsOkA_cons ?_ ?_
                  · intro K vs W hR hD hK
                    have dq1 : vs 1 = .slice an ln cn := hD 1 (by decide)
                    clear hD
                    try dsimp only at hK ⊢
                    simp only [Act.put, List.setIfInBounds_toArray, List.set_cons_succ, List.set_cons_zero] at hK
                    generalize vs 1 = vq1 at hK dq1 ⊢
                    subst vq1
                    go_wp2_with fail
                    exact hK _ _ rfl (Mod.refl _ _)
                  refine opsOkA_cons ?_ ?_
                  · intro K vs W hR hD hK
                    have dq0 : vs 0 = .int .i64 (q : Int) := hD 0 (by decide)
                    have dq2 : vs 2 = .int .i64 (ln : Int) := hD 2 (by decide)
                    clear hD
                    try dsimp only at hK ⊢
                    simp only [Act.put, List.setIfInBounds_toArray, List.set_cons_succ, List.set_cons_zero] at hK
                    generalize vs 0 = vq0 at hK dq0 ⊢
                    subst vq0
                    generalize vs 2 = vq2 at hK dq2 ⊢
                    subst vq2
                    have zz := Z3.out
                    go_wp2
                    exact hK _ _ rfl (Mod.refl _ _)
                  refine opsOkA_cons ?_ ?_
                  · intro K vs W hR hD hK
                    have dq3 : vs 3 = .bool true := hD 3 (by decide)
                    clear hD
                    try dsimp only at hK ⊢
                    simp only [Act.put, List.setIfInBounds_toArray, List.set_cons_succ, List.set_cons_zero] at hK
                    generalize vs 3 = vq3 at hK dq3 ⊢
                    subst vq3
                    go_wp2
                    exact hK _ _ rfl (Mod.refl _ _)
                  refine opsOkA_cons ?_ ?_
                  · intro K vs W hR hD hK
                    have dq4 : vs 4 = .bool true := hD 4 (by decide)
                    clear hD
                    try dsimp only at hK ⊢
                    simp only [Act.put, List.setIfInBounds_toArray, List.set_cons_succ, List.set_cons_zero] at hK
                    generalize vs 4 = vq4 at hK dq4 ⊢
                    subst vq4
                    go_wp2
                    exact hK _ _ rfl (Mod.refl _ _)
                  refine opsOkA_cons ?_ ?_
                  · intro K vs W hR hD hK
                    have dq4 : vs 4 = .bool true := hD 4 (by decide)
                    clear hD
                    try dsimp only at hK ⊢
                    simp only [Act.put, List.setIfInBounds_toArray, List.set_cons_succ, List.set_cons_zero] at hK
                    generalize vs 4 = vq4 at hK dq4 ⊢
                    subst vq4
                    go_wp2
                    exact hK _ _ rfl (Mod.refl _ _)
                  refine opsOkA_cons ?_ ?_
                  · intro K vs W hR hD hK
                    have dq4 : vs 4 = .bool true := hD 4 (by decide)
                    have dq5 : vs 5 = .slice an ln cn := hD 5 (by decide)
                    have dq6 : vs 6 = .int .i64 (q : Int) := hD 6 (by decide)
                    clear hD
                    try dsimp only at hK ⊢
                    simp only [Act.put, List.setIfInBounds_toArray, List.set_cons_succ, List.set_cons_zero] at hK
                    generalize vs 4 = vq4 at hK dq4 ⊢
                    subst vq4
                    generalize vs 5 = vq5 at hK dq5 ⊢
                    subst vq5
                    generalize vs 6 = vq6 at hK dq6 ⊢
                    subst vq6
                    have hix := HIf.out
                    go_wp2_with fail
                    exact hK _ _ rfl (Mod.refl _ _)
                  refine opsOkA_cons ?_ ?_
                  · intro K vs W hR hD hK
                    have dq4 : vs 4 = .bool true := hD 4 (by decide)
                    have dq7 : vs 7 = .pointer (some ⟨fb, fo, none⟩) := hD 7 (by decide)
                    clear hD
                    try dsimp only at hK ⊢
                    simp only [Act.put, List.setIfInBounds_toArray, List.set_cons_succ, List.set_cons_zero] at hK
                    generalize vs 4 = vq4 at hK dq4 ⊢
                    subst vq4
                    generalize vs 7 = vq7 at hK dq7 ⊢
                    subst vq7
                    have c0 := (HSd.out.at (hR)).1
                    go_wp2
                    exact hK _ _ rfl (Mod.refl _ _)
                  refine opsOkA_cons ?_ ?_
                  · intro K vs W hR hD hK
                    have dq4 : vs 4 = .bool true := hD 4 (by decide)
                    clear hD
                    try dsimp only at hK ⊢
                    simp only [Act.put, List.setIfInBounds_toArray, List.set_cons_succ, List.set_cons_zero] at hK
                    generalize vs 4 = vq4 at hK dq4 ⊢
                    subst vq4
                    go_wp2
                    exact hK _ _ rfl (Mod.refl _ _)
                  refine opsOkA_cons ?_ ?_
                  · intro K vs W hR hD hK
                    have dq4 : vs 4 = .bool true := hD 4 (by decide)
                    clear hD
                    try dsimp only at hK ⊢
                    simp only [Act.put, List.setIfInBounds_toArray, List.set_cons_succ, List.set_cons_zero] at hK
                    generalize vs 4 = vq4 at hK dq4 ⊢
                    subst vq4
                    go_wp2
                    exact hK _ _ rfl (Mod.refl _ _)
                  refine opsOkA_cons ?_ ?_
                  · intro K vs W hR hD hK
                    have dq4 : vs 4 = .bool true := hD 4 (by decide)
                    have dq9 : vs 9 = .slice aw lw cw := hD 9 (by decide)
                    have dq10 : vs 10 = .int .i64 (i0 : Int) := hD 10 (by decide)
                    clear hD
                    try dsimp only at hK ⊢
                    simp only [Act.put, List.setIfInBounds_toArray, List.set_cons_succ, List.set_cons_zero] at hK
                    generalize vs 4 = vq4 at hK dq4 ⊢
                    subst vq4
                    generalize vs 9 = vq9 at hK dq9 ⊢
                    subst vq9
                    generalize vs 10 = vq10 at hK dq10 ⊢
                    subst vq10
                    have hix := HIg.out
                    go_wp2_with fail
                    exact hK _ _ rfl (Mod.refl _ _)
                  refine opsOkA_cons ?_ ?_
                  · intro K vs W hR hD hK
                    have dq4 : vs 4 = .bool true := hD 4 (by decide)
                    have dq11 : vs 11 = .pointer (some ⟨gb, go, none⟩) := hD 11 (by decide)
                    clear hD
                    try dsimp only at hK ⊢
                    simp only [Act.put, List.setIfInBounds_toArray, List.set_cons_succ, List.set_cons_zero] at hK
                    generalize vs 4 = vq4 at hK dq4 ⊢
                    subst vq4
                    generalize vs 11 = vq11 at hK dq11 ⊢
                    subst vq11
                    have c0 := (HSd.out.at (hR)).2.2.2.2.1
                    go_wp2
                    exact hK _ _ rfl (Mod.refl _ _)
                  refine opsOkA_cons ?_ ?_
                  · intro K vs W hR hD hK
                    have dq4 : vs 4 = .bool true := hD 4 (by decide)
                    have dq8 : vs 8 = .int .i64 (xq : Int) := hD 8 (by decide)
                    have dq12 : vs 12 = .int .i64 (j : Int) := hD 12 (by decide)
                    clear hD
                    try dsimp only at hK ⊢
                    simp only [Act.put, List.setIfInBounds_toArray, List.set_cons_succ, List.set_cons_zero] at hK
                    generalize vs 4 = vq4 at hK dq4 ⊢
                    subst vq4
                    generalize vs 8 = vq8 at hK dq8 ⊢
                    subst vq8
                    generalize vs 12 = vq12 at hK dq12 ⊢
                    subst vq12
                    have zz := Z13.out
                    go_wp2
                    exact hK _ _ rfl (Mod.refl _ _)
                  refine opsOkA_cons ?_ ?_
                  · intro K vs W hR hD hK
                    have dq4 : vs 4 = .bool true := hD 4 (by decide)
                    have dq13 : vs 13 = .bool false := hD 13 (by decide)
                    clear hD
                    try dsimp only at hK ⊢
                    simp only [Act.put, List.setIfInBounds_toArray, List.set_cons_succ, List.set_cons_zero] at hK
                    generalize vs 4 = vq4 at hK dq4 ⊢
                    subst vq4
                    generalize vs 13 = vq13 at hK dq13 ⊢
                    subst vq13
                    go_wp2
                    exact hK _ _ rfl (Mod.refl _ _)
                  exact opsOkA_nil
                · intro vs wq11 hR hF
                  have dq14 : vs 14 = .bool false := hF 14 (by decide)
                  clear hF
                  try dsimp only
                  generalize vs 14 = vq14 at dq14 ⊢
                  subst dq14
                  replace HS := Lib.hid (HSd.out.step hR)
                  clear HSd hR
                  have hbbg := (HS.out.now).2.2.2.2.2.2.2.2.1
                  have qbg_0 := hbbg.cell 0 rfl
                  have qbg_1 := hbbg.cell 1 rfl
                  have qbg_2 := hbbg.cell 2 rfl
                  have lbg := hbbg.lt
                  clear hbbg
                  go_upto_region 20 with fail
                  clear qbg_0 qbg_1 qbg_2 lbg
                  have HSd := Lib.hid HS.out.drew
                  refine wp_region_inv3 (act := ?actlf_r20_4) (Mod (fun _ => False)) (fun i => (lf_r20_4_F lw cw i0 j aw a1 a2 a3 n1 d1 n2 d2 n3 d3 gb go).getD i (fun _ _ => True)) (fun i => lf_r20_4_D.getD i []) (by kernel_rfl) (by kernel_rfl) (by kernel_rfl) (by kernel_rfl) (fun _ => Mod.refl _ _)
                    (fun _ _ _ h k => h.trans k (fun _ _ e => e) (fun _ _ e => e)) ?hactlf_r20_4 (stable_list ?_) ?_ ?_
                  case hactlf_r20_4 => intro vs; simp only [putAll, Nat.zero_add, Nat.reduceAdd, Act.put, List.setIfInBounds_toArray, List.set_cons_succ, List.set_cons_zero]; exact rfl
                  · unfold lf_r20_4_F
                    exact stable_cons (stable_val _) <| stable_cons (stable_val _) <| stable_cons (stable_val _) <| stable_cons (stable_val _) <| stable_cons (stable_val _) <| stable_cons (stable_val _) <| stable_nil
                  · refine opsOkA_cons ?_ ?_
                    · intro K vs W hR hD hK
                      clear hD
                      try dsimp only at hK ⊢
                      simp only [Act.put, List.setIfInBounds_toArray, List.set_cons_succ, List.set_cons_zero] at hK
                      have hbx := (HSd.out.at (hR)).2.2.2.2.2.2.2.2.1
                      have q0 := hbx.cell 0 rfl
                      have q1 := hbx.cell 1 rfl
                      have q2 := hbx.cell 2 rfl
                      go_wp2
                      exact hK _ _ rfl (Mod.refl _ _)
                    refine opsOkA_cons ?_ ?_
                    · intro K vs W hR hD hK
                      clear hD
                      try dsimp only at hK ⊢
                      simp only [Act.put, List.setIfInBounds_toArray, List.set_cons_succ, List.set_cons_zero] at hK
                      go_wp2
                      exact hK _ _ rfl (Mod.refl _ _)
                    refine opsOkA_cons ?_ ?_
                    · intro K vs W hR hD hK
                      clear hD
                      try dsimp only at hK ⊢
                      simp only [Act.put, List.setIfInBounds_toArray, List.set_cons_succ, List.set_cons_zero] at hK
                      go_wp2
                      exact hK _ _ rfl (Mod.refl _ _)
                    refine opsOkA_cons ?_ ?_
                    · intro K vs W hR hD hK
                      have dq1 : vs 1 = .slice aw lw cw := hD 1 (by decide)
                      have dq2 : vs 2 = .int .i64 (i0 : Int) := hD 2 (by decide)
                      clear hD
                      try dsimp only at hK ⊢
                      simp only [Act.put, List.setIfInBounds_toArray, List.set_cons_succ, List.set_cons_zero] at hK
                      generalize vs 1 = vq1 at hK dq1 ⊢
                      subst vq1
                      generalize vs 2 = vq2 at hK dq2 ⊢
                      subst vq2
                      have hix := HIg.out
                      go_wp2_with fail
                      exact hK _ _ rfl (Mod.refl _ _)
                    refine opsOkA_cons ?_ ?_
                    · intro K vs W hR hD hK
                      have dq3 : vs 3 = .pointer (some ⟨gb, go, none⟩) := hD 3 (by decide)
                      clear hD
                      try dsimp only at hK ⊢
                      simp only [Act.put, List.setIfInBounds_toArray, List.set_cons_succ, List.set_cons_zero] at hK
                      generalize vs 3 = vq3 at hK dq3 ⊢
                      subst vq3
                      have c0 := (HSd.out.at (hR)).2.2.2.2.1
                      go_wp2
                      exact hK _ _ rfl (Mod.refl _ _)
                    refine opsOkA_cons ?_ ?_
                    · intro K vs W hR hD hK
                      have dq0 : vs 0 = .agg #[.slice a1 n1 d1, .slice a2 n2 d2, .slice a3 n3 d3] := hD 0 (by decide)
                      have dq4 : vs 4 = .int .i64 (j : Int) := hD 4 (by decide)
                      clear hD
                      try dsimp only at hK ⊢
                      simp only [Act.put, List.setIfInBounds_toArray, List.set_cons_succ, List.set_cons_zero] at hK
                      generalize vs 0 = vq0 at hK dq0 ⊢
                      subst vq0
                      generalize vs 4 = vq4 at hK dq4 ⊢
                      subst vq4
                      go_wp2_with (go_at_call 31; refine (r4edge_any G W a1 n1 d1 a2 n2 d2 a3 n3 d3 ((HSd.out.at (hR)).2.2.2.2.2.2.2.2.2.2.1) (by omega) (j : Int)).mono ?_; rintro e' w' ⟨rfl, hm'⟩; rw [decide_eq_true (show 0 ≤ (j : Int) ∧ (j : Int) < (G.E.length : Int) by omega)])
                      exact hK _ _ rfl hm'
                    exact opsOkA_nil
                  · intro vs wq12 hR hF
                    have dq5 : vs 5 = .bool true := hF 5 (by decide)
                    clear hF
                    try dsimp only
                    generalize vs 5 = vq5 at dq5 ⊢
                    subst dq5
                    replace HS := Lib.hid (HSd.out.step hR)
                    clear HSd hR
                    have hbbg := (HS.out.now).2.2.2.2.2.2.2.2.1
                    have qbg_0 := hbbg.cell 0 rfl
                    have qbg_1 := hbbg.cell 1 rfl
                    have qbg_2 := hbbg.cell 2 rfl
                    have lbg := hbbg.lt
                    clear hbbg
                    have qg := (HS.out.now).2.2.2.2.1
                    have hix1 := HIg.out
                    go_wp2_with fail
                    go_roundw
                    case rel => exact ⟨j, i0 + 1, hli, rfl, by go_num, hjn, hj0, HDR.out, (HS.out.now).2.2.2.2.2.1⟩
                    case measure => simp [intOf]; omega
              case pos =>
                have Z13 := Lib.hid (show decide ((xq : Int) < (j : Int)) = true by simp; omega)
                have hwf := fun h => way_first HDF.out HJ.out HXM.out (show (xq : Int) < (j : Int) by omega) h
                rw [Int.toNat_natCast, HDA.out, eAt_eq G xq hxE] at hwf
                have hw := edgeW G hmay.out (xq : Int) ⟨by omega, by omega⟩
                rw [eAt_eq G xq hxE] at hw
                have hmx := HDF.out.most (show G.E.length ≤ 512 by have := he.out; omega) xq
                have hlo := HDF.out.low xq
                obtain ⟨ua, Hua0⟩ : ∃ qz, (G.E[xq]).1 = qz := ⟨_, rfl⟩
                have Hua := Lib.hid Hua0
                clear Hua0
                obtain ⟨ub, Hub0⟩ : ∃ qz, (G.E[xq]).2.1 = qz := ⟨_, rfl⟩
                have Hub := Lib.hid Hub0
                clear Hub0
                obtain ⟨uc, Huc0⟩ : ∃ qz, (G.E[xq]).2.2 = qz := ⟨_, rfl⟩
                have Huc := Lib.hid Huc0
                clear Huc0
                have hd_h : xq < d.length := by rw [HDL.out]; exact hxn
                have hda_h := dAt_eq d xq hd_h
                obtain ⟨dx, HDX0⟩ : ∃ qz, d[xq] = qz := ⟨_, rfl⟩
                have HDX := Lib.hid HDX0
                clear HDX0
                rw [HDX.out] at hda_h
                have HXA := Lib.hid hda_h
                clear hda_h
                obtain ⟨hb, ho, hpl, e0⟩ := rd1 (HS.out.now).2.2.2.2.2.2.1 xq hd_h
                have hix := fun wx => run_indexS (P := Try.prog) wx 22 3 iI 1 Try.underlying22 hiI hsI ad n2 cd xq hxn ((HS.out.now).2.2.2.2.2.2.1.some_ (by have := hxn; omega))
                rw [hpl] at hix
                have HIh := Lib.hid hix
                clear hix hpl
                rw [HDX.out] at e0
                replace HS := Lib.hid ((Ev.cell e0).and HS.out)
                clear e0
                rw [HXA.out] at hmx hlo hwf
                rw [Huc.out] at hw hwf
                have hw1 := hw.1
                have hw2 := hw.2
                have HWF := Lib.hid hwf
                clear hw hwf
                obtain ⟨pb, po, hpl, e0, e1, e2⟩ := rd3 (HS.out.now).2.2.2.2.2.2.2.2.2.2.2.1.re xq hxE
                have hix := fun wx => run_indexS (P := Try.prog) wx 26 43 iE 3 Try.underlying26 hiE hsE a2 n2 d2 xq hxn ((HS.out.now).2.2.2.2.2.2.2.2.2.2.2.1.re.some_ (by have := hxn; omega))
                rw [hpl] at hix
                have HIp := Lib.hid hix
                clear hix hpl
                rw [Hua.out] at e0
                replace HS := Lib.hid ((Ev.cell e0).and HS.out)
                clear e0
                rw [Hub.out] at e1
                replace HS := Lib.hid ((Ev.cell e1).and HS.out)
                clear e1
                rw [Huc.out] at e2
                replace HS := Lib.hid ((Ev.cell e2).and HS.out)
                clear e2
                go_upto_region 16 with fail
                clear qbg_0 qbg_1 qbg_2 lbg
                have HSd := Lib.hid HS.out.drew
                refine wp_region_inv3 (act := ?actlf_r16_5) (Mod (fun _ => False)) (fun i => (lf_r16_5_F lw cw i0 xq j q ln cn aw an gb go fb fo).getD i (fun _ _ => True)) (fun i => lf_r16_5_D.getD i []) (by kernel_rfl) (by kernel_rfl) (by kernel_rfl) (by kernel_rfl) (fun _ => Mod.refl _ _)
                  (fun _ _ _ h k => h.trans k (fun _ _ e => e) (fun _ _ e => e)) ?hactlf_r16_5 (stable_list ?_) ?_ ?_
                case hactlf_r16_5 => intro vs; simp only [putAll, Nat.zero_add, Nat.reduceAdd, Act.put, List.setIfInBounds_toArray, List.set_cons_succ, List.set_cons_zero]; exact rfl
                · unfold lf_r16_5_F
                  exact stable_cons (stable_val _) <| stable_cons (stable_val _) <| stable_cons (stable_val _) <| stable_cons (stable_val _) <| stable_cons (stable_val _) <| stable_cons (stable_val _) <| stable_cons (stable_val _) <| stable_cons (stable_val _) <| stable_cons (stable_val _) <| stable_cons (stable_val _) <| stable_cons (stable_val _) <| stable_cons (stable_val _) <| stable_cons (stable_val _) <| stable_cons (stable_val _) <| stable_cons (stable_val _) <| stable_nil
                · refine opsOkA_cons ?_ ?_
                  · intro K vs W hR hD hK
                    clear hD
                    try dsimp only at hK ⊢
                    simp only [Act.put, List.setIfInBounds_toArray, List.set_cons_succ, List.set_cons_zero] at hK
                    go_wp2
                    exact hK _ _ rfl (Mod.refl _ _)
                  refine opsOkA_cons ?_ ?_
                  · intro K vs W hR hD hK
                    clear hD
                    try dsimp only at hK ⊢
                    simp only [Act.put, List.setIfInBounds_toArray, List.set_cons_succ, List.set_cons_zero] at hK
                    go_wp2
                    exact hK _ _ rfl (Mod.refl _ _)
                  refine opsOkA_cons ?_ ?_
                  · intro K vs W hR hD hK
                    have dq1 : vs 1 = .slice an ln cn := hD 1 (by decide)
                    clear hD
                    try dsimp only at hK ⊢
                    simp only [Act.put, List.setIfInBounds_toArray, List.set_cons_succ, List.set_cons_zero] at hK
                    generalize vs 1 = vq1 at hK dq1 ⊢
                    subst vq1
                    go_wp2_with fail
                    exact hK _ _ rfl (Mod.refl _ _)
                  refine opsOkA_cons ?_ ?_
                  · intro K vs W hR hD hK
                    have dq0 : vs 0 = .int .i64 (q : Int) := hD 0 (by decide)
                    have dq2 : vs 2 = .int .i64 (ln : Int) := hD 2 (by decide)
                    clear hD
                    try dsimp only at hK ⊢
                    simp only [Act.put, List.setIfInBounds_toArray, List.set_cons_succ, List.set_cons_zero] at hK
                    generalize vs 0 = vq0 at hK dq0 ⊢
                    subst vq0
                    generalize vs 2 = vq2 at hK dq2 ⊢
                    subst vq2
                    have zz := Z3.out
                    go_wp2
                    exact hK _ _ rfl (Mod.refl _ _)
                  refine opsOkA_cons ?_ ?_
                  · intro K vs W hR hD hK
                    have dq3 : vs 3 = .bool true := hD 3 (by decide)
                    clear hD
                    try dsimp only at hK ⊢
                    simp only [Act.put, List.setIfInBounds_toArray, List.set_cons_succ, List.set_cons_zero] at hK
                    generalize vs 3 = vq3 at hK dq3 ⊢
                    subst vq3
                    go_wp2
                    exact hK _ _ rfl (Mod.refl _ _)
                  refine opsOkA_cons ?_ ?_
                  · intro K vs W hR hD hK
                    have dq4 : vs 4 = .bool true := hD 4 (by decide)
                    clear hD
                    try dsimp only at hK ⊢
                    simp only [Act.put, List.setIfInBounds_toArray, List.set_cons_succ, List.set_cons_zero] at hK
                    generalize vs 4 = vq4 at hK dq4 ⊢
                    subst vq4
                    go_wp2
                    exact hK _ _ rfl (Mod.refl _ _)
                  refine opsOkA_cons ?_ ?_
                  · intro K vs W hR hD hK
                    have dq4 : vs 4 = .bool true := hD 4 (by decide)
                    clear hD
                    try dsimp only at hK ⊢
                    simp only [Act.put, List.setIfInBounds_toArray, List.set_cons_succ, List.set_cons_zero] at hK
                    generalize vs 4 = vq4 at hK dq4 ⊢
                    subst vq4
                    go_wp2
                    exact hK _ _ rfl (Mod.refl _ _)
                  refine opsOkA_cons ?_ ?_
                  · intro K vs W hR hD hK
                    have dq4 : vs 4 = .bool true := hD 4 (by decide)
                    have dq5 : vs 5 = .slice an ln cn := hD 5 (by decide)
                    have dq6 : vs 6 = .int .i64 (q : Int) := hD 6 (by decide)
                    clear hD
                    try dsimp only at hK ⊢
                    simp only [Act.put, List.setIfInBounds_toArray, List.set_cons_succ, List.set_cons_zero] at hK
                    generalize vs 4 = vq4 at hK dq4 ⊢
                    subst vq4
                    generalize vs 5 = vq5 at hK dq5 ⊢
                    subst vq5
                    generalize vs 6 = vq6 at hK dq6 ⊢
                    subst vq6
                    have hix := HIf.out
                    go_wp2_with fail
                    exact hK _ _ rfl (Mod.refl _ _)
                  refine opsOkA_cons ?_ ?_
                  · intro K vs W hR hD hK
                    have dq4 : vs 4 = .bool true := hD 4 (by decide)
                    have dq7 : vs 7 = .pointer (some ⟨fb, fo, none⟩) := hD 7 (by decide)
                    clear hD
                    try dsimp only at hK ⊢
                    simp only [Act.put, List.setIfInBounds_toArray, List.set_cons_succ, List.set_cons_zero] at hK
                    generalize vs 4 = vq4 at hK dq4 ⊢
                    subst vq4
                    generalize vs 7 = vq7 at hK dq7 ⊢
                    subst vq7
                    have c0 := (HSd.out.at (hR)).2.2.2.2.1
                    go_wp2
                    exact hK _ _ rfl (Mod.refl _ _)
                  refine opsOkA_cons ?_ ?_
                  · intro K vs W hR hD hK
                    have dq4 : vs 4 = .bool true := hD 4 (by decide)
                    clear hD
                    try dsimp only at hK ⊢
                    simp only [Act.put, List.setIfInBounds_toArray, List.set_cons_succ, List.set_cons_zero] at hK
                    generalize vs 4 = vq4 at hK dq4 ⊢
                    subst vq4
                    go_wp2
                    exact hK _ _ rfl (Mod.refl _ _)
                  refine opsOkA_cons ?_ ?_
                  · intro K vs W hR hD hK
                    have dq4 : vs 4 = .bool true := hD 4 (by decide)
                    clear hD
                    try dsimp only at hK ⊢
                    simp only [Act.put, List.setIfInBounds_toArray, List.set_cons_succ, List.set_cons_zero] at hK
                    generalize vs 4 = vq4 at hK dq4 ⊢
                    subst vq4
                    go_wp2
                    exact hK _ _ rfl (Mod.refl _ _)
                  refine opsOkA_cons ?_ ?_
                  · intro K vs W hR hD hK
                    have dq4 : vs 4 = .bool true := hD 4 (by decide)
                    have dq9 : vs 9 = .slice aw lw cw := hD 9 (by decide)
                    have dq10 : vs 10 = .int .i64 (i0 : Int) := hD 10 (by decide)
                    clear hD
                    try dsimp only at hK ⊢
                    simp only [Act.put, List.setIfInBounds_toArray, List.set_cons_succ, List.set_cons_zero] at hK
                    generalize vs 4 = vq4 at hK dq4 ⊢
                    subst vq4
                    generalize vs 9 = vq9 at hK dq9 ⊢
                    subst vq9
                    generalize vs 10 = vq10 at hK dq10 ⊢
                    subst vq10
                    have hix := HIg.out
                    go_wp2_with fail
                    exact hK _ _ rfl (Mod.refl _ _)
                  refine opsOkA_cons ?_ ?_
                  · intro K vs W hR hD hK
                    have dq4 : vs 4 = .bool true := hD 4 (by decide)
                    have dq11 : vs 11 = .pointer (some ⟨gb, go, none⟩) := hD 11 (by decide)
                    clear hD
                    try dsimp only at hK ⊢
                    simp only [Act.put, List.setIfInBounds_toArray, List.set_cons_succ, List.set_cons_zero] at hK
                    generalize vs 4 = vq4 at hK dq4 ⊢
                    subst vq4
                    generalize vs 11 = vq11 at hK dq11 ⊢
                    subst vq11
                    have c0 := (HSd.out.at (hR)).2.2.2.2.2.2.2.2.1
                    go_wp2
                    exact hK _ _ rfl (Mod.refl _ _)
                  refine opsOkA_cons ?_ ?_
                  · intro K vs W hR hD hK
                    have dq4 : vs 4 = .bool true := hD 4 (by decide)
                    have dq8 : vs 8 = .int .i64 (xq : Int) := hD 8 (by decide)
                    have dq12 : vs 12 = .int .i64 (j : Int) := hD 12 (by decide)
                    clear hD
                    try dsimp only at hK ⊢
                    simp only [Act.put, List.setIfInBounds_toArray, List.set_cons_succ, List.set_cons_zero] at hK
                    generalize vs 4 = vq4 at hK dq4 ⊢
                    subst vq4
                    generalize vs 8 = vq8 at hK dq8 ⊢
                    subst vq8
                    generalize vs 12 = vq12 at hK dq12 ⊢
                    subst vq12
                    have zz := Z13.out
                    go_wp2
                    exact hK _ _ rfl (Mod.refl _ _)
                  refine opsOkA_cons ?_ ?_
                  · intro K vs W hR hD hK
                    have dq4 : vs 4 = .bool true := hD 4 (by decide)
                    have dq13 : vs 13 = .bool true := hD 13 (by decide)
                    clear hD
                    try dsimp only at hK ⊢
                    simp only [Act.put, List.setIfInBounds_toArray, List.set_cons_succ, List.set_cons_zero] at hK
                    generalize vs 4 = vq4 at hK dq4 ⊢
                    subst vq4
                    generalize vs 13 = vq13 at hK dq13 ⊢
                    subst vq13
                    go_wp2
                    exact hK _ _ rfl (Mod.refl _ _)
                  exact opsOkA_nil
                · intro vs wq13 hR hF
                  have dq14 : vs 14 = .bool true := hF 14 (by decide)
                  clear hF
                  try dsimp only
                  generalize vs 14 = vq14 at dq14 ⊢
                  subst dq14
                  replace HS := Lib.hid (HSd.out.step hR)
                  clear HSd hR
                  have hbbg := (HS.out.now).2.2.2.2.2.2.2.2.2.2.2.2.1
                  have qbg_0 := hbbg.cell 0 rfl
                  have qbg_1 := hbbg.cell 1 rfl
                  have qbg_2 := hbbg.cell 2 rfl
                  have lbg := hbbg.lt
                  clear hbbg
                  go_upto_region 18 with fail
                  by_cases c2 : 0 ≤ dx
                  case neg =>
                    have Z7 := Lib.hid (show decide (0 ≤ dx) = false from by simp; omega)
                    clear qbg_0 qbg_1 qbg_2 lbg
                    have HSd := Lib.hid HS.out.drew
                    refine wp_region_inv3 (act := ?actlf_r18_6) (Mod (fun _ => False)) (fun i => (lf_r18_6_F xq q ln cn cd an ad dx n2 fb fo hb ho).getD i (fun _ _ => True)) (fun i => lf_r18_6_D.getD i []) (by kernel_rfl) (by kernel_rfl) (by kernel_rfl) (by kernel_rfl) (fun _ => Mod.refl _ _)
                      (fun _ _ _ h k => h.trans k (fun _ _ e => e) (fun _ _ e => e)) ?hactlf_r18_6 (stable_list ?_) ?_ ?_
                    case hactlf_r18_6 => intro vs; simp only [putAll, Nat.zero_add, Nat.reduceAdd, Act.put, List.setIfInBounds_toArray, List.set_cons_succ, List.set_cons_zero]; exact rfl
                    · unfold lf_r18_6_F
                      exact stable_cons (stable_val _) <| stable_cons (stable_val _) <| stable_cons (stable_val _) <| stable_cons (stable_val _) <| stable_cons (stable_val _) <| stable_cons (stable_val _) <| stable_cons (stable_val _) <| stable_cons (stable_val _) <| stable_cons (stable_val _) <| stable_cons (stable_val _) <| stable_cons (stable_val _) <| stable_cons (stable_val _) <| stable_cons (stable_val _) <| stable_cons (stable_val _) <| stable_cons (stable_val _) <| stable_cons (stable_val _) <| stable_cons (stable_val _) <| stable_cons (stable_val _) <| stable_cons (stable_val _) <| stable_cons (stable_val _) <| stable_cons (stable_val _) <| stable_cons (stable_val _) <| stable_cons (stable_val _) <| stable_cons (stable_val _) <| stable_cons (stable_val _) <| stable_cons (stable_val _) <| stable_cons (stable_val _) <| stable_cons (stable_val _) <| stable_cons (stable_val _) <| stable_cons (stable_val _) <| stable_cons (stable_val _) <| stable_cons (stable_val _) <| stable_nil
                    · refine opsOkA_cons ?_ ?_
                      · intro K vs W hR hD hK
                        clear hD
                        try dsimp only at hK ⊢
                        simp only [Act.put, List.setIfInBounds_toArray, List.set_cons_succ, List.set_cons_zero] at hK
                        go_wp2
                        exact hK _ _ rfl (Mod.refl _ _)
                      refine opsOkA_cons ?_ ?_
                      · intro K vs W hR hD hK
                        clear hD
                        try dsimp only at hK ⊢
                        simp only [Act.put, List.setIfInBounds_toArray, List.set_cons_succ, List.set_cons_zero] at hK
                        go_wp2
                        exact hK _ _ rfl (Mod.refl _ _)
                      refine opsOkA_cons ?_ ?_
                      · intro K vs W hR hD hK
                        clear hD
                        try dsimp only at hK ⊢
                        simp only [Act.put, List.setIfInBounds_toArray, List.set_cons_succ, List.set_cons_zero] at hK
                        go_wp2
                        exact hK _ _ rfl (Mod.refl _ _)
                      refine opsOkA_cons ?_ ?_
                      · intro K vs W hR hD hK
                        have dq1 : vs 1 = .slice an ln cn := hD 1 (by decide)
                        have dq2 : vs 2 = .int .i64 (q : Int) := hD 2 (by decide)
                        clear hD
                        try dsimp only at hK ⊢
                        simp only [Act.put, List.setIfInBounds_toArray, List.set_cons_succ, List.set_cons_zero] at hK
                        generalize vs 1 = vq1 at hK dq1 ⊢
                        subst vq1
                        generalize vs 2 = vq2 at hK dq2 ⊢
                        subst vq2
                        have hix := HIf.out
                        go_wp2_with fail
                        exact hK _ _ rfl (Mod.refl _ _)
                      refine opsOkA_cons ?_ ?_
                      · intro K vs W hR hD hK
                        have dq3 : vs 3 = .pointer (some ⟨fb, fo, none⟩) := hD 3 (by decide)
                        clear hD
                        try dsimp only at hK ⊢
                        simp only [Act.put, List.setIfInBounds_toArray, List.set_cons_succ, List.set_cons_zero] at hK
                        generalize vs 3 = vq3 at hK dq3 ⊢
                        subst vq3
                        have c0 := (HSd.out.at (hR)).2.2.2.2.1
                        go_wp2
                        exact hK _ _ rfl (Mod.refl _ _)
                      refine opsOkA_cons ?_ ?_
                      · intro K vs W hR hD hK
                        have dq0 : vs 0 = .slice ad n2 cd := hD 0 (by decide)
                        have dq4 : vs 4 = .int .i64 (xq : Int) := hD 4 (by decide)
                        clear hD
                        try dsimp only at hK ⊢
                        simp only [Act.put, List.setIfInBounds_toArray, List.set_cons_succ, List.set_cons_zero] at hK
                        generalize vs 0 = vq0 at hK dq0 ⊢
                        subst vq0
                        generalize vs 4 = vq4 at hK dq4 ⊢
                        subst vq4
                        have hix := HIh.out
                        go_wp2_with fail
                        exact hK _ _ rfl (Mod.refl _ _)
                      refine opsOkA_cons ?_ ?_
                      · intro K vs W hR hD hK
                        have dq5 : vs 5 = .pointer (some ⟨hb, ho, none⟩) := hD 5 (by decide)
                        clear hD
                        try dsimp only at hK ⊢
                        simp only [Act.put, List.setIfInBounds_toArray, List.set_cons_succ, List.set_cons_zero] at hK
                        generalize vs 5 = vq5 at hK dq5 ⊢
                        subst vq5
                        have c0 := (HSd.out.at (hR)).2.2.2.1
                        go_wp2
                        exact hK _ _ rfl (Mod.refl _ _)
                      refine opsOkA_cons ?_ ?_
                      · intro K vs W hR hD hK
                        have dq6 : vs 6 = .int .i64 dx := hD 6 (by decide)
                        clear hD
                        try dsimp only at hK ⊢
                        simp only [Act.put, List.setIfInBounds_toArray, List.set_cons_succ, List.set_cons_zero] at hK
                        generalize vs 6 = vq6 at hK dq6 ⊢
                        subst vq6
                        have zz := Z7.out
                        go_wp2
                        exact hK _ _ rfl (Mod.refl _ _)
                      refine opsOkA_cons ?_ ?_
                      · intro K vs W hR hD hK
                        have dq7 : vs 7 = .bool false := hD 7 (by decide)
                        clear hD
                        try dsimp only at hK ⊢
                        simp only [Act.put, List.setIfInBounds_toArray, List.set_cons_succ, List.set_cons_zero] at hK
                        generalize vs 7 = vq7 at hK dq7 ⊢
                        subst vq7
                        go_wp2
                        exact hK _ _ rfl (Mod.refl _ _)
                      refine opsOkA_cons ?_ ?_
                      · intro K vs W hR hD hK
                        have dq8 : vs 8 = .bool false := hD 8 (by decide)
                        clear hD
                        try dsimp only at hK ⊢
                        simp only [Act.put, List.setIfInBounds_toArray, List.set_cons_succ, List.set_cons_zero] at hK
                        generalize vs 8 = vq8 at hK dq8 ⊢
                        subst vq8
                        go_wp2
                        exact hK _ _ rfl (Mod.refl _ _)
                      refine opsOkA_cons ?_ ?_
                      · intro K vs W hR hD hK
                        have dq8 : vs 8 = .bool false := hD 8 (by decide)
                        clear hD
                        try dsimp only at hK ⊢
                        simp only [Act.put, List.setIfInBounds_toArray, List.set_cons_succ, List.set_cons_zero] at hK
                        generalize vs 8 = vq8 at hK dq8 ⊢
                        subst vq8
                        go_wp2
                        exact hK _ _ rfl (Mod.refl _ _)
                      refine opsOkA_cons ?_ ?_
                      · intro K vs W hR hD hK
                        have dq8 : vs 8 = .bool false := hD 8 (by decide)
                        clear hD
                        try dsimp only at hK ⊢
                        simp only [Act.put, List.setIfInBounds_toArray, List.set_cons_succ, List.set_cons_zero] at hK
                        generalize vs 8 = vq8 at hK dq8 ⊢
                        subst vq8
                        go_wp2
                        exact hK _ _ rfl (Mod.refl _ _)
                      refine opsOkA_cons ?_ ?_
                      · intro K vs W hR hD hK
                        have dq8 : vs 8 = .bool false := hD 8 (by decide)
                        clear hD
                        try dsimp only at hK ⊢
                        simp only [Act.put, List.setIfInBounds_toArray, List.set_cons_succ, List.set_cons_zero] at hK
                        generalize vs 8 = vq8 at hK dq8 ⊢
                        subst vq8
                        go_wp2_with fail
                        exact hK _ _ rfl (Mod.refl _ _)
                      refine opsOkA_cons ?_ ?_
                      · intro K vs W hR hD hK
                        have dq8 : vs 8 = .bool false := hD 8 (by decide)
                        clear hD
                        try dsimp only at hK ⊢
                        simp only [Act.put, List.setIfInBounds_toArray, List.set_cons_succ, List.set_cons_zero] at hK
                        generalize vs 8 = vq8 at hK dq8 ⊢
                        subst vq8
                        go_wp2
                        exact hK _ _ rfl (Mod.refl _ _)
                      refine opsOkA_cons ?_ ?_
                      · intro K vs W hR hD hK
                        have dq8 : vs 8 = .bool false := hD 8 (by decide)
                        clear hD
                        try dsimp only at hK ⊢
                        simp only [Act.put, List.setIfInBounds_toArray, List.set_cons_succ, List.set_cons_zero] at hK
                        generalize vs 8 = vq8 at hK dq8 ⊢
                        subst vq8
                        go_wp2_with fail
                        exact hK _ _ rfl (Mod.refl _ _)
                      refine opsOkA_cons ?_ ?_
                      · intro K vs W hR hD hK
                        have dq8 : vs 8 = .bool false := hD 8 (by decide)
                        clear hD
                        try dsimp only at hK ⊢
                        simp only [Act.put, List.setIfInBounds_toArray, List.set_cons_succ, List.set_cons_zero] at hK
                        generalize vs 8 = vq8 at hK dq8 ⊢
                        subst vq8
                        go_wp2
                        exact hK _ _ rfl (Mod.refl _ _)
                      refine opsOkA_cons ?_ ?_
                      · intro K vs W hR hD hK
                        have dq8 : vs 8 = .bool false := hD 8 (by decide)
                        clear hD
                        try dsimp only at hK ⊢
                        simp only [Act.put, List.setIfInBounds_toArray, List.set_cons_succ, List.set_cons_zero] at hK
                        generalize vs 8 = vq8 at hK dq8 ⊢
                        subst vq8
                        go_wp2
                        exact hK _ _ rfl (Mod.refl _ _)
                      refine opsOkA_cons ?_ ?_
                      · intro K vs W hR hD hK
                        have dq8 : vs 8 = .bool false := hD 8 (by decide)
                        clear hD
                        try dsimp only at hK ⊢
                        simp only [Act.put, List.setIfInBounds_toArray, List.set_cons_succ, List.set_cons_zero] at hK
                        generalize vs 8 = vq8 at hK dq8 ⊢
                        subst vq8
                        go_wp2
                        exact hK _ _ rfl (Mod.refl _ _)
                      refine opsOkA_cons ?_ ?_
                      · intro K vs W hR hD hK
                        have dq8 : vs 8 = .bool false := hD 8 (by decide)
                        clear hD
                        try dsimp only at hK ⊢
                        simp only [Act.put, List.setIfInBounds_toArray, List.set_cons_succ, List.set_cons_zero] at hK
                        generalize vs 8 = vq8 at hK dq8 ⊢
                        subst vq8
                        go_wp2
                        exact hK _ _ rfl (Mod.refl _ _)
                      refine opsOkA_cons ?_ ?_
                      · intro K vs W hR hD hK
                        have dq8 : vs 8 = .bool false := hD 8 (by decide)
                        clear hD
                        try dsimp only at hK ⊢
                        simp only [Act.put, List.setIfInBounds_toArray, List.set_cons_succ, List.set_cons_zero] at hK
                        generalize vs 8 = vq8 at hK dq8 ⊢
                        subst vq8
                        go_wp2
                        exact hK _ _ rfl (Mod.refl _ _)
                      refine opsOkA_cons ?_ ?_
                      · intro K vs W hR hD hK
                        have dq8 : vs 8 = .bool false := hD 8 (by decide)
                        clear hD
                        try dsimp only at hK ⊢
                        simp only [Act.put, List.setIfInBounds_toArray, List.set_cons_succ, List.set_cons_zero] at hK
                        generalize vs 8 = vq8 at hK dq8 ⊢
                        subst vq8
                        go_wp2_with fail
                        exact hK _ _ rfl (Mod.refl _ _)
                      refine opsOkA_cons ?_ ?_
                      · intro K vs W hR hD hK
                        have dq8 : vs 8 = .bool false := hD 8 (by decide)
                        clear hD
                        try dsimp only at hK ⊢
                        simp only [Act.put, List.setIfInBounds_toArray, List.set_cons_succ, List.set_cons_zero] at hK
                        generalize vs 8 = vq8 at hK dq8 ⊢
                        subst vq8
                        go_wp2
                        exact hK _ _ rfl (Mod.refl _ _)
                      refine opsOkA_cons ?_ ?_
                      · intro K vs W hR hD hK
                        have dq8 : vs 8 = .bool false := hD 8 (by decide)
                        clear hD
                        try dsimp only at hK ⊢
                        simp only [Act.put, List.setIfInBounds_toArray, List.set_cons_succ, List.set_cons_zero] at hK
                        generalize vs 8 = vq8 at hK dq8 ⊢
                        subst vq8
                        go_wp2_with fail
                        exact hK _ _ rfl (Mod.refl _ _)
                      refine opsOkA_cons ?_ ?_
                      · intro K vs W hR hD hK
                        have dq8 : vs 8 = .bool false := hD 8 (by decide)
                        clear hD
                        try dsimp only at hK ⊢
                        simp only [Act.put, List.setIfInBounds_toArray, List.set_cons_succ, List.set_cons_zero] at hK
                        generalize vs 8 = vq8 at hK dq8 ⊢
                        subst vq8
                        go_wp2
                        exact hK _ _ rfl (Mod.refl _ _)
                      refine opsOkA_cons ?_ ?_
                      · intro K vs W hR hD hK
                        have dq8 : vs 8 = .bool false := hD 8 (by decide)
                        clear hD
                        try dsimp only at hK ⊢
                        simp only [Act.put, List.setIfInBounds_toArray, List.set_cons_succ, List.set_cons_zero] at hK
                        generalize vs 8 = vq8 at hK dq8 ⊢
                        subst vq8
                        go_wp2
                        exact hK _ _ rfl (Mod.refl _ _)
                      refine opsOkA_cons ?_ ?_
                      · intro K vs W hR hD hK
                        have dq8 : vs 8 = .bool false := hD 8 (by decide)
                        clear hD
                        try dsimp only at hK ⊢
                        simp only [Act.put, List.setIfInBounds_toArray, List.set_cons_succ, List.set_cons_zero] at hK
                        generalize vs 8 = vq8 at hK dq8 ⊢
                        subst vq8
                        go_wp2
                        exact hK _ _ rfl (Mod.refl _ _)
                      refine opsOkA_cons ?_ ?_
                      · intro K vs W hR hD hK
                        have dq8 : vs 8 = .bool false := hD 8 (by decide)
                        clear hD
                        try dsimp only at hK ⊢
                        simp only [Act.put, List.setIfInBounds_toArray, List.set_cons_succ, List.set_cons_zero] at hK
                        generalize vs 8 = vq8 at hK dq8 ⊢
                        subst vq8
                        go_wp2
                        exact hK _ _ rfl (Mod.refl _ _)
                      refine opsOkA_cons ?_ ?_
                      · intro K vs W hR hD hK
                        have dq8 : vs 8 = .bool false := hD 8 (by decide)
                        clear hD
                        try dsimp only at hK ⊢
                        simp only [Act.put, List.setIfInBounds_toArray, List.set_cons_succ, List.set_cons_zero] at hK
                        generalize vs 8 = vq8 at hK dq8 ⊢
                        subst vq8
                        go_wp2
                        exact hK _ _ rfl (Mod.refl _ _)
                      refine opsOkA_cons ?_ ?_
                      · intro K vs W hR hD hK
                        have dq8 : vs 8 = .bool false := hD 8 (by decide)
                        clear hD
                        try dsimp only at hK ⊢
                        simp only [Act.put, List.setIfInBounds_toArray, List.set_cons_succ, List.set_cons_zero] at hK
                        generalize vs 8 = vq8 at hK dq8 ⊢
                        subst vq8
                        go_wp2_with fail
                        exact hK _ _ rfl (Mod.refl _ _)
                      refine opsOkA_cons ?_ ?_
                      · intro K vs W hR hD hK
                        have dq8 : vs 8 = .bool false := hD 8 (by decide)
                        clear hD
                        try dsimp only at hK ⊢
                        simp only [Act.put, List.setIfInBounds_toArray, List.set_cons_succ, List.set_cons_zero] at hK
                        generalize vs 8 = vq8 at hK dq8 ⊢
                        subst vq8
                        go_wp2
                        exact hK _ _ rfl (Mod.refl _ _)
                      refine opsOkA_cons ?_ ?_
                      · intro K vs W hR hD hK
                        have dq8 : vs 8 = .bool false := hD 8 (by decide)
                        clear hD
                        try dsimp only at hK ⊢
                        simp only [Act.put, List.setIfInBounds_toArray, List.set_cons_succ, List.set_cons_zero] at hK
                        generalize vs 8 = vq8 at hK dq8 ⊢
                        subst vq8
                        go_wp2
                        exact hK _ _ rfl (Mod.refl _ _)
                      refine opsOkA_cons ?_ ?_
                      · intro K vs W hR hD hK
                        have dq8 : vs 8 = .bool false := hD 8 (by decide)
                        have dq30 : vs 30 = undef := hD 30 (by decide)
                        clear hD
                        try dsimp only at hK ⊢
                        simp only [Act.put, List.setIfInBounds_toArray, List.set_cons_succ, List.set_cons_zero] at hK
                        generalize vs 8 = vq8 at hK dq8 ⊢
                        subst vq8
                        generalize vs 30 = vq30 at hK dq30 ⊢
                        subst vq30
                        go_wp2
                        exact hK _ _ rfl (Mod.refl _ _)
                      exact opsOkA_nil
                    · intro vs wq14 hR hF
                      have dq31 : vs 31 = .bool false := hF 31 (by decide)
                      clear hF
                      try dsimp only
                      generalize vs 31 = vq31 at dq31 ⊢
                      subst dq31
                      replace HS := Lib.hid (HSd.out.step hR)
                      clear HSd hR
                      have hbbg := (HS.out.now).2.2.2.2.2.2.2.2.2.2.2.2.1
                      have qbg_0 := hbbg.cell 0 rfl
                      have qbg_1 := hbbg.cell 1 rfl
                      have qbg_2 := hbbg.cell 2 rfl
                      have lbg := hbbg.lt
                      clear hbbg
                      go_wp2_with fail
                      go_roundw
                      case rel => exact ⟨q + 1, hlq, by go_num, (HS.out.now).2.2.2.2.2.1⟩
                      case measure => simp [intOf]; omega
                  case pos =>
                    have Z7 := Lib.hid (show decide (0 ≤ dx) = true from by simp; omega)
                    have hwf := HWF.out c2
                    have Z30 := Lib.hid (show decide (dx + uc ≤ dc) = false from by simp; omega)
                    clear hwf
                    clear qbg_0 qbg_1 qbg_2 lbg
                    have HSd := Lib.hid HS.out.drew
                    refine wp_region_inv3 (act := ?actlf_r18_7) (Mod (fun _ => False)) (fun i => (lf_r18_7_F xq cur q ln cn cd an ad dx dc uc a2 n2 d2 bg kb ko fb fo hb ho pb po).getD i (fun _ _ => True)) (fun i => lf_r18_7_D.getD i []) (by kernel_rfl) (by kernel_rfl) (by kernel_rfl) (by kernel_rfl) (fun _ => Mod.refl _ _)
                      (fun _ _ _ h k => h.trans k (fun _ _ e => e) (fun _ _ e => e)) ?hactlf_r18_7 (stable_list ?_) ?_ ?_
                    case hactlf_r18_7 => intro vs; simp only [putAll, Nat.zero_add, Nat.reduceAdd, Act.put, List.setIfInBounds_toArray, List.set_cons_succ, List.set_cons_zero]; exact rfl
                    · unfold lf_r18_7_F
                      exact stable_cons (stable_val _) <| stable_cons (stable_val _) <| stable_cons (stable_val _) <| stable_cons (stable_val _) <| stable_cons (stable_val _) <| stable_cons (stable_val _) <| stable_cons (stable_val _) <| stable_cons (stable_val _) <| stable_cons (stable_val _) <| stable_cons (stable_val _) <| stable_cons (stable_val _) <| stable_cons (stable_val _) <| stable_cons (stable_val _) <| stable_cons (stable_val _) <| stable_cons (stable_val _) <| stable_cons (stable_val _) <| stable_cons (stable_val _) <| stable_cons (stable_val _) <| stable_cons (stable_val _) <| stable_cons (stable_val _) <| stable_cons (stable_val _) <| stable_cons (stable_val _) <| stable_cons (stable_val _) <| stable_cons (stable_val _) <| stable_cons (stable_val _) <| stable_cons (stable_val _) <| stable_cons (stable_val _) <| stable_cons (stable_val _) <| stable_cons (stable_val _) <| stable_cons (stable_val _) <| stable_cons (stable_val _) <| stable_cons (stable_val _) <| stable_nil
                    · refine opsOkA_cons ?_ ?_
                      · intro K vs W hR hD hK
                        clear hD
                        try dsimp only at hK ⊢
                        simp only [Act.put, List.setIfInBounds_toArray, List.set_cons_succ, List.set_cons_zero] at hK
                        go_wp2
                        exact hK _ _ rfl (Mod.refl _ _)
                      refine opsOkA_cons ?_ ?_
                      · intro K vs W hR hD hK
                        clear hD
                        try dsimp only at hK ⊢
                        simp only [Act.put, List.setIfInBounds_toArray, List.set_cons_succ, List.set_cons_zero] at hK
                        go_wp2
                        exact hK _ _ rfl (Mod.refl _ _)
                      refine opsOkA_cons ?_ ?_
                      · intro K vs W hR hD hK
                        clear hD
                        try dsimp only at hK ⊢
                        simp only [Act.put, List.setIfInBounds_toArray, List.set_cons_succ, List.set_cons_zero] at hK
                        go_wp2
                        exact hK _ _ rfl (Mod.refl _ _)
                      refine opsOkA_cons ?_ ?_
                      · intro K vs W hR hD hK
                        have dq1 : vs 1 = .slice an ln cn := hD 1 (by decide)
                        have dq2 : vs 2 = .int .i64 (q : Int) := hD 2 (by decide)
                        clear hD
                        try dsimp only at hK ⊢
                        simp only [Act.put, List.setIfInBounds_toArray, List.set_cons_succ, List.set_cons_zero] at hK
                        generalize vs 1 = vq1 at hK dq1 ⊢
                        subst vq1
                        generalize vs 2 = vq2 at hK dq2 ⊢
                        subst vq2
                        have hix := HIf.out
                        go_wp2_with fail
                        exact hK _ _ rfl (Mod.refl _ _)
                      refine opsOkA_cons ?_ ?_
                      · intro K vs W hR hD hK
                        have dq3 : vs 3 = .pointer (some ⟨fb, fo, none⟩) := hD 3 (by decide)
                        clear hD
                        try dsimp only at hK ⊢
                        simp only [Act.put, List.setIfInBounds_toArray, List.set_cons_succ, List.set_cons_zero] at hK
                        generalize vs 3 = vq3 at hK dq3 ⊢
                        subst vq3
                        have c0 := (HSd.out.at (hR)).2.2.2.2.1
                        go_wp2
                        exact hK _ _ rfl (Mod.refl _ _)
                      refine opsOkA_cons ?_ ?_
                      · intro K vs W hR hD hK
                        have dq0 : vs 0 = .slice ad n2 cd := hD 0 (by decide)
                        have dq4 : vs 4 = .int .i64 (xq : Int) := hD 4 (by decide)
                        clear hD
                        try dsimp only at hK ⊢
                        simp only [Act.put, List.setIfInBounds_toArray, List.set_cons_succ, List.set_cons_zero] at hK
                        generalize vs 0 = vq0 at hK dq0 ⊢
                        subst vq0
                        generalize vs 4 = vq4 at hK dq4 ⊢
                        subst vq4
                        have hix := HIh.out
                        go_wp2_with fail
                        exact hK _ _ rfl (Mod.refl _ _)
                      refine opsOkA_cons ?_ ?_
                      · intro K vs W hR hD hK
                        have dq5 : vs 5 = .pointer (some ⟨hb, ho, none⟩) := hD 5 (by decide)
                        clear hD
                        try dsimp only at hK ⊢
                        simp only [Act.put, List.setIfInBounds_toArray, List.set_cons_succ, List.set_cons_zero] at hK
                        generalize vs 5 = vq5 at hK dq5 ⊢
                        subst vq5
                        have c0 := (HSd.out.at (hR)).2.2.2.1
                        go_wp2
                        exact hK _ _ rfl (Mod.refl _ _)
                      refine opsOkA_cons ?_ ?_
                      · intro K vs W hR hD hK
                        have dq6 : vs 6 = .int .i64 dx := hD 6 (by decide)
                        clear hD
                        try dsimp only at hK ⊢
                        simp only [Act.put, List.setIfInBounds_toArray, List.set_cons_succ, List.set_cons_zero] at hK
                        generalize vs 6 = vq6 at hK dq6 ⊢
                        subst vq6
                        have zz := Z7.out
                        go_wp2
                        exact hK _ _ rfl (Mod.refl _ _)
                      refine opsOkA_cons ?_ ?_
                      · intro K vs W hR hD hK
                        have dq7 : vs 7 = .bool true := hD 7 (by decide)
                        clear hD
                        try dsimp only at hK ⊢
                        simp only [Act.put, List.setIfInBounds_toArray, List.set_cons_succ, List.set_cons_zero] at hK
                        generalize vs 7 = vq7 at hK dq7 ⊢
                        subst vq7
                        go_wp2
                        exact hK _ _ rfl (Mod.refl _ _)
                      refine opsOkA_cons ?_ ?_
                      · intro K vs W hR hD hK
                        have dq8 : vs 8 = .bool true := hD 8 (by decide)
                        clear hD
                        try dsimp only at hK ⊢
                        simp only [Act.put, List.setIfInBounds_toArray, List.set_cons_succ, List.set_cons_zero] at hK
                        generalize vs 8 = vq8 at hK dq8 ⊢
                        subst vq8
                        go_wp2
                        exact hK _ _ rfl (Mod.refl _ _)
                      refine opsOkA_cons ?_ ?_
                      · intro K vs W hR hD hK
                        have dq8 : vs 8 = .bool true := hD 8 (by decide)
                        clear hD
                        try dsimp only at hK ⊢
                        simp only [Act.put, List.setIfInBounds_toArray, List.set_cons_succ, List.set_cons_zero] at hK
                        generalize vs 8 = vq8 at hK dq8 ⊢
                        subst vq8
                        go_wp2
                        exact hK _ _ rfl (Mod.refl _ _)
                      refine opsOkA_cons ?_ ?_
                      · intro K vs W hR hD hK
                        have dq8 : vs 8 = .bool true := hD 8 (by decide)
                        clear hD
                        try dsimp only at hK ⊢
                        simp only [Act.put, List.setIfInBounds_toArray, List.set_cons_succ, List.set_cons_zero] at hK
                        generalize vs 8 = vq8 at hK dq8 ⊢
                        subst vq8
                        go_wp2
                        exact hK _ _ rfl (Mod.refl _ _)
                      refine opsOkA_cons ?_ ?_
                      · intro K vs W hR hD hK
                        have dq8 : vs 8 = .bool true := hD 8 (by decide)
                        have dq10 : vs 10 = .slice an ln cn := hD 10 (by decide)
                        have dq11 : vs 11 = .int .i64 (q : Int) := hD 11 (by decide)
                        clear hD
                        try dsimp only at hK ⊢
                        simp only [Act.put, List.setIfInBounds_toArray, List.set_cons_succ, List.set_cons_zero] at hK
                        generalize vs 8 = vq8 at hK dq8 ⊢
                        subst vq8
                        generalize vs 10 = vq10 at hK dq10 ⊢
                        subst vq10
                        generalize vs 11 = vq11 at hK dq11 ⊢
                        subst vq11
                        have hix := HIf.out
                        go_wp2_with fail
                        exact hK _ _ rfl (Mod.refl _ _)
                      refine opsOkA_cons ?_ ?_
                      · intro K vs W hR hD hK
                        have dq8 : vs 8 = .bool true := hD 8 (by decide)
                        have dq12 : vs 12 = .pointer (some ⟨fb, fo, none⟩) := hD 12 (by decide)
                        clear hD
                        try dsimp only at hK ⊢
                        simp only [Act.put, List.setIfInBounds_toArray, List.set_cons_succ, List.set_cons_zero] at hK
                        generalize vs 8 = vq8 at hK dq8 ⊢
                        subst vq8
                        generalize vs 12 = vq12 at hK dq12 ⊢
                        subst vq12
                        have c0 := (HSd.out.at (hR)).2.2.2.2.1
                        go_wp2
                        exact hK _ _ rfl (Mod.refl _ _)
                      refine opsOkA_cons ?_ ?_
                      · intro K vs W hR hD hK
                        have dq8 : vs 8 = .bool true := hD 8 (by decide)
                        have dq9 : vs 9 = .slice ad n2 cd := hD 9 (by decide)
                        have dq13 : vs 13 = .int .i64 (xq : Int) := hD 13 (by decide)
                        clear hD
                        try dsimp only at hK ⊢
                        simp only [Act.put, List.setIfInBounds_toArray, List.set_cons_succ, List.set_cons_zero] at hK
                        generalize vs 8 = vq8 at hK dq8 ⊢
                        subst vq8
                        generalize vs 9 = vq9 at hK dq9 ⊢
                        subst vq9
                        generalize vs 13 = vq13 at hK dq13 ⊢
                        subst vq13
                        have hix := HIh.out
                        go_wp2_with fail
                        exact hK _ _ rfl (Mod.refl _ _)
                      refine opsOkA_cons ?_ ?_
                      · intro K vs W hR hD hK
                        have dq8 : vs 8 = .bool true := hD 8 (by decide)
                        have dq14 : vs 14 = .pointer (some ⟨hb, ho, none⟩) := hD 14 (by decide)
                        clear hD
                        try dsimp only at hK ⊢
                        simp only [Act.put, List.setIfInBounds_toArray, List.set_cons_succ, List.set_cons_zero] at hK
                        generalize vs 8 = vq8 at hK dq8 ⊢
                        subst vq8
                        generalize vs 14 = vq14 at hK dq14 ⊢
                        subst vq14
                        have c0 := (HSd.out.at (hR)).2.2.2.1
                        go_wp2
                        exact hK _ _ rfl (Mod.refl _ _)
                      refine opsOkA_cons ?_ ?_
                      · intro K vs W hR hD hK
                        have dq8 : vs 8 = .bool true := hD 8 (by decide)
                        clear hD
                        try dsimp only at hK ⊢
                        simp only [Act.put, List.setIfInBounds_toArray, List.set_cons_succ, List.set_cons_zero] at hK
                        generalize vs 8 = vq8 at hK dq8 ⊢
                        subst vq8
                        go_wp2
                        exact hK _ _ rfl (Mod.refl _ _)
                      refine opsOkA_cons ?_ ?_
                      · intro K vs W hR hD hK
                        have dq8 : vs 8 = .bool true := hD 8 (by decide)
                        have dq16 : vs 16 = .pointer (some ⟨bg, 1, none⟩) := hD 16 (by decide)
                        clear hD
                        try dsimp only at hK ⊢
                        simp only [Act.put, List.setIfInBounds_toArray, List.set_cons_succ, List.set_cons_zero] at hK
                        generalize vs 8 = vq8 at hK dq8 ⊢
                        subst vq8
                        generalize vs 16 = vq16 at hK dq16 ⊢
                        subst vq16
                        have q0 := ((HSd.out.at (hR)).2.2.2.2.2.2.2.2.2.2.2.2.1).cell 1 rfl
                        go_wp2
                        exact hK _ _ rfl (Mod.refl _ _)
                      refine opsOkA_cons ?_ ?_
                      · intro K vs W hR hD hK
                        have dq8 : vs 8 = .bool true := hD 8 (by decide)
                        clear hD
                        try dsimp only at hK ⊢
                        simp only [Act.put, List.setIfInBounds_toArray, List.set_cons_succ, List.set_cons_zero] at hK
                        generalize vs 8 = vq8 at hK dq8 ⊢
                        subst vq8
                        go_wp2
                        exact hK _ _ rfl (Mod.refl _ _)
                      refine opsOkA_cons ?_ ?_
                      · intro K vs W hR hD hK
                        have dq8 : vs 8 = .bool true := hD 8 (by decide)
                        clear hD
                        try dsimp only at hK ⊢
                        simp only [Act.put, List.setIfInBounds_toArray, List.set_cons_succ, List.set_cons_zero] at hK
                        generalize vs 8 = vq8 at hK dq8 ⊢
                        subst vq8
                        go_wp2
                        exact hK _ _ rfl (Mod.refl _ _)
                      refine opsOkA_cons ?_ ?_
                      · intro K vs W hR hD hK
                        have dq8 : vs 8 = .bool true := hD 8 (by decide)
                        have dq18 : vs 18 = .slice an ln cn := hD 18 (by decide)
                        have dq19 : vs 19 = .int .i64 (q : Int) := hD 19 (by decide)
                        clear hD
                        try dsimp only at hK ⊢
                        simp only [Act.put, List.setIfInBounds_toArray, List.set_cons_succ, List.set_cons_zero] at hK
                        generalize vs 8 = vq8 at hK dq8 ⊢
                        subst vq8
                        generalize vs 18 = vq18 at hK dq18 ⊢
                        subst vq18
                        generalize vs 19 = vq19 at hK dq19 ⊢
                        subst vq19
                        have hix := HIf.out
                        go_wp2_with fail
                        exact hK _ _ rfl (Mod.refl _ _)
                      refine opsOkA_cons ?_ ?_
                      · intro K vs W hR hD hK
                        have dq8 : vs 8 = .bool true := hD 8 (by decide)
                        have dq20 : vs 20 = .pointer (some ⟨fb, fo, none⟩) := hD 20 (by decide)
                        clear hD
                        try dsimp only at hK ⊢
                        simp only [Act.put, List.setIfInBounds_toArray, List.set_cons_succ, List.set_cons_zero] at hK
                        generalize vs 8 = vq8 at hK dq8 ⊢
                        subst vq8
                        generalize vs 20 = vq20 at hK dq20 ⊢
                        subst vq20
                        have c0 := (HSd.out.at (hR)).2.2.2.2.1
                        go_wp2
                        exact hK _ _ rfl (Mod.refl _ _)
                      refine opsOkA_cons ?_ ?_
                      · intro K vs W hR hD hK
                        have dq8 : vs 8 = .bool true := hD 8 (by decide)
                        have dq17 : vs 17 = .slice a2 n2 d2 := hD 17 (by decide)
                        have dq21 : vs 21 = .int .i64 (xq : Int) := hD 21 (by decide)
                        clear hD
                        try dsimp only at hK ⊢
                        simp only [Act.put, List.setIfInBounds_toArray, List.set_cons_succ, List.set_cons_zero] at hK
                        generalize vs 8 = vq8 at hK dq8 ⊢
                        subst vq8
                        generalize vs 17 = vq17 at hK dq17 ⊢
                        subst vq17
                        generalize vs 21 = vq21 at hK dq21 ⊢
                        subst vq21
                        have hix := HIp.out
                        go_wp2_with fail
                        exact hK _ _ rfl (Mod.refl _ _)
                      refine opsOkA_cons ?_ ?_
                      · intro K vs W hR hD hK
                        have dq8 : vs 8 = .bool true := hD 8 (by decide)
                        have dq22 : vs 22 = .pointer (some ⟨pb, po, none⟩) := hD 22 (by decide)
                        clear hD
                        try dsimp only at hK ⊢
                        simp only [Act.put, List.setIfInBounds_toArray, List.set_cons_succ, List.set_cons_zero] at hK
                        generalize vs 8 = vq8 at hK dq8 ⊢
                        subst vq8
                        generalize vs 22 = vq22 at hK dq22 ⊢
                        subst vq22
                        go_wp2
                        exact hK _ _ rfl (Mod.refl _ _)
                      refine opsOkA_cons ?_ ?_
                      · intro K vs W hR hD hK
                        have dq8 : vs 8 = .bool true := hD 8 (by decide)
                        have dq23 : vs 23 = .pointer (some ⟨pb, po + 2, none⟩) := hD 23 (by decide)
                        clear hD
                        try dsimp only at hK ⊢
                        simp only [Act.put, List.setIfInBounds_toArray, List.set_cons_succ, List.set_cons_zero] at hK
                        generalize vs 8 = vq8 at hK dq8 ⊢
                        subst vq8
                        generalize vs 23 = vq23 at hK dq23 ⊢
                        subst vq23
                        have c2 := (HSd.out.at (hR)).1
                        go_wp2
                        exact hK _ _ rfl (Mod.refl _ _)
                      refine opsOkA_cons ?_ ?_
                      · intro K vs W hR hD hK
                        have dq8 : vs 8 = .bool true := hD 8 (by decide)
                        have dq15 : vs 15 = .int .i64 dx := hD 15 (by decide)
                        have dq24 : vs 24 = .int .i64 uc := hD 24 (by decide)
                        clear hD
                        try dsimp only at hK ⊢
                        simp only [Act.put, List.setIfInBounds_toArray, List.set_cons_succ, List.set_cons_zero] at hK
                        generalize vs 8 = vq8 at hK dq8 ⊢
                        subst vq8
                        generalize vs 15 = vq15 at hK dq15 ⊢
                        subst vq15
                        generalize vs 24 = vq24 at hK dq24 ⊢
                        subst vq24
                        go_wp2
                        exact hK _ _ rfl (Mod.refl _ _)
                      refine opsOkA_cons ?_ ?_
                      · intro K vs W hR hD hK
                        have dq8 : vs 8 = .bool true := hD 8 (by decide)
                        clear hD
                        try dsimp only at hK ⊢
                        simp only [Act.put, List.setIfInBounds_toArray, List.set_cons_succ, List.set_cons_zero] at hK
                        generalize vs 8 = vq8 at hK dq8 ⊢
                        subst vq8
                        go_wp2
                        exact hK _ _ rfl (Mod.refl _ _)
                      refine opsOkA_cons ?_ ?_
                      · intro K vs W hR hD hK
                        have dq8 : vs 8 = .bool true := hD 8 (by decide)
                        clear hD
                        try dsimp only at hK ⊢
                        simp only [Act.put, List.setIfInBounds_toArray, List.set_cons_succ, List.set_cons_zero] at hK
                        generalize vs 8 = vq8 at hK dq8 ⊢
                        subst vq8
                        go_wp2
                        exact hK _ _ rfl (Mod.refl _ _)
                      refine opsOkA_cons ?_ ?_
                      · intro K vs W hR hD hK
                        have dq8 : vs 8 = .bool true := hD 8 (by decide)
                        have dq26 : vs 26 = .slice ad n2 cd := hD 26 (by decide)
                        have dq27 : vs 27 = .int .i64 (cur : Int) := hD 27 (by decide)
                        clear hD
                        try dsimp only at hK ⊢
                        simp only [Act.put, List.setIfInBounds_toArray, List.set_cons_succ, List.set_cons_zero] at hK
                        generalize vs 8 = vq8 at hK dq8 ⊢
                        subst vq8
                        generalize vs 26 = vq26 at hK dq26 ⊢
                        subst vq26
                        generalize vs 27 = vq27 at hK dq27 ⊢
                        subst vq27
                        have hix := HIk.out
                        go_wp2_with fail
                        exact hK _ _ rfl (Mod.refl _ _)
                      refine opsOkA_cons ?_ ?_
                      · intro K vs W hR hD hK
                        have dq8 : vs 8 = .bool true := hD 8 (by decide)
                        have dq28 : vs 28 = .pointer (some ⟨kb, ko, none⟩) := hD 28 (by decide)
                        clear hD
                        try dsimp only at hK ⊢
                        simp only [Act.put, List.setIfInBounds_toArray, List.set_cons_succ, List.set_cons_zero] at hK
                        generalize vs 8 = vq8 at hK dq8 ⊢
                        subst vq8
                        generalize vs 28 = vq28 at hK dq28 ⊢
                        subst vq28
                        have c0 := (HSd.out.at (hR)).2.2.2.2.2.2.2.1
                        go_wp2
                        exact hK _ _ rfl (Mod.refl _ _)
                      refine opsOkA_cons ?_ ?_
                      · intro K vs W hR hD hK
                        have dq8 : vs 8 = .bool true := hD 8 (by decide)
                        have dq25 : vs 25 = .int .i64 (dx + uc) := hD 25 (by decide)
                        have dq29 : vs 29 = .int .i64 dc := hD 29 (by decide)
                        clear hD
                        try dsimp only at hK ⊢
                        simp only [Act.put, List.setIfInBounds_toArray, List.set_cons_succ, List.set_cons_zero] at hK
                        generalize vs 8 = vq8 at hK dq8 ⊢
                        subst vq8
                        generalize vs 25 = vq25 at hK dq25 ⊢
                        subst vq25
                        generalize vs 29 = vq29 at hK dq29 ⊢
                        subst vq29
                        have zz := Z30.out
                        go_wp2
                        exact hK _ _ rfl (Mod.refl _ _)
                      refine opsOkA_cons ?_ ?_
                      · intro K vs W hR hD hK
                        have dq8 : vs 8 = .bool true := hD 8 (by decide)
                        have dq30 : vs 30 = .bool false := hD 30 (by decide)
                        clear hD
                        try dsimp only at hK ⊢
                        simp only [Act.put, List.setIfInBounds_toArray, List.set_cons_succ, List.set_cons_zero] at hK
                        generalize vs 8 = vq8 at hK dq8 ⊢
                        subst vq8
                        generalize vs 30 = vq30 at hK dq30 ⊢
                        subst vq30
                        go_wp2
                        exact hK _ _ rfl (Mod.refl _ _)
                      exact opsOkA_nil
                    · intro vs wq15 hR hF
                      have dq31 : vs 31 = .bool false := hF 31 (by decide)
                      clear hF
                      try dsimp only
                      generalize vs 31 = vq31 at dq31 ⊢
                      subst dq31
                      replace HS := Lib.hid (HSd.out.step hR)
                      clear HSd hR
                      have hbbg := (HS.out.now).2.2.2.2.2.2.2.2.2.2.2.2.1
                      have qbg_0 := hbbg.cell 0 rfl
                      have qbg_1 := hbbg.cell 1 rfl
                      have qbg_2 := hbbg.cell 2 rfl
                      have lbg := hbbg.lt
                      clear hbbg
                      go_wp2_with fail
                      go_roundw
                      case rel => exact ⟨q + 1, hlq, by go_num, (HS.out.now).2.2.2.2.2.1⟩
                      case measure => simp [intOf]; omega
        case neg =>
          obtain rfl : lw = i0 := by omega
          have z0 : decide ((lw : Int) < (lw : Int)) = false := by simp
          have hcz : dAt d cur = 0 := by
            have h := HCW.out
            rw [List.drop_of_length_le (by rw [HWL.out]; exact Nat.le_refl _)] at h
            by_cases hp : 0 < dAt d cur
            · obtain ⟨j, hj, _⟩ := next_ok HDF.out hp
              rw [wayN_step HDF.out hp hj] at h; cases h
            · omega
          have hd_k : cur < d.length := by rw [HDL.out]; exact hcn
          have hda_k := dAt_eq d cur hd_k
          obtain ⟨dc, HDC0⟩ : ∃ qz, d[cur] = qz := ⟨_, rfl⟩
          have HDC := Lib.hid HDC0
          clear HDC0
          rw [HDC.out] at hda_k
          have HDA := Lib.hid hda_k
          clear hda_k
          obtain ⟨kb, ko, hpl, e0⟩ := rd1 (HS.out.now).2.1 cur hd_k
          have hix := fun wx => run_indexS (P := Try.prog) wx 22 3 iI 1 Try.underlying22 hiI hsI ad n2 cd cur hcn ((HS.out.now).2.1.some_ (by have := hcn; omega))
          rw [hpl] at hix
          have HIk := Lib.hid hix
          clear hix hpl
          rw [HDC.out] at e0
          replace HS := Lib.hid ((Ev.cell e0).and HS.out)
          clear e0
          have hz2 : dc = 0 := by rw [← HDA.out]; exact hcz
          have z1 : (dc == 0) = true := by rw [hz2]; rfl
          have qk := (HS.out.now).1
          have hix := HIk.out
          clear hcz hz2
          go_wp2_with fail
          refine (awake12_any _).mono ?_
          rintro e wq16 ⟨rfl, hmz⟩
          replace HS := Lib.hid (HS.out.step hmz)
          clear hmz
          clear qbg_0 qbg_1 qbg_2 lbg
          have hbbg := (HS.out.now).2.2.2.2.1
          have qbg_0 := hbbg.cell 0 rfl
          have qbg_1 := hbbg.cell 1 rfl
          have qbg_2 := hbbg.cell 2 rfl
          have lbg := hbbg.lt
          clear hbbg
          go_wp2_with fail
          go_ret
          exact ⟨rfl, (HS.out.now).2.2.2.2.2.2.2.2⟩
theorem lfirst_law (w : World) (a0 : Option Addr) (m c0 : Nat) (l : List Int) (ok : (encSlice (encInt .i64)).ok w (.slice a0 m c0, l)) (ev : Int) (_ : (Lit.int .i64 ev).wf = true) (nv : Int) (_ : (Lit.int .i64 nv).wf = true) :
    Calls Try.prog 9 #[.slice a0 m c0, .int .i64 ev, .int .i64 nv] w fun e w' => e = .returned (.bool true) ∧ Below w.heap.size w w' := by
  obtain ⟨hn, hr, _⟩ := ok_ints ok
  exact (lfirst_all w a0 m c0 l hn hr ev nv).mono fun e w' h => ⟨h.1, h.2.below (Nat.le_refl _) (fun _ e => e.elim)⟩
end Go.Proofs.Ytgiojfihgdifbaa
