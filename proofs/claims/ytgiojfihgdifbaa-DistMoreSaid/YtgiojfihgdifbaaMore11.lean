/- DistMore walked. -/
import Derived.Test.YtgiojfihgdifbaaShut11
import Derived.Test.YtgiojfihgdifbaaKOpen
import Derived.Test.YtgiojfihgdifbaaRegion2
import Derived.Test.YtgiojfihgdifbaaKReg
import Derived.Deep.DeepCutAuto
import Derived.Deep.CutBlock
namespace Go.Proofs.Ytgiojfihgdifbaa
open Go.RowKit Mile
set_option maxRecDepth 100000
theorem shutL_mono (m : Nat) (i : Nat) : ∀ (l : List Int) (c : List Bool), c.getD i false = true → (l.foldl (fun c x => c.set (x % (m : Int)).toNat true) c).getD i false = true
  | [], _, h => h
  | x :: l, c, h => by
    rw [List.foldl_cons]
    refine shutL_mono m i l _ ?_
    rw [List.getD, List.getElem?_set]
    split
    · rename_i e
      subst e
      split
      · rfl
      · rename_i hl
        rw [List.getD, List.getElem?_eq_none (by omega)] at h
        cases h
    · exact h
theorem shut_more (m : Nat) (sh mo : List Int) (b : Int) (h : clB (shutL m (sh ++ mo)) b = false) : clB (shutL m sh) b = false := by
  unfold clB at h ⊢
  by_cases hb : 0 ≤ b
  · rw [decide_eq_true hb, Bool.true_and] at h ⊢
    cases hc : (shutL m sh).getD b.toNat false with
    | false => rfl
    | true =>
      have := shutL_mono m b.toNat mo (shutL m sh) hc
      have e : shutL m (sh ++ mo) = mo.foldl (fun c x => c.set (x % (m : Int)).toNat true) (shutL m sh) := by unfold shutL; rw [List.foldl_append]
      rw [e, this] at h
      cases h
  · rw [decide_eq_false hb]; rfl
theorem more_le {G : GD} {hm : May G} {v : Int} {n : Nat} {sh mo : List Int} {x y : List Int} (hx : Fix (webTo G hm v (shutL n sh)) x) (hy : Fix (webTo G hm v (shutL n (sh ++ mo))) y) (e : Nat) (h : 0 ≤ dAt y e) : 0 ≤ dAt x e ∧ dAt x e ≤ dAt y e :=
  hy.le hx rfl (fun _ h => h) (fun _ _ h => ⟨⟨h.1, shut_more _ _ _ _ h.2⟩, rfl⟩) (dAt y e).toNat e h (by omega)
def OwnJ (B0 n : Nat) (xs : List Value) : Value → World → Prop := fun v W => ∃ a c, v = .slice a n c ∧ W.ownsRow B0 3 1 v n xs
def EmpJ (B0 : Nat) : Value → World → Prop := fun v W => ∃ a, v = .slice a 0 0 ∧ W.ownsRow B0 3 1 v 0 []
def LitJ (x : Int) : Value → World → Prop := fun v W => ∃ p, v = .slice (some ⟨p, 0, none⟩) 1 1 ∧ Rd W 1 v 1 [.int .i64 x]
theorem OwnJ.st {B0 n : Nat} {xs : List Value} : ∀ v w w', OwnJ B0 n xs v w → Mod (fun _ => False) w w' → OwnJ B0 n xs v w' := fun _ _ _ ⟨a, c, h, o⟩ m => ⟨a, c, h, Own.keep o m (fun _ _ e => e)⟩
theorem EmpJ.st {B0 : Nat} : ∀ v w w', EmpJ B0 v w → Mod (fun _ => False) w w' → EmpJ B0 v w' := fun _ _ _ ⟨a, h, o⟩ m => ⟨a, h, Own.keep o m (fun _ _ e => e)⟩
theorem LitJ.st {x : Int} : ∀ v w w', LitJ x v w → Mod (fun _ => False) w w' → LitJ x v w' := fun _ _ _ ⟨p, h, r⟩ m => ⟨p, h, r.keep m (fun _ _ e => e)⟩
/-- What each operation of the statement leaves. -/
def dm_r7_0_F (n4 : Nat) (d4 : Nat) (n5 : Nat) (d5 : Nat) (a4 : Option Addr) (a5 : Option Addr) (sh : List Int) (mo : List Int) (a1 : Option Addr) (a2 : Option Addr) (a3 : Option Addr) (n1 : Nat) (d1 : Nat) (n2 : Nat) (d2 : Nat) (n3 : Nat) (d3 : Nat) (B0 : Nat) : List FactP :=
  [(true, fun _ => IsV (.agg #[.slice a1 n1 d1, .slice a2 n2 d2, .slice a3 n3 d3])),
   (false, fun _ => EmpJ B0),
   (true, fun _ => IsV (.slice a4 n4 d4)),
   (false, fun _ => OwnJ B0 (n4) (sh.map (Value.int .i64))),
   (true, fun _ => IsV (.slice a5 n5 d5)),
   (false, fun _ => OwnJ B0 (n4 + n5) (sh.map (Value.int .i64) ++ mo.map (Value.int .i64))),
   (false, fun _ => BRow (shutL n2 (sh ++ mo)))]
def dm_r7_0_D : List (List Nat) := [[], [], [], [1, 2], [], [3, 4], [0, 5]]
def dm_r7_0_C : List Nat := [1000, 3, 1000, 5, 1000, 1000, 1000]

/-- What each operation of the statement leaves. -/
def dm_r15_1_F (a2 : Option Addr) (n2 : Nat) (d2 : Nat) (bg : Nat) (vr : Nat) (ay : Option Addr) (cy : Nat) (k : Nat) (ya : Int) (yk : Int) (eb : Nat) (eo : Nat) (hb : Nat) (ho : Nat) : List (Value → World → Prop) :=
  [IsV (.slice ay n2 cy),
   IsV (.int .i64 (k : Int)),
   IsV (.pointer (some ⟨hb, ho, none⟩)),
   IsV (.int .i64 yk),
   IsV (.bool false),
   IsV (.bool false),
   IsV (undef),
   IsV (undef),
   IsV (undef),
   IsV (undef),
   IsV (undef),
   IsV (undef),
   IsV (undef),
   IsV (undef),
   IsV (undef),
   IsV (undef),
   IsV (undef),
   IsV (undef),
   IsV (undef),
   IsV (undef),
   IsV (undef),
   IsV (undef),
   IsV (.bool false),
   IsV (.bool false),
   IsV (.pointer (some ⟨bg, 1, none⟩)),
   IsV (.slice a2 n2 d2),
   IsV (.int .i64 (k : Int)),
   IsV (.pointer (some ⟨eb, eo, none⟩)),
   IsV (.pointer (some ⟨eb, eo + 1, none⟩)),
   IsV (.int .i64 ya),
   IsV (.int .i64 (vr : Int)),
   IsV (.bool false),
   IsV (.bool false),
   IsV (undef),
   IsV (undef),
   IsV (undef),
   IsV (undef),
   IsV (undef),
   IsV (.bool false),
   IsV (.bool false)]
def dm_r15_1_D : List (List Nat) := [[], [], [0, 1], [2], [3], [4], [5], [5], [5], [5], [5], [5], [11], [11], [11], [11], [11], [11], [11], [11], [11], [5], [5, 21], [22], [23], [23, 24], [23], [23, 25, 26], [23, 27], [23, 28], [23], [23, 29, 30], [23, 31], [32], [32], [32], [32], [32], [23, 32, 37], [23, 38]]

/-- What each operation of the statement leaves. -/
def dm_r15_2_F (a2 : Option Addr) (n2 : Nat) (d2 : Nat) (bg : Nat) (vr : Nat) (ax : Option Addr) (cx : Nat) (ay : Option Addr) (cy : Nat) (k : Nat) (ya : Int) (xk : Int) (yk : Int) (eb : Nat) (eo : Nat) (gb : Nat) (go : Nat) (hb : Nat) (ho : Nat) : List (Value → World → Prop) :=
  [IsV (.slice ay n2 cy),
   IsV (.int .i64 (k : Int)),
   IsV (.pointer (some ⟨hb, ho, none⟩)),
   IsV (.int .i64 yk),
   IsV (.bool true),
   IsV (.bool true),
   IsV (.slice ax n2 cx),
   IsV (.int .i64 (k : Int)),
   IsV (.pointer (some ⟨gb, go, none⟩)),
   IsV (.int .i64 xk),
   IsV (.bool false),
   IsV (.bool false),
   IsV (.slice ax n2 cx),
   IsV (.int .i64 (k : Int)),
   IsV (.pointer (some ⟨gb, go, none⟩)),
   IsV (.int .i64 xk),
   IsV (.slice ay n2 cy),
   IsV (.int .i64 (k : Int)),
   IsV (.pointer (some ⟨hb, ho, none⟩)),
   IsV (.int .i64 yk),
   IsV (.bool false),
   IsV (.bool false),
   IsV (.bool false),
   IsV (.bool false),
   IsV (.pointer (some ⟨bg, 1, none⟩)),
   IsV (.slice a2 n2 d2),
   IsV (.int .i64 (k : Int)),
   IsV (.pointer (some ⟨eb, eo, none⟩)),
   IsV (.pointer (some ⟨eb, eo + 1, none⟩)),
   IsV (.int .i64 ya),
   IsV (.int .i64 (vr : Int)),
   IsV (.bool false),
   IsV (.bool false),
   IsV (undef),
   IsV (undef),
   IsV (undef),
   IsV (undef),
   IsV (undef),
   IsV (.bool false),
   IsV (.bool false)]
def dm_r15_2_D : List (List Nat) := [[], [], [0, 1], [2], [3], [4], [5], [5], [5, 6, 7], [5, 8], [5, 9], [5, 10], [11], [11], [11, 12, 13], [11, 14], [11], [11], [11, 16, 17], [11, 18], [11, 15, 19], [5, 11, 20], [5, 21], [22], [23], [23, 24], [23], [23, 25, 26], [23, 27], [23, 28], [23], [23, 29, 30], [23, 31], [32], [32], [32], [32], [32], [23, 32, 37], [23, 38]]

/-- What each operation of the statement leaves. -/
def dm_r15_3_F (a2 : Option Addr) (n2 : Nat) (d2 : Nat) (bg : Nat) (vr : Nat) (ax : Option Addr) (cx : Nat) (ay : Option Addr) (cy : Nat) (k : Nat) (ya : Int) (xk : Int) (yk : Int) (eb : Nat) (eo : Nat) (gb : Nat) (go : Nat) (hb : Nat) (ho : Nat) : List (Value → World → Prop) :=
  [IsV (.slice ay n2 cy),
   IsV (.int .i64 (k : Int)),
   IsV (.pointer (some ⟨hb, ho, none⟩)),
   IsV (.int .i64 yk),
   IsV (.bool true),
   IsV (.bool true),
   IsV (.slice ax n2 cx),
   IsV (.int .i64 (k : Int)),
   IsV (.pointer (some ⟨gb, go, none⟩)),
   IsV (.int .i64 xk),
   IsV (.bool false),
   IsV (.bool false),
   IsV (.slice ax n2 cx),
   IsV (.int .i64 (k : Int)),
   IsV (.pointer (some ⟨gb, go, none⟩)),
   IsV (.int .i64 xk),
   IsV (.slice ay n2 cy),
   IsV (.int .i64 (k : Int)),
   IsV (.pointer (some ⟨hb, ho, none⟩)),
   IsV (.int .i64 yk),
   IsV (.bool false),
   IsV (.bool false),
   IsV (.bool false),
   IsV (.bool false),
   IsV (.pointer (some ⟨bg, 1, none⟩)),
   IsV (.slice a2 n2 d2),
   IsV (.int .i64 (k : Int)),
   IsV (.pointer (some ⟨eb, eo, none⟩)),
   IsV (.pointer (some ⟨eb, eo + 1, none⟩)),
   IsV (.int .i64 ya),
   IsV (.int .i64 (vr : Int)),
   IsV (.bool true),
   IsV (.bool true),
   IsV (.slice ay n2 cy),
   IsV (.int .i64 (k : Int)),
   IsV (.pointer (some ⟨hb, ho, none⟩)),
   IsV (.int .i64 yk),
   IsV (.bool false),
   IsV (.bool false),
   IsV (.bool false)]
def dm_r15_3_D : List (List Nat) := [[], [], [0, 1], [2], [3], [4], [5], [5], [5, 6, 7], [5, 8], [5, 9], [5, 10], [11], [11], [11, 12, 13], [11, 14], [11], [11], [11, 16, 17], [11, 18], [11, 15, 19], [5, 11, 20], [5, 21], [22], [23], [23, 24], [23], [23, 25, 26], [23, 27], [23, 28], [23], [23, 29, 30], [23, 31], [32], [32], [32, 33, 34], [32, 35], [32, 36], [23, 32, 37], [23, 38]]

set_option maxHeartbeats 64000000 in
theorem dmore_all (w : World) (a0 : Option Addr) (m c0 : Nat) (l : List Int) (hm : l.length = m) (hr : Rd w 1 (.slice a0 m c0) m (l.map (Value.int .i64))) (a4 : Option Addr) (n4 d4 : Nat) (sh : List Int) (hn4 : sh.length = n4) (hr4 : Rd w 1 (.slice a4 n4 d4) n4 (sh.map (Value.int .i64))) (a5 : Option Addr) (n5 d5 : Nat) (mo : List Int) (hn5 : mo.length = n5) (hr5 : Rd w 1 (.slice a5 n5 d5) n5 (mo.map (Value.int .i64))) (nv : Int) :
    Calls Try.prog 5 #[.slice a0 m c0, .slice a4 n4 d4, .slice a5 n5 d5, .int .i64 nv] w fun e w' => e = .returned (.bool true) ∧ Mod (fun _ => False) w w' := by
  obtain ⟨iI, hiI, hzI, hsI, hbI⟩ := info_parts GR.infoI
  obtain ⟨iE, hiE, hzE, hsE, hbE⟩ := info_parts GR.infoE
  by_cases hlen0 : m ≤ 100
  case neg =>
    have HS : Hid (Ev (Mod (fun _ => False) w) w) := Lib.hid (Ev.mod w)
    have z0 : decide (100 < (m : Int)) = true := by simp; omega
    have z1 : decide (100 < m) = true := by simp; omega
    go_enter Try.func5, Try.ntmps5
    go_wp2_with fail
    refine (awake11_any _).mono ?_
    rintro e wq1 ⟨rfl, hm⟩
    replace HS := Lib.hid (HS.out.step hm)
    clear hm
    go_wp2_with fail
    go_ret
    exact ⟨rfl, HS.out.now⟩
  by_cases hlen1 : n4 ≤ 40
  case neg =>
    have HS : Hid (Ev (Mod (fun _ => False) w) w) := Lib.hid (Ev.mod w)
    have y0 : decide (100 < (m : Int)) = false := by simp; omega
    have z0 : decide (40 < (n4 : Int)) = true := by simp; omega
    have z1 : decide (40 < n4) = true := by simp; omega
    go_enter Try.func5, Try.ntmps5
    go_wp2_with fail
    refine (awake11_any _).mono ?_
    rintro e wq2 ⟨rfl, hm⟩
    replace HS := Lib.hid (HS.out.step hm)
    clear hm
    go_wp2_with fail
    go_ret
    exact ⟨rfl, HS.out.now⟩
  by_cases hlen2 : n5 ≤ 40
  case neg =>
    have HS : Hid (Ev (Mod (fun _ => False) w) w) := Lib.hid (Ev.mod w)
    have y0 : decide (100 < (m : Int)) = false := by simp; omega
    have y1 : decide (40 < (n4 : Int)) = false := by simp; omega
    have z0 : decide (40 < (n5 : Int)) = true := by simp; omega
    have z1 : decide (40 < n5) = true := by simp; omega
    go_enter Try.func5, Try.ntmps5
    go_wp2_with fail
    refine (awake11_any _).mono ?_
    rintro e wq3 ⟨rfl, hm⟩
    replace HS := Lib.hid (HS.out.step hm)
    clear hm
    go_wp2_with fail
    go_ret
    exact ⟨rfl, HS.out.now⟩
  have HS : Hid (Ev (Mod (fun _ => False) w) w) := Lib.hid (Ev.mod w)
  have y0 : decide (100 < (m : Int)) = false := by simp; omega
  have y1 : decide (40 < (n4 : Int)) = false := by simp; omega
  have y2 : decide (40 < (n5 : Int)) = false := by simp; omega
  replace HS := Lib.hid ((Ev.rd hr).and HS.out)
  replace HS := Lib.hid ((Ev.rd hr4).and HS.out)
  replace HS := Lib.hid ((Ev.rd hr5).and HS.out)
  have HN4 := Lib.hid hn4
  have HN5 := Lib.hid hn5
  clear hr hr4 hr5 hn4 hn5
  go_enter Try.func5, Try.ntmps5
  go_wp2_with fail
  refine (made11_any _ a0 m c0 l hm ((HS.out.now).2.2.1)).mono ?_
  rintro e wq4 ⟨a1, n1, d1, a2, n2, d2, a3, n3, d3, t, p, B, C, rfl, hg, hto, hmm⟩
  replace HS := Lib.hid (HS.out.step hmm)
  clear hmm
  replace HS := Lib.hid ((Ev.gv hg).and HS.out)
  replace HS := Lib.hid ((Ev.to hto).and HS.out)
  clear hg hto y0 y1 y2
  have hmay := Lib.hid (town_may l)
  have hfew := Lib.hid (town_few l)
  obtain ⟨G, hG⟩ : ∃ G, townG l = G := ⟨_, rfl⟩
  rw [hG] at hmay hfew
  rw [hG] at HS
  clear hG
  have hn := Lib.hid ((HS.out.now).2.1.n)
  have he := Lib.hid ((HS.out.now).2.1.e)
  have hb := Lib.hid ((HS.out.now).2.1.b)
  have h1n : n1 ≤ 16 := by have := hfew.out.1.2; have := hn.out; omega
  have h2n : n2 ≤ 67 := by have := hfew.out.2.1.2; have := he.out; omega
  have h2p : 1 ≤ n2 := by have := hfew.out.2.1.1; have := he.out; omega
  have h3n : n3 ≤ 469 := by have := hfew.out.2.2; have := hb.out; omega
  go_wp2_with fail
  obtain ⟨bg, hbg⟩ : ∃ b, wq4.heap.size = b := ⟨_, rfl⟩
  obtain ⟨wq5, hwq5⟩ : ∃ W, World.alloc wq4 (.cells #[.slice a1 n1 d1, .slice a2 n2 d2, .slice a3 n3 d3] 29) = W := ⟨_, rfl⟩
  have hBbg : Blk wq5 bg 29 [.slice a1 n1 d1, .slice a2 n2 d2, .slice a3 n3 d3] := by rw [← hwq5, ← hbg]; exact Blk.new _ 29 [.slice a1 n1 d1, .slice a2 n2 d2, .slice a3 n3 d3]
  have hzbg : wq5.heap.size = bg + 1 := by rw [← hwq5, ← hbg]; exact heap_size_alloc _ _
  replace HS := Lib.hid (HS.out.step (w' := wq5) (by rw [← hwq5]; exact Mod.alloc _ _ _))
  replace HS := Lib.hid ((Ev.blk hBbg).and HS.out)
  try rw [hwq5]
  try rw [hbg]
  clear hzbg hBbg hbg hwq5
  have hbbg := (HS.out.now).1
  have qbg_0 := hbbg.cell 0 rfl
  have qbg_1 := hbbg.cell 1 rfl
  have qbg_2 := hbbg.cell 2 rfl
  have lbg := hbbg.lt
  clear hbbg
  have hmay0 := hmay.out
  clear hmay
  obtain ⟨hmay, hmy⟩ : ∃ h : May G, h = hmay0 := ⟨_, rfl⟩
  clear hmy hmay0
  have h1p : 1 ≤ n1 := by have := hfew.out.1.1; have := hn.out; omega
  have hGE : 1 ≤ G.E.length := by rw [he.out]; exact h2p
  go_wp2_with fail
  refine (shut_row G hGE _ a1 n1 d1 a2 n2 d2 a3 n3 d3 ((HS.out.now).2.2.1) (by omega) a4 n4 d4 sh HN4.out ((HS.out.now).2.2.2.2.1) (by omega)).mono ?_
  rintro e wq6 ⟨x, rfl, ⟨ac, nc, cc, rfl, hnc, hcl⟩, hmm⟩
  replace HS := Lib.hid (HS.out.step hmm)
  clear hmm
  replace HS := Lib.hid ((Ev.rd hcl).and HS.out)
  have HNC := Lib.hid hnc
  clear hcl hnc
  clear qbg_0 qbg_1 qbg_2 lbg
  have hbbg := (HS.out.now).2.1
  have qbg_0 := hbbg.cell 0 rfl
  have qbg_1 := hbbg.cell 1 rfl
  have qbg_2 := hbbg.cell 2 rfl
  have lbg := hbbg.lt
  clear hbbg
  go_upto_region 7 with fail
  obtain ⟨B0, hB0⟩ : ∃ n, wq6.heap.size = n := ⟨_, rfl⟩
  have HB0 := Lib.hid hB0
  clear hB0
  have HOLD : Hid (∀ W, Mod (fun k => B0 ≤ k) (World.drew wq6) W → Mod (fun _ => False) (World.drew wq6) W) := Lib.hid fun W h => h.mono (fun i hi e => by have := HB0.out; simp at hi; omega)
  go_upto_region 7 with fail
  clear qbg_0 qbg_1 qbg_2 lbg
  have HSd := Lib.hid HS.out.drew
  have HST : ∀ (ix : Nat) (vs : Nat → Value) (vx : Value) (wx wy : World), factP (dm_r7_0_F n4 d4 n5 d5 a4 a5 sh mo a1 a2 a3 n1 d1 n2 d2 n3 d3 B0) ix vs vx wx → Mod (fun _ => False) wx wy → factP (dm_r7_0_F n4 d4 n5 d5 a4 a5 sh mo a1 a2 a3 n1 d1 n2 d2 n3 d3 B0) ix vs vx wy := by
    refine factP_stays ?_
    unfold dm_r7_0_F
    exact stableP_cons (StableP.of (stable_val _)) <| stableP_cons (StableP.of (EmpJ.st)) <| stableP_cons (StableP.of (stable_val _)) <| stableP_cons (StableP.of (OwnJ.st)) <| stableP_cons (StableP.of (stable_val _)) <| stableP_cons (StableP.of (OwnJ.st)) <| stableP_cons (StableP.of (BRow.st)) <| stableP_nil
  have HSO : ∀ px ∈ (dm_r7_0_F n4 d4 n5 d5 a4 a5 sh mo a1 a2 a3 n1 d1 n2 d2 n3 d3 B0), px.1 = true → ∀ (vs : Nat → Value) (vx : Value) (wx wy : World), px.2 vs vx wx → px.2 vs vx wy := by
    unfold dm_r7_0_F
    exact solidP_cons (solid_val _) <| solidP_cons (fun h => by cases h) <| solidP_cons (solid_val _) <| solidP_cons (fun h => by cases h) <| solidP_cons (solid_val _) <| solidP_cons (fun h => by cases h) <| solidP_cons (fun h => by cases h) <| solidP_nil
  have HLO : LocL (fun i => dm_r7_0_D.getD i []) 0 (dm_r7_0_F n4 d4 n5 d5 a4 a5 sh mo a1 a2 a3 n1 d1 n2 d2 n3 d3 B0) := by
    unfold dm_r7_0_F
    exact loc_cons (loc_own _) <| loc_cons (loc_own _) <| loc_cons (loc_own _) <| loc_cons (loc_own _) <| loc_cons (loc_own _) <| loc_cons (loc_own _) <| loc_cons (loc_own _) <| loc_nil
  refine wp_region_pair (act := ?actdm_r7_0) (Mod (fun k => B0 ≤ k)) (factP (dm_r7_0_F n4 d4 n5 d5 a4 a5 sh mo a1 a2 a3 n1 d1 n2 d2 n3 d3 B0)) (fun i => dm_r7_0_C.getD i 1000) (fun i => dm_r7_0_D.getD i []) 7 _ rfl rfl (by kernel_rfl) (by kernel_rfl) (by kernel_rfl) (by kernel_rfl) (by kernel_rfl) (fun _ => Mod.refl _ _)
    (fun _ _ _ h k => h.trans k (fun _ _ e => e) (fun _ _ e => e)) ?hactdm_r7_0 (loc_of HLO) ?_ ?_
  case hactdm_r7_0 => intro vs; simp only [putAll, Nat.zero_add, Nat.reduceAdd, Act.put, List.setIfInBounds_toArray, List.set_cons_succ, List.set_cons_zero]; exact rfl
  · refine opsOkP_cons ?_ ?_
    · intro K vs W hR hD hN hK
      clear hD
      clear hN
      try dsimp only at hK ⊢
      simp only [Act.put, List.setIfInBounds_toArray, List.set_cons_succ, List.set_cons_zero] at hK
      have hbx := (HSd.out.at (HOLD.out W hR)).2.1
      have q0 := hbx.cell 0 rfl
      have q1 := hbx.cell 1 rfl
      have q2 := hbx.cell 2 rfl
      go_wp2
      exact hK _ _ rfl (fun _ _ h => h) (Mod.refl _ _)
    refine opsOkP_cons ?_ ?_
    · intro K vs W hR hD hN hK
      clear hD
      clear hN
      try dsimp only at hK ⊢
      simp only [Act.put, List.setIfInBounds_toArray, List.set_cons_succ, List.set_cons_zero] at hK
      have hz := (show B0 ≤ W.heap.size from (by have h1 := HB0.out; have h2 := hR.size; simp at h2; omega))
      go_wp2
      exact hK _ _ ⟨_, rfl, Own.rebase (own_empty W 3 1 W.heap.size rfl) (low_lit hz)⟩ (fun j _ h => HST j vs _ _ _ h (Mod.alloc _ _ _)) (Mod.alloc _ _ _)
    refine opsOkP_cons ?_ ?_
    · intro K vs W hR hD hN hK
      clear hD
      clear hN
      try dsimp only at hK ⊢
      simp only [Act.put, List.setIfInBounds_toArray, List.set_cons_succ, List.set_cons_zero] at hK
      go_wp2
      exact hK _ _ rfl (fun _ _ h => h) (Mod.refl _ _)
    refine opsOkP_cons ?_ ?_
    · intro K vs W hR hD hN hK
      have dq1 : (EmpJ B0) (vs 1) W := hD 1 (by decide)
      have dq2 : vs 2 = .slice a4 n4 d4 := hD 2 (by decide)
      clear hD
      clear hN
      try dsimp only at hK ⊢
      simp only [Act.put, List.setIfInBounds_toArray, List.set_cons_succ, List.set_cons_zero] at hK
      generalize vs 1 = vq1 at hK dq1 ⊢
      generalize vs 2 = vq2 at hK dq2 ⊢
      subst vq2
      have hz := (show B0 ≤ W.heap.size from (by have h1 := HB0.out; have h2 := hR.size; simp at h2; omega))
      have hrd := (HSd.out.at (HOLD.out W hR)).2.2.2.2.2.1
      obtain ⟨ae, rfl, ho⟩ := dq1
      go_wp2_with (at_builtin; refine wpList_append_any rfl (.tmp 42) (.tmp 43) 22 rfl 3 iI (.int .i64 0) 1 8 Try.underlying22 hiI hzI hsI hbI rfl (by decide) _ 0 ([]) rfl (Own.base ho (Nat.zero_le _)) _ n4 (sh.map (Value.int .i64)) rfl hrd (by intro u hu; first | (obtain ⟨_, _, rfl⟩ := List.mem_map.1 hu; rfl) | (simp at hu; subst hu; rfl)) (by unfold maxLen; omega) (by omega) ?_; intro v' w' hap)
      obtain ⟨a4, c4, rfl⟩ := hap.form
      have ho4 := hap.own
      have lo4 := hap.low hz (fun k hk => (ho.lt k hk).1)
      have hm4 := hap.still ae 0 0 rfl (by omega)
      simp only [Nat.zero_add, List.nil_append] at ho4 lo4 ⊢
      exact hK _ _ ⟨a4, c4, rfl, Own.rebase ho4 lo4⟩ (fun j _ h => HST j vs _ _ _ h hm4) (hm4.mono (fun _ _ e => e.elim))
    refine opsOkP_cons ?_ ?_
    · intro K vs W hR hD hN hK
      clear hD
      clear hN
      try dsimp only at hK ⊢
      simp only [Act.put, List.setIfInBounds_toArray, List.set_cons_succ, List.set_cons_zero] at hK
      go_wp2
      exact hK _ _ rfl (fun _ _ h => h) (Mod.refl _ _)
    refine opsOkP_cons ?_ ?_
    · intro K vs W hR hD hN hK
      have dq3 : (OwnJ B0 (n4) (sh.map (Value.int .i64))) (vs 3) W := hD 3 (by decide)
      have dq4 : vs 4 = .slice a5 n5 d5 := hD 4 (by decide)
      clear hD
      clear hN
      try dsimp only at hK ⊢
      simp only [Act.put, List.setIfInBounds_toArray, List.set_cons_succ, List.set_cons_zero] at hK
      generalize vs 3 = vq3 at hK dq3 ⊢
      generalize vs 4 = vq4 at hK dq4 ⊢
      subst vq4
      have hz := (show B0 ≤ W.heap.size from (by have h1 := HB0.out; have h2 := hR.size; simp at h2; omega))
      have hrd := (HSd.out.at (HOLD.out W hR)).2.2.2.2.1
      obtain ⟨ae, ce, rfl, ho⟩ := dq3
      go_wp2_with (at_builtin; refine wpList_append_any rfl (.tmp 44) (.tmp 45) 22 rfl 3 iI (.int .i64 0) 1 8 Try.underlying22 hiI hzI hsI hbI rfl (by decide) _ n4 (sh.map (Value.int .i64)) rfl (Own.base ho (Nat.zero_le _)) _ n5 (mo.map (Value.int .i64)) rfl hrd (by intro u hu; first | (obtain ⟨_, _, rfl⟩ := List.mem_map.1 hu; rfl) | (simp at hu; subst hu; rfl)) (by unfold maxLen; omega) (by omega) ?_; intro v' w' hap)
      obtain ⟨a4, c4, rfl⟩ := hap.form
      have ho4 := hap.own
      have lo4 := hap.low hz (fun k hk => (ho.lt k hk).1)
      exact hK _ _ ⟨a4, c4, rfl, Own.rebase ho4 lo4⟩ (factP_solid HSO [] 5 (by kernel_rfl) (fun _ h => by cases h)) (hap.mod.mono (fun k _ e => (ho.lt k e).1))
    refine opsOkP_cons ?_ ?_
    · intro K vs W hR hD hN hK
      have dq0 : vs 0 = .agg #[.slice a1 n1 d1, .slice a2 n2 d2, .slice a3 n3 d3] := hD 0 (by decide)
      have dq5 : (OwnJ B0 (n4 + n5) (sh.map (Value.int .i64) ++ mo.map (Value.int .i64))) (vs 5) W := hD 5 (by decide)
      clear hD
      clear hN
      try dsimp only at hK ⊢
      simp only [Act.put, List.setIfInBounds_toArray, List.set_cons_succ, List.set_cons_zero] at hK
      generalize vs 0 = vq0 at hK dq0 ⊢
      subst vq0
      generalize vs 5 = vq5 at hK dq5 ⊢
      obtain ⟨aor, cor, rfl, hor⟩ := dq5
      go_wp2_with (go_at_call 13; refine (shut_row G hGE W a1 n1 d1 a2 n2 d2 a3 n3 d3 ((HSd.out.at (HOLD.out W hR)).2.2.2.1) (by omega) _ (n4 + n5) _ (sh ++ mo) (by rw [List.length_append, HN4.out, HN5.out]) (by rw [List.map_append]; exact Rd.ofOwn hor) (by omega)).mono ?_; rintro e' w' ⟨x', rfl, hx', hm'⟩)
      exact hK _ _ hx' (fun j _ h => HST j vs _ _ _ h hm') (hm'.mono (fun _ _ e => e.elim))
    exact opsOkP_nil
  · intro vs wq7 hR hF
    have dq6 : (BRow (shutL n2 (sh ++ mo))) (vs 6) wq7 := hF 6 (by decide) (by decide)
    clear hF
    try dsimp only
    generalize vs 6 = vq6 at dq6 ⊢
    have hmw : Mod (fun _ => False) wq6 wq7 := (Mod.drew _ _).of2 (HOLD.out _ hR)
    replace HS := Lib.hid (HS.out.step hmw)
    clear hmw HSd
    obtain ⟨ae, ne, ce, rfl, hnc, hcl⟩ := dq6
    replace HS := Lib.hid ((Ev.rd hcl).and HS.out)
    have HNM := Lib.hid hnc
    clear hcl hnc
    try clear HSO
    try clear HST
    try clear HLO
    have hbbg := (HS.out.now).2.2.1
    have qbg_0 := hbbg.cell 0 rfl
    have qbg_1 := hbbg.cell 1 rfl
    have qbg_2 := hbbg.cell 2 rfl
    have lbg := hbbg.lt
    clear hbbg
    go_wp2_with fail
    go_wp2_with fail
    refine (round_any nv (n1 : Int) _ (by omega) (by omega)).mono ?_
    rintro e w' ⟨rfl, rfl⟩
    have hr0 := Int.emod_nonneg (nv) (b := (n1 : Int)) (by omega)
    have hr1 := Int.emod_lt_of_pos (nv) (b := (n1 : Int)) (by omega)
    obtain ⟨vr, hr2⟩ := Int.eq_ofNat_of_zero_le hr0
    rw [hr2] at hr1 ⊢
    have HVR := Lib.hid hr2
    have HVRb := hr1
    clear hr0 hr1 hr2
    have hvN : 0 ≤ (vr : Int) ∧ (vr : Int) < (G.N.length : Int) := ⟨by omega, by rw [hn.out]; omega⟩
    have HVN := Lib.hid hvN
    clear hvN
    go_wp2_with fail
    refine (dto_fix t p B C G hmay _ ((HS.out.now).2.2.2.1) (vr : Int) HVN.out n2 he.out ac nc cc (shutL n2 sh) HNC.out ((HS.out.now).2.1)).mono ?_
    rintro e wq8 ⟨ax, cx, x, rfl, hfl, hfr, hfx, hmm⟩
    replace HS := Lib.hid (HS.out.step hmm)
    clear hmm
    replace HS := Lib.hid ((Ev.rd hfr).and HS.out)
    have HxL := Lib.hid hfl
    have HxF := Lib.hid hfx
    clear hfr hfl hfx
    clear qbg_0 qbg_1 qbg_2 lbg
    have hbbg := (HS.out.now).2.2.2.1
    have qbg_0 := hbbg.cell 0 rfl
    have qbg_1 := hbbg.cell 1 rfl
    have qbg_2 := hbbg.cell 2 rfl
    have lbg := hbbg.lt
    clear hbbg
    go_wp2_with fail
    refine (dto_fix t p B C G hmay _ ((HS.out.now).2.2.2.2.1) (vr : Int) HVN.out n2 he.out ae ne ce (shutL n2 (sh ++ mo)) HNM.out ((HS.out.now).2.1)).mono ?_
    rintro e wq9 ⟨ay, cy, y, rfl, hfl, hfr, hfx, hmm⟩
    replace HS := Lib.hid (HS.out.step hmm)
    clear hmm
    replace HS := Lib.hid ((Ev.rd hfr).and HS.out)
    have HyL := Lib.hid hfl
    have HyF := Lib.hid hfx
    clear hfr hfl hfx
    clear qbg_0 qbg_1 qbg_2 lbg
    have hbbg := (HS.out.now).2.2.2.2.1
    have qbg_0 := hbbg.cell 0 rfl
    have qbg_1 := hbbg.cell 1 rfl
    have qbg_2 := hbbg.cell 2 rfl
    have lbg := hbbg.lt
    clear hbbg
    go_wp2_with fail
    replace HS := Lib.hid ((Ev.mod wq9).and HS.out)
    go_loopw [16] (fun i wr => ∃ k : Nat, k ≤ n2 ∧ i = .int .i64 k ∧ Mod (fun _ => False) wq9 wr) (fun i _ => n2 - (intOf i).toNat)
    case atStart => exact ⟨0, by omega, rfl, Mod.refl _ _⟩
    case round =>
      obtain ⟨k, hk, rfl, hmr⟩ := hrel
      obtain ⟨wo, hwo⟩ : ∃ x : World, x = wr := ⟨_, rfl⟩
      subst hwo
      replace HS := Lib.hid (HS.out.step hmr)
      clear hmr
      clear qbg_0 qbg_1 qbg_2 lbg
      have hbbg := (HS.out.now).2.2.2.2.2.1
      have qbg_0 := hbbg.cell 0 rfl
      have qbg_1 := hbbg.cell 1 rfl
      have qbg_2 := hbbg.cell 2 rfl
      have lbg := hbbg.lt
      clear hbbg
      by_cases hlk : k < n2
      case pos =>
        have z0 : decide ((k : Int) < (n2 : Int)) = true := by simp; omega
        have hkE : k < G.E.length := by rw [he.out]; exact hlk
        have hkx : k < x.length := by rw [HxL.out]; exact hlk
        have hky : k < y.length := by rw [HyL.out]; exact hlk
        have hle := more_le HxF.out HyF.out k
        have hst := fun h => HyF.out.st k h hkE
        rw [dAt_eq x k hkx, dAt_eq y k hky] at hle
        rw [dAt_eq y k hky] at hst
        replace hst : (eAt G (k : Int)).2.1 = (vr : Int) → y[k] = 0 := hst
        rw [eAt_eq G k hkE] at hst
        obtain ⟨xa, Hxa0⟩ : ∃ qz, (G.E[k]).1 = qz := ⟨_, rfl⟩
        have Hxa := Lib.hid Hxa0
        clear Hxa0
        obtain ⟨ya, Hya0⟩ : ∃ qz, (G.E[k]).2.1 = qz := ⟨_, rfl⟩
        have Hya := Lib.hid Hya0
        clear Hya0
        obtain ⟨za, Hza0⟩ : ∃ qz, (G.E[k]).2.2 = qz := ⟨_, rfl⟩
        have Hza := Lib.hid Hza0
        clear Hza0
        obtain ⟨xk, HXK0⟩ : ∃ qz, x[k] = qz := ⟨_, rfl⟩
        have HXK := Lib.hid HXK0
        clear HXK0
        obtain ⟨yk, HYK0⟩ : ∃ qz, y[k] = qz := ⟨_, rfl⟩
        have HYK := Lib.hid HYK0
        clear HYK0
        rw [HXK.out, HYK.out] at hle
        rw [HYK.out, Hya.out] at hst
        have HLE := Lib.hid hle
        have HST0 := Lib.hid hst
        clear hle hst
        obtain ⟨eb, eo, hpl, e0, e1, e2⟩ := rd3 (HS.out.now).2.2.2.2.2.2.2.1.re k hkE
        have hix := fun wx => run_indexS (P := Try.prog) wx 26 43 iE 3 Try.underlying26 hiE hsE a2 n2 d2 k hlk ((HS.out.now).2.2.2.2.2.2.2.1.re.some_ (by have := hlk; omega))
        rw [hpl] at hix
        have HIe := Lib.hid hix
        clear hix hpl
        rw [Hxa.out] at e0
        replace HS := Lib.hid ((Ev.cell e0).and HS.out)
        clear e0
        rw [Hya.out] at e1
        replace HS := Lib.hid ((Ev.cell e1).and HS.out)
        clear e1
        rw [Hza.out] at e2
        replace HS := Lib.hid ((Ev.cell e2).and HS.out)
        clear e2
        obtain ⟨gb, go, hpl, e0⟩ := rd1 (HS.out.now).2.2.2.2.2.1 k hkx
        have hix := fun wx => run_indexS (P := Try.prog) wx 22 3 iI 1 Try.underlying22 hiI hsI ax n2 cx k hlk ((HS.out.now).2.2.2.2.2.1.some_ (by have := hlk; omega))
        rw [hpl] at hix
        have HIg := Lib.hid hix
        clear hix hpl
        rw [HXK.out] at e0
        replace HS := Lib.hid ((Ev.cell e0).and HS.out)
        clear e0
        obtain ⟨hb, ho, hpl, e0⟩ := rd1 (HS.out.now).2.2.2.2.2.1 k hky
        have hix := fun wx => run_indexS (P := Try.prog) wx 22 3 iI 1 Try.underlying22 hiI hsI ay n2 cy k hlk ((HS.out.now).2.2.2.2.2.1.some_ (by have := hlk; omega))
        rw [hpl] at hix
        have HIh := Lib.hid hix
        clear hix hpl
        rw [HYK.out] at e0
        replace HS := Lib.hid ((Ev.cell e0).and HS.out)
        clear e0
        go_upto_region 15 with fail
        clear z0
        by_cases c1 : ya = (vr : Int)
        case neg =>
          have C1 := Lib.hid c1
          clear c1
          by_cases c2 : 0 ≤ yk
          case neg =>
            have Z4 := Lib.hid (show decide (0 ≤ yk) = false from by simp; omega)
            have Z31 := Lib.hid (show (ya == (vr : Int)) = false from beq_eq_false_iff_ne.2 C1.out)
            clear qbg_0 qbg_1 qbg_2 lbg
            have HSd := Lib.hid HS.out.drew
            refine wp_region_inv3 (act := ?actdm_r15_1) (Mod (fun _ => False)) (fun i => (dm_r15_1_F a2 n2 d2 bg vr ay cy k ya yk eb eo hb ho).getD i (fun _ _ => True)) (fun i => dm_r15_1_D.getD i []) (by kernel_rfl) (by kernel_rfl) (by kernel_rfl) (by kernel_rfl) (fun _ => Mod.refl _ _)
              (fun _ _ _ h k => h.trans k (fun _ _ e => e) (fun _ _ e => e)) ?hactdm_r15_1 (stable_list ?_) ?_ ?_
            case hactdm_r15_1 => intro vs; simp only [putAll, Nat.zero_add, Nat.reduceAdd, Act.put, List.setIfInBounds_toArray, List.set_cons_succ, List.set_cons_zero]; exact rfl
            · unfold dm_r15_1_F
              exact stable_cons (stable_val _) <| stable_cons (stable_val _) <| stable_cons (stable_val _) <| stable_cons (stable_val _) <| stable_cons (stable_val _) <| stable_cons (stable_val _) <| stable_cons (stable_val _) <| stable_cons (stable_val _) <| stable_cons (stable_val _) <| stable_cons (stable_val _) <| stable_cons (stable_val _) <| stable_cons (stable_val _) <| stable_cons (stable_val _) <| stable_cons (stable_val _) <| stable_cons (stable_val _) <| stable_cons (stable_val _) <| stable_cons (stable_val _) <| stable_cons (stable_val _) <| stable_cons (stable_val _) <| stable_cons (stable_val _) <| stable_cons (stable_val _) <| stable_cons (stable_val _) <| stable_cons (stable_val _) <| stable_cons (stable_val _) <| stable_cons (stable_val _) <| stable_cons (stable_val _) <| stable_cons (stable_val _) <| stable_cons (stable_val _) <| stable_cons (stable_val _) <| stable_cons (stable_val _) <| stable_cons (stable_val _) <| stable_cons (stable_val _) <| stable_cons (stable_val _) <| stable_cons (stable_val _) <| stable_cons (stable_val _) <| stable_cons (stable_val _) <| stable_cons (stable_val _) <| stable_cons (stable_val _) <| stable_cons (stable_val _) <| stable_cons (stable_val _) <| stable_nil
            · refine opsOkA_cons ?_ ?_
              · intro K vs W hR hD hK
                clear hD
                try dsimp only at hK ⊢
                simp only [Act.put, List.setIfInBounds_toArray, List.set_cons_succ, List.set_cons_zero] at hK
                go_wp2
                exact hK _ _ rfl (Mod.refl _ _)
              refine opsOkA_cons ?_ ?_
              · intro K vs W hR hD hK
                clear hD
                try dsimp only at hK ⊢
                simp only [Act.put, List.setIfInBounds_toArray, List.set_cons_succ, List.set_cons_zero] at hK
                go_wp2
                exact hK _ _ rfl (Mod.refl _ _)
              refine opsOkA_cons ?_ ?_
              · intro K vs W hR hD hK
                have dq0 : vs 0 = .slice ay n2 cy := hD 0 (by decide)
                have dq1 : vs 1 = .int .i64 (k : Int) := hD 1 (by decide)
                clear hD
                try dsimp only at hK ⊢
                simp only [Act.put, List.setIfInBounds_toArray, List.set_cons_succ, List.set_cons_zero] at hK
                generalize vs 0 = vq0 at hK dq0 ⊢
                subst vq0
                generalize vs 1 = vq1 at hK dq1 ⊢
                subst vq1
                have hix := HIh.out
                go_wp2_with fail
                exact hK _ _ rfl (Mod.refl _ _)
              refine opsOkA_cons ?_ ?_
              · intro K vs W hR hD hK
                have dq2 : vs 2 = .pointer (some ⟨hb, ho, none⟩) := hD 2 (by decide)
                clear hD
                try dsimp only at hK ⊢
                simp only [Act.put, List.setIfInBounds_toArray, List.set_cons_succ, List.set_cons_zero] at hK
                generalize vs 2 = vq2 at hK dq2 ⊢
                subst vq2
                have c0 := (HSd.out.at (hR)).1
                go_wp2
                exact hK _ _ rfl (Mod.refl _ _)
              refine opsOkA_cons ?_ ?_
              · intro K vs W hR hD hK
                have dq3 : vs 3 = .int .i64 yk := hD 3 (by decide)
                clear hD
                try dsimp only at hK ⊢
                simp only [Act.put, List.setIfInBounds_toArray, List.set_cons_succ, List.set_cons_zero] at hK
                generalize vs 3 = vq3 at hK dq3 ⊢
                subst vq3
                have zz := Z4.out
                go_wp2
                exact hK _ _ rfl (Mod.refl _ _)
              refine opsOkA_cons ?_ ?_
              · intro K vs W hR hD hK
                have dq4 : vs 4 = .bool false := hD 4 (by decide)
                clear hD
                try dsimp only at hK ⊢
                simp only [Act.put, List.setIfInBounds_toArray, List.set_cons_succ, List.set_cons_zero] at hK
                generalize vs 4 = vq4 at hK dq4 ⊢
                subst vq4
                go_wp2
                exact hK _ _ rfl (Mod.refl _ _)
              refine opsOkA_cons ?_ ?_
              · intro K vs W hR hD hK
                have dq5 : vs 5 = .bool false := hD 5 (by decide)
                clear hD
                try dsimp only at hK ⊢
                simp only [Act.put, List.setIfInBounds_toArray, List.set_cons_succ, List.set_cons_zero] at hK
                generalize vs 5 = vq5 at hK dq5 ⊢
                subst vq5
                go_wp2
                exact hK _ _ rfl (Mod.refl _ _)
              refine opsOkA_cons ?_ ?_
              · intro K vs W hR hD hK
                have dq5 : vs 5 = .bool false := hD 5 (by decide)
                clear hD
                try dsimp only at hK ⊢
                simp only [Act.put, List.setIfInBounds_toArray, List.set_cons_succ, List.set_cons_zero] at hK
                generalize vs 5 = vq5 at hK dq5 ⊢
                subst vq5
                go_wp2
                exact hK _ _ rfl (Mod.refl _ _)
              refine opsOkA_cons ?_ ?_
              · intro K vs W hR hD hK
                have dq5 : vs 5 = .bool false := hD 5 (by decide)
                clear hD
                try dsimp only at hK ⊢
                simp only [Act.put, List.setIfInBounds_toArray, List.set_cons_succ, List.set_cons_zero] at hK
                generalize vs 5 = vq5 at hK dq5 ⊢
                subst vq5
                go_wp2_with fail
                exact hK _ _ rfl (Mod.refl _ _)
              refine opsOkA_cons ?_ ?_
              · intro K vs W hR hD hK
                have dq5 : vs 5 = .bool false := hD 5 (by decide)
                clear hD
                try dsimp only at hK ⊢
                simp only [Act.put, List.setIfInBounds_toArray, List.set_cons_succ, List.set_cons_zero] at hK
                generalize vs 5 = vq5 at hK dq5 ⊢
                subst vq5
                go_wp2
                exact hK _ _ rfl (Mod.refl _ _)
              refine opsOkA_cons ?_ ?_
              · intro K vs W hR hD hK
                have dq5 : vs 5 = .bool false := hD 5 (by decide)
                clear hD
                try dsimp only at hK ⊢
                simp only [Act.put, List.setIfInBounds_toArray, List.set_cons_succ, List.set_cons_zero] at hK
                generalize vs 5 = vq5 at hK dq5 ⊢
                subst vq5
                go_wp2
                exact hK _ _ rfl (Mod.refl _ _)
              refine opsOkA_cons ?_ ?_
              · intro K vs W hR hD hK
                have dq5 : vs 5 = .bool false := hD 5 (by decide)
                clear hD
                try dsimp only at hK ⊢
                simp only [Act.put, List.setIfInBounds_toArray, List.set_cons_succ, List.set_cons_zero] at hK
                generalize vs 5 = vq5 at hK dq5 ⊢
                subst vq5
                go_wp2
                exact hK _ _ rfl (Mod.refl _ _)
              refine opsOkA_cons ?_ ?_
              · intro K vs W hR hD hK
                have dq11 : vs 11 = undef := hD 11 (by decide)
                clear hD
                try dsimp only at hK ⊢
                simp only [Act.put, List.setIfInBounds_toArray, List.set_cons_succ, List.set_cons_zero] at hK
                generalize vs 11 = vq11 at hK dq11 ⊢
                subst vq11
                go_wp2
                exact hK _ _ rfl (Mod.refl _ _)
              refine opsOkA_cons ?_ ?_
              · intro K vs W hR hD hK
                have dq11 : vs 11 = undef := hD 11 (by decide)
                clear hD
                try dsimp only at hK ⊢
                simp only [Act.put, List.setIfInBounds_toArray, List.set_cons_succ, List.set_cons_zero] at hK
                generalize vs 11 = vq11 at hK dq11 ⊢
                subst vq11
                go_wp2
                exact hK _ _ rfl (Mod.refl _ _)
              refine opsOkA_cons ?_ ?_
              · intro K vs W hR hD hK
                have dq11 : vs 11 = undef := hD 11 (by decide)
                clear hD
                try dsimp only at hK ⊢
                simp only [Act.put, List.setIfInBounds_toArray, List.set_cons_succ, List.set_cons_zero] at hK
                generalize vs 11 = vq11 at hK dq11 ⊢
                subst vq11
                go_wp2_with fail
                exact hK _ _ rfl (Mod.refl _ _)
              refine opsOkA_cons ?_ ?_
              · intro K vs W hR hD hK
                have dq11 : vs 11 = undef := hD 11 (by decide)
                clear hD
                try dsimp only at hK ⊢
                simp only [Act.put, List.setIfInBounds_toArray, List.set_cons_succ, List.set_cons_zero] at hK
                generalize vs 11 = vq11 at hK dq11 ⊢
                subst vq11
                go_wp2
                exact hK _ _ rfl (Mod.refl _ _)
              refine opsOkA_cons ?_ ?_
              · intro K vs W hR hD hK
                have dq11 : vs 11 = undef := hD 11 (by decide)
                clear hD
                try dsimp only at hK ⊢
                simp only [Act.put, List.setIfInBounds_toArray, List.set_cons_succ, List.set_cons_zero] at hK
                generalize vs 11 = vq11 at hK dq11 ⊢
                subst vq11
                go_wp2
                exact hK _ _ rfl (Mod.refl _ _)
              refine opsOkA_cons ?_ ?_
              · intro K vs W hR hD hK
                have dq11 : vs 11 = undef := hD 11 (by decide)
                clear hD
                try dsimp only at hK ⊢
                simp only [Act.put, List.setIfInBounds_toArray, List.set_cons_succ, List.set_cons_zero] at hK
                generalize vs 11 = vq11 at hK dq11 ⊢
                subst vq11
                go_wp2
                exact hK _ _ rfl (Mod.refl _ _)
              refine opsOkA_cons ?_ ?_
              · intro K vs W hR hD hK
                have dq11 : vs 11 = undef := hD 11 (by decide)
                clear hD
                try dsimp only at hK ⊢
                simp only [Act.put, List.setIfInBounds_toArray, List.set_cons_succ, List.set_cons_zero] at hK
                generalize vs 11 = vq11 at hK dq11 ⊢
                subst vq11
                go_wp2_with fail
                exact hK _ _ rfl (Mod.refl _ _)
              refine opsOkA_cons ?_ ?_
              · intro K vs W hR hD hK
                have dq11 : vs 11 = undef := hD 11 (by decide)
                clear hD
                try dsimp only at hK ⊢
                simp only [Act.put, List.setIfInBounds_toArray, List.set_cons_succ, List.set_cons_zero] at hK
                generalize vs 11 = vq11 at hK dq11 ⊢
                subst vq11
                go_wp2
                exact hK _ _ rfl (Mod.refl _ _)
              refine opsOkA_cons ?_ ?_
              · intro K vs W hR hD hK
                have dq11 : vs 11 = undef := hD 11 (by decide)
                clear hD
                try dsimp only at hK ⊢
                simp only [Act.put, List.setIfInBounds_toArray, List.set_cons_succ, List.set_cons_zero] at hK
                generalize vs 11 = vq11 at hK dq11 ⊢
                subst vq11
                go_wp2
                exact hK _ _ rfl (Mod.refl _ _)
              refine opsOkA_cons ?_ ?_
              · intro K vs W hR hD hK
                have dq5 : vs 5 = .bool false := hD 5 (by decide)
                clear hD
                try dsimp only at hK ⊢
                simp only [Act.put, List.setIfInBounds_toArray, List.set_cons_succ, List.set_cons_zero] at hK
                generalize vs 5 = vq5 at hK dq5 ⊢
                subst vq5
                go_wp2
                exact hK _ _ rfl (Mod.refl _ _)
              refine opsOkA_cons ?_ ?_
              · intro K vs W hR hD hK
                have dq5 : vs 5 = .bool false := hD 5 (by decide)
                have dq21 : vs 21 = undef := hD 21 (by decide)
                clear hD
                try dsimp only at hK ⊢
                simp only [Act.put, List.setIfInBounds_toArray, List.set_cons_succ, List.set_cons_zero] at hK
                generalize vs 5 = vq5 at hK dq5 ⊢
                subst vq5
                generalize vs 21 = vq21 at hK dq21 ⊢
                subst vq21
                go_wp2
                exact hK _ _ rfl (Mod.refl _ _)
              refine opsOkA_cons ?_ ?_
              · intro K vs W hR hD hK
                have dq22 : vs 22 = .bool false := hD 22 (by decide)
                clear hD
                try dsimp only at hK ⊢
                simp only [Act.put, List.setIfInBounds_toArray, List.set_cons_succ, List.set_cons_zero] at hK
                generalize vs 22 = vq22 at hK dq22 ⊢
                subst vq22
                go_wp2
                exact hK _ _ rfl (Mod.refl _ _)
              refine opsOkA_cons ?_ ?_
              · intro K vs W hR hD hK
                have dq23 : vs 23 = .bool false := hD 23 (by decide)
                clear hD
                try dsimp only at hK ⊢
                simp only [Act.put, List.setIfInBounds_toArray, List.set_cons_succ, List.set_cons_zero] at hK
                generalize vs 23 = vq23 at hK dq23 ⊢
                subst vq23
                go_wp2
                exact hK _ _ rfl (Mod.refl _ _)
              refine opsOkA_cons ?_ ?_
              · intro K vs W hR hD hK
                have dq23 : vs 23 = .bool false := hD 23 (by decide)
                have dq24 : vs 24 = .pointer (some ⟨bg, 1, none⟩) := hD 24 (by decide)
                clear hD
                try dsimp only at hK ⊢
                simp only [Act.put, List.setIfInBounds_toArray, List.set_cons_succ, List.set_cons_zero] at hK
                generalize vs 23 = vq23 at hK dq23 ⊢
                subst vq23
                generalize vs 24 = vq24 at hK dq24 ⊢
                subst vq24
                have q0 := ((HSd.out.at (hR)).2.2.2.2.2.2.2.2.2.2.1).cell 1 rfl
                go_wp2
                exact hK _ _ rfl (Mod.refl _ _)
              refine opsOkA_cons ?_ ?_
              · intro K vs W hR hD hK
                have dq23 : vs 23 = .bool false := hD 23 (by decide)
                clear hD
                try dsimp only at hK ⊢
                simp only [Act.put, List.setIfInBounds_toArray, List.set_cons_succ, List.set_cons_zero] at hK
                generalize vs 23 = vq23 at hK dq23 ⊢
                subst vq23
                go_wp2
                exact hK _ _ rfl (Mod.refl _ _)
              refine opsOkA_cons ?_ ?_
              · intro K vs W hR hD hK
                have dq23 : vs 23 = .bool false := hD 23 (by decide)
                have dq25 : vs 25 = .slice a2 n2 d2 := hD 25 (by decide)
                have dq26 : vs 26 = .int .i64 (k : Int) := hD 26 (by decide)
                clear hD
                try dsimp only at hK ⊢
                simp only [Act.put, List.setIfInBounds_toArray, List.set_cons_succ, List.set_cons_zero] at hK
                generalize vs 23 = vq23 at hK dq23 ⊢
                subst vq23
                generalize vs 25 = vq25 at hK dq25 ⊢
                subst vq25
                generalize vs 26 = vq26 at hK dq26 ⊢
                subst vq26
                have hix := HIe.out
                go_wp2_with fail
                exact hK _ _ rfl (Mod.refl _ _)
              refine opsOkA_cons ?_ ?_
              · intro K vs W hR hD hK
                have dq23 : vs 23 = .bool false := hD 23 (by decide)
                have dq27 : vs 27 = .pointer (some ⟨eb, eo, none⟩) := hD 27 (by decide)
                clear hD
                try dsimp only at hK ⊢
                simp only [Act.put, List.setIfInBounds_toArray, List.set_cons_succ, List.set_cons_zero] at hK
                generalize vs 23 = vq23 at hK dq23 ⊢
                subst vq23
                generalize vs 27 = vq27 at hK dq27 ⊢
                subst vq27
                go_wp2
                exact hK _ _ rfl (Mod.refl _ _)
              refine opsOkA_cons ?_ ?_
              · intro K vs W hR hD hK
                have dq23 : vs 23 = .bool false := hD 23 (by decide)
                have dq28 : vs 28 = .pointer (some ⟨eb, eo + 1, none⟩) := hD 28 (by decide)
                clear hD
                try dsimp only at hK ⊢
                simp only [Act.put, List.setIfInBounds_toArray, List.set_cons_succ, List.set_cons_zero] at hK
                generalize vs 23 = vq23 at hK dq23 ⊢
                subst vq23
                generalize vs 28 = vq28 at hK dq28 ⊢
                subst vq28
                have c1 := (HSd.out.at (hR)).2.2.2.1
                go_wp2
                exact hK _ _ rfl (Mod.refl _ _)
              refine opsOkA_cons ?_ ?_
              · intro K vs W hR hD hK
                have dq23 : vs 23 = .bool false := hD 23 (by decide)
                clear hD
                try dsimp only at hK ⊢
                simp only [Act.put, List.setIfInBounds_toArray, List.set_cons_succ, List.set_cons_zero] at hK
                generalize vs 23 = vq23 at hK dq23 ⊢
                subst vq23
                go_wp2
                exact hK _ _ rfl (Mod.refl _ _)
              refine opsOkA_cons ?_ ?_
              · intro K vs W hR hD hK
                have dq23 : vs 23 = .bool false := hD 23 (by decide)
                have dq29 : vs 29 = .int .i64 ya := hD 29 (by decide)
                have dq30 : vs 30 = .int .i64 (vr : Int) := hD 30 (by decide)
                clear hD
                try dsimp only at hK ⊢
                simp only [Act.put, List.setIfInBounds_toArray, List.set_cons_succ, List.set_cons_zero] at hK
                generalize vs 23 = vq23 at hK dq23 ⊢
                subst vq23
                generalize vs 29 = vq29 at hK dq29 ⊢
                subst vq29
                generalize vs 30 = vq30 at hK dq30 ⊢
                subst vq30
                have zz := Z31.out
                go_wp2
                exact hK _ _ rfl (Mod.refl _ _)
              refine opsOkA_cons ?_ ?_
              · intro K vs W hR hD hK
                have dq23 : vs 23 = .bool false := hD 23 (by decide)
                have dq31 : vs 31 = .bool false := hD 31 (by decide)
                clear hD
                try dsimp only at hK ⊢
                simp only [Act.put, List.setIfInBounds_toArray, List.set_cons_succ, List.set_cons_zero] at hK
                generalize vs 23 = vq23 at hK dq23 ⊢
                subst vq23
                generalize vs 31 = vq31 at hK dq31 ⊢
                subst vq31
                go_wp2
                exact hK _ _ rfl (Mod.refl _ _)
              refine opsOkA_cons ?_ ?_
              · intro K vs W hR hD hK
                have dq32 : vs 32 = .bool false := hD 32 (by decide)
                clear hD
                try dsimp only at hK ⊢
                simp only [Act.put, List.setIfInBounds_toArray, List.set_cons_succ, List.set_cons_zero] at hK
                generalize vs 32 = vq32 at hK dq32 ⊢
                subst vq32
                go_wp2
                exact hK _ _ rfl (Mod.refl _ _)
              refine opsOkA_cons ?_ ?_
              · intro K vs W hR hD hK
                have dq32 : vs 32 = .bool false := hD 32 (by decide)
                clear hD
                try dsimp only at hK ⊢
                simp only [Act.put, List.setIfInBounds_toArray, List.set_cons_succ, List.set_cons_zero] at hK
                generalize vs 32 = vq32 at hK dq32 ⊢
                subst vq32
                go_wp2
                exact hK _ _ rfl (Mod.refl _ _)
              refine opsOkA_cons ?_ ?_
              · intro K vs W hR hD hK
                have dq32 : vs 32 = .bool false := hD 32 (by decide)
                clear hD
                try dsimp only at hK ⊢
                simp only [Act.put, List.setIfInBounds_toArray, List.set_cons_succ, List.set_cons_zero] at hK
                generalize vs 32 = vq32 at hK dq32 ⊢
                subst vq32
                go_wp2_with fail
                exact hK _ _ rfl (Mod.refl _ _)
              refine opsOkA_cons ?_ ?_
              · intro K vs W hR hD hK
                have dq32 : vs 32 = .bool false := hD 32 (by decide)
                clear hD
                try dsimp only at hK ⊢
                simp only [Act.put, List.setIfInBounds_toArray, List.set_cons_succ, List.set_cons_zero] at hK
                generalize vs 32 = vq32 at hK dq32 ⊢
                subst vq32
                go_wp2
                exact hK _ _ rfl (Mod.refl _ _)
              refine opsOkA_cons ?_ ?_
              · intro K vs W hR hD hK
                have dq32 : vs 32 = .bool false := hD 32 (by decide)
                clear hD
                try dsimp only at hK ⊢
                simp only [Act.put, List.setIfInBounds_toArray, List.set_cons_succ, List.set_cons_zero] at hK
                generalize vs 32 = vq32 at hK dq32 ⊢
                subst vq32
                go_wp2
                exact hK _ _ rfl (Mod.refl _ _)
              refine opsOkA_cons ?_ ?_
              · intro K vs W hR hD hK
                have dq23 : vs 23 = .bool false := hD 23 (by decide)
                have dq32 : vs 32 = .bool false := hD 32 (by decide)
                have dq37 : vs 37 = undef := hD 37 (by decide)
                clear hD
                try dsimp only at hK ⊢
                simp only [Act.put, List.setIfInBounds_toArray, List.set_cons_succ, List.set_cons_zero] at hK
                generalize vs 23 = vq23 at hK dq23 ⊢
                subst vq23
                generalize vs 32 = vq32 at hK dq32 ⊢
                subst vq32
                generalize vs 37 = vq37 at hK dq37 ⊢
                subst vq37
                go_wp2
                exact hK _ _ rfl (Mod.refl _ _)
              refine opsOkA_cons ?_ ?_
              · intro K vs W hR hD hK
                have dq23 : vs 23 = .bool false := hD 23 (by decide)
                have dq38 : vs 38 = .bool false := hD 38 (by decide)
                clear hD
                try dsimp only at hK ⊢
                simp only [Act.put, List.setIfInBounds_toArray, List.set_cons_succ, List.set_cons_zero] at hK
                generalize vs 23 = vq23 at hK dq23 ⊢
                subst vq23
                generalize vs 38 = vq38 at hK dq38 ⊢
                subst vq38
                go_wp2
                exact hK _ _ rfl (Mod.refl _ _)
              exact opsOkA_nil
            · intro vs wq10 hR hF
              have dq39 : vs 39 = .bool false := hF 39 (by decide)
              clear hF
              try dsimp only
              generalize vs 39 = vq39 at dq39 ⊢
              subst dq39
              replace HS := Lib.hid (HSd.out.step hR)
              clear HSd hR
              have hbbg := (HS.out.now).2.2.2.2.2.2.2.2.2.2.1
              have qbg_0 := hbbg.cell 0 rfl
              have qbg_1 := hbbg.cell 1 rfl
              have qbg_2 := hbbg.cell 2 rfl
              have lbg := hbbg.lt
              clear hbbg
              go_wp2_with fail
              go_roundw
              case rel => exact ⟨k + 1, hlk, by go_num, (HS.out.now).2.2.2.2.2.1⟩
              case measure => simp [intOf]; omega
          case pos =>
            have Z4 := Lib.hid (show decide (0 ≤ yk) = true from by simp; omega)
            have hxy := HLE.out (by omega)
            have Z10 := Lib.hid (show decide (xk < 0) = false from by simp; omega)
            have Z20 := Lib.hid (show decide (yk < xk) = false from by simp; omega)
            clear hxy
            have Z31 := Lib.hid (show (ya == (vr : Int)) = false from beq_eq_false_iff_ne.2 C1.out)
            clear qbg_0 qbg_1 qbg_2 lbg
            have HSd := Lib.hid HS.out.drew
            refine wp_region_inv3 (act := ?actdm_r15_2) (Mod (fun _ => False)) (fun i => (dm_r15_2_F a2 n2 d2 bg vr ax cx ay cy k ya xk yk eb eo gb go hb ho).getD i (fun _ _ => True)) (fun i => dm_r15_2_D.getD i []) (by kernel_rfl) (by kernel_rfl) (by kernel_rfl) (by kernel_rfl) (fun _ => Mod.refl _ _)
              (fun _ _ _ h k => h.trans k (fun _ _ e => e) (fun _ _ e => e)) ?hactdm_r15_2 (stable_list ?_) ?_ ?_
            case hactdm_r15_2 => intro vs; simp only [putAll, Nat.zero_add, Nat.reduceAdd, Act.put, List.setIfInBounds_toArray, List.set_cons_succ, List.set_cons_zero]; exact rfl
            · unfold dm_r15_2_F
              exact stable_cons (stable_val _) <| stable_cons (stable_val _) <| stable_cons (stable_val _) <| stable_cons (stable_val _) <| stable_cons (stable_val _) <| stable_cons (stable_val _) <| stable_cons (stable_val _) <| stable_cons (stable_val _) <| stable_cons (stable_val _) <| stable_cons (stable_val _) <| stable_cons (stable_val _) <| stable_cons (stable_val _) <| stable_cons (stable_val _) <| stable_cons (stable_val _) <| stable_cons (stable_val _) <| stable_cons (stable_val _) <| stable_cons (stable_val _) <| stable_cons (stable_val _) <| stable_cons (stable_val _) <| stable_cons (stable_val _) <| stable_cons (stable_val _) <| stable_cons (stable_val _) <| stable_cons (stable_val _) <| stable_cons (stable_val _) <| stable_cons (stable_val _) <| stable_cons (stable_val _) <| stable_cons (stable_val _) <| stable_cons (stable_val _) <| stable_cons (stable_val _) <| stable_cons (stable_val _) <| stable_cons (stable_val _) <| stable_cons (stable_val _) <| stable_cons (stable_val _) <| stable_cons (stable_val _) <| stable_cons (stable_val _) <| stable_cons (stable_val _) <| stable_cons (stable_val _) <| stable_cons (stable_val _) <| stable_cons (stable_val _) <| stable_cons (stable_val _) <| stable_nil
            · refine opsOkA_cons ?_ ?_
              · intro K vs W hR hD hK
                clear hD
                try dsimp only at hK ⊢
                simp only [Act.put, List.setIfInBounds_toArray, List.set_cons_succ, List.set_cons_zero] at hK
                go_wp2
                exact hK _ _ rfl (Mod.refl _ _)
              refine opsOkA_cons ?_ ?_
              · intro K vs W hR hD hK
                clear hD
                try dsimp only at hK ⊢
                simp only [Act.put, List.setIfInBounds_toArray, List.set_cons_succ, List.set_cons_zero] at hK
                go_wp2
                exact hK _ _ rfl (Mod.refl _ _)
              refine opsOkA_cons ?_ ?_
              · intro K vs W hR hD hK
                have dq0 : vs 0 = .slice ay n2 cy := hD 0 (by decide)
                have dq1 : vs 1 = .int .i64 (k : Int) := hD 1 (by decide)
                clear hD
                try dsimp only at hK ⊢
                simp only [Act.put, List.setIfInBounds_toArray, List.set_cons_succ, List.set_cons_zero] at hK
                generalize vs 0 = vq0 at hK dq0 ⊢
                subst vq0
                generalize vs 1 = vq1 at hK dq1 ⊢
                subst vq1
                have hix := HIh.out
                go_wp2_with fail
                exact hK _ _ rfl (Mod.refl _ _)
              refine opsOkA_cons ?_ ?_
              · intro K vs W hR hD hK
                have dq2 : vs 2 = .pointer (some ⟨hb, ho, none⟩) := hD 2 (by decide)
                clear hD
                try dsimp only at hK ⊢
                simp only [Act.put, List.setIfInBounds_toArray, List.set_cons_succ, List.set_cons_zero] at hK
                generalize vs 2 = vq2 at hK dq2 ⊢
                subst vq2
                have c0 := (HSd.out.at (hR)).1
                go_wp2
                exact hK _ _ rfl (Mod.refl _ _)
              refine opsOkA_cons ?_ ?_
              · intro K vs W hR hD hK
                have dq3 : vs 3 = .int .i64 yk := hD 3 (by decide)
                clear hD
                try dsimp only at hK ⊢
                simp only [Act.put, List.setIfInBounds_toArray, List.set_cons_succ, List.set_cons_zero] at hK
                generalize vs 3 = vq3 at hK dq3 ⊢
                subst vq3
                have zz := Z4.out
                go_wp2
                exact hK _ _ rfl (Mod.refl _ _)
              refine opsOkA_cons ?_ ?_
              · intro K vs W hR hD hK
                have dq4 : vs 4 = .bool true := hD 4 (by decide)
                clear hD
                try dsimp only at hK ⊢
                simp only [Act.put, List.setIfInBounds_toArray, List.set_cons_succ, List.set_cons_zero] at hK
                generalize vs 4 = vq4 at hK dq4 ⊢
                subst vq4
                go_wp2
                exact hK _ _ rfl (Mod.refl _ _)
              refine opsOkA_cons ?_ ?_
              · intro K vs W hR hD hK
                have dq5 : vs 5 = .bool true := hD 5 (by decide)
                clear hD
                try dsimp only at hK ⊢
                simp only [Act.put, List.setIfInBounds_toArray, List.set_cons_succ, List.set_cons_zero] at hK
                generalize vs 5 = vq5 at hK dq5 ⊢
                subst vq5
                go_wp2
                exact hK _ _ rfl (Mod.refl _ _)
              refine opsOkA_cons ?_ ?_
              · intro K vs W hR hD hK
                have dq5 : vs 5 = .bool true := hD 5 (by decide)
                clear hD
                try dsimp only at hK ⊢
                simp only [Act.put, List.setIfInBounds_toArray, List.set_cons_succ, List.set_cons_zero] at hK
                generalize vs 5 = vq5 at hK dq5 ⊢
                subst vq5
                go_wp2
                exact hK _ _ rfl (Mod.refl _ _)
              refine opsOkA_cons ?_ ?_
              · intro K vs W hR hD hK
                have dq5 : vs 5 = .bool true := hD 5 (by decide)
                have dq6 : vs 6 = .slice ax n2 cx := hD 6 (by decide)
                have dq7 : vs 7 = .int .i64 (k : Int) := hD 7 (by decide)
                clear hD
                try dsimp only at hK ⊢
                simp only [Act.put, List.setIfInBounds_toArray, List.set_cons_succ, List.set_cons_zero] at hK
                generalize vs 5 = vq5 at hK dq5 ⊢
                subst vq5
                generalize vs 6 = vq6 at hK dq6 ⊢
                subst vq6
                generalize vs 7 = vq7 at hK dq7 ⊢
                subst vq7
                have hix := HIg.out
                go_wp2_with fail
                exact hK _ _ rfl (Mod.refl _ _)
              refine opsOkA_cons ?_ ?_
              · intro K vs W hR hD hK
                have dq5 : vs 5 = .bool true := hD 5 (by decide)
                have dq8 : vs 8 = .pointer (some ⟨gb, go, none⟩) := hD 8 (by decide)
                clear hD
                try dsimp only at hK ⊢
                simp only [Act.put, List.setIfInBounds_toArray, List.set_cons_succ, List.set_cons_zero] at hK
                generalize vs 5 = vq5 at hK dq5 ⊢
                subst vq5
                generalize vs 8 = vq8 at hK dq8 ⊢
                subst vq8
                have c0 := (HSd.out.at (hR)).2.1
                go_wp2
                exact hK _ _ rfl (Mod.refl _ _)
              refine opsOkA_cons ?_ ?_
              · intro K vs W hR hD hK
                have dq5 : vs 5 = .bool true := hD 5 (by decide)
                have dq9 : vs 9 = .int .i64 xk := hD 9 (by decide)
                clear hD
                try dsimp only at hK ⊢
                simp only [Act.put, List.setIfInBounds_toArray, List.set_cons_succ, List.set_cons_zero] at hK
                generalize vs 5 = vq5 at hK dq5 ⊢
                subst vq5
                generalize vs 9 = vq9 at hK dq9 ⊢
                subst vq9
                have zz := Z10.out
                go_wp2
                exact hK _ _ rfl (Mod.refl _ _)
              refine opsOkA_cons ?_ ?_
              · intro K vs W hR hD hK
                have dq5 : vs 5 = .bool true := hD 5 (by decide)
                have dq10 : vs 10 = .bool false := hD 10 (by decide)
                clear hD
                try dsimp only at hK ⊢
                simp only [Act.put, List.setIfInBounds_toArray, List.set_cons_succ, List.set_cons_zero] at hK
                generalize vs 5 = vq5 at hK dq5 ⊢
                subst vq5
                generalize vs 10 = vq10 at hK dq10 ⊢
                subst vq10
                go_wp2
                exact hK _ _ rfl (Mod.refl _ _)
              refine opsOkA_cons ?_ ?_
              · intro K vs W hR hD hK
                have dq11 : vs 11 = .bool false := hD 11 (by decide)
                clear hD
                try dsimp only at hK ⊢
                simp only [Act.put, List.setIfInBounds_toArray, List.set_cons_succ, List.set_cons_zero] at hK
                generalize vs 11 = vq11 at hK dq11 ⊢
                subst vq11
                go_wp2
                exact hK _ _ rfl (Mod.refl _ _)
              refine opsOkA_cons ?_ ?_
              · intro K vs W hR hD hK
                have dq11 : vs 11 = .bool false := hD 11 (by decide)
                clear hD
                try dsimp only at hK ⊢
                simp only [Act.put, List.setIfInBounds_toArray, List.set_cons_succ, List.set_cons_zero] at hK
                generalize vs 11 = vq11 at hK dq11 ⊢
                subst vq11
                go_wp2
                exact hK _ _ rfl (Mod.refl _ _)
              refine opsOkA_cons ?_ ?_
              · intro K vs W hR hD hK
                have dq11 : vs 11 = .bool false := hD 11 (by decide)
                have dq12 : vs 12 = .slice ax n2 cx := hD 12 (by decide)
                have dq13 : vs 13 = .int .i64 (k : Int) := hD 13 (by decide)
                clear hD
                try dsimp only at hK ⊢
                simp only [Act.put, List.setIfInBounds_toArray, List.set_cons_succ, List.set_cons_zero] at hK
                generalize vs 11 = vq11 at hK dq11 ⊢
                subst vq11
                generalize vs 12 = vq12 at hK dq12 ⊢
                subst vq12
                generalize vs 13 = vq13 at hK dq13 ⊢
                subst vq13
                have hix := HIg.out
                go_wp2_with fail
                exact hK _ _ rfl (Mod.refl _ _)
              refine opsOkA_cons ?_ ?_
              · intro K vs W hR hD hK
                have dq11 : vs 11 = .bool false := hD 11 (by decide)
                have dq14 : vs 14 = .pointer (some ⟨gb, go, none⟩) := hD 14 (by decide)
                clear hD
                try dsimp only at hK ⊢
                simp only [Act.put, List.setIfInBounds_toArray, List.set_cons_succ, List.set_cons_zero] at hK
                generalize vs 11 = vq11 at hK dq11 ⊢
                subst vq11
                generalize vs 14 = vq14 at hK dq14 ⊢
                subst vq14
                have c0 := (HSd.out.at (hR)).2.1
                go_wp2
                exact hK _ _ rfl (Mod.refl _ _)
              refine opsOkA_cons ?_ ?_
              · intro K vs W hR hD hK
                have dq11 : vs 11 = .bool false := hD 11 (by decide)
                clear hD
                try dsimp only at hK ⊢
                simp only [Act.put, List.setIfInBounds_toArray, List.set_cons_succ, List.set_cons_zero] at hK
                generalize vs 11 = vq11 at hK dq11 ⊢
                subst vq11
                go_wp2
                exact hK _ _ rfl (Mod.refl _ _)
              refine opsOkA_cons ?_ ?_
              · intro K vs W hR hD hK
                have dq11 : vs 11 = .bool false := hD 11 (by decide)
                clear hD
                try dsimp only at hK ⊢
                simp only [Act.put, List.setIfInBounds_toArray, List.set_cons_succ, List.set_cons_zero] at hK
                generalize vs 11 = vq11 at hK dq11 ⊢
                subst vq11
                go_wp2
                exact hK _ _ rfl (Mod.refl _ _)
              refine opsOkA_cons ?_ ?_
              · intro K vs W hR hD hK
                have dq11 : vs 11 = .bool false := hD 11 (by decide)
                have dq16 : vs 16 = .slice ay n2 cy := hD 16 (by decide)
                have dq17 : vs 17 = .int .i64 (k : Int) := hD 17 (by decide)
                clear hD
                try dsimp only at hK ⊢
                simp only [Act.put, List.setIfInBounds_toArray, List.set_cons_succ, List.set_cons_zero] at hK
                generalize vs 11 = vq11 at hK dq11 ⊢
                subst vq11
                generalize vs 16 = vq16 at hK dq16 ⊢
                subst vq16
                generalize vs 17 = vq17 at hK dq17 ⊢
                subst vq17
                have hix := HIh.out
                go_wp2_with fail
                exact hK _ _ rfl (Mod.refl _ _)
              refine opsOkA_cons ?_ ?_
              · intro K vs W hR hD hK
                have dq11 : vs 11 = .bool false := hD 11 (by decide)
                have dq18 : vs 18 = .pointer (some ⟨hb, ho, none⟩) := hD 18 (by decide)
                clear hD
                try dsimp only at hK ⊢
                simp only [Act.put, List.setIfInBounds_toArray, List.set_cons_succ, List.set_cons_zero] at hK
                generalize vs 11 = vq11 at hK dq11 ⊢
                subst vq11
                generalize vs 18 = vq18 at hK dq18 ⊢
                subst vq18
                have c0 := (HSd.out.at (hR)).1
                go_wp2
                exact hK _ _ rfl (Mod.refl _ _)
              refine opsOkA_cons ?_ ?_
              · intro K vs W hR hD hK
                have dq11 : vs 11 = .bool false := hD 11 (by decide)
                have dq15 : vs 15 = .int .i64 xk := hD 15 (by decide)
                have dq19 : vs 19 = .int .i64 yk := hD 19 (by decide)
                clear hD
                try dsimp only at hK ⊢
                simp only [Act.put, List.setIfInBounds_toArray, List.set_cons_succ, List.set_cons_zero] at hK
                generalize vs 11 = vq11 at hK dq11 ⊢
                subst vq11
                generalize vs 15 = vq15 at hK dq15 ⊢
                subst vq15
                generalize vs 19 = vq19 at hK dq19 ⊢
                subst vq19
                have zz := Z20.out
                go_wp2
                exact hK _ _ rfl (Mod.refl _ _)
              refine opsOkA_cons ?_ ?_
              · intro K vs W hR hD hK
                have dq5 : vs 5 = .bool true := hD 5 (by decide)
                have dq11 : vs 11 = .bool false := hD 11 (by decide)
                have dq20 : vs 20 = .bool false := hD 20 (by decide)
                clear hD
                try dsimp only at hK ⊢
                simp only [Act.put, List.setIfInBounds_toArray, List.set_cons_succ, List.set_cons_zero] at hK
                generalize vs 5 = vq5 at hK dq5 ⊢
                subst vq5
                generalize vs 11 = vq11 at hK dq11 ⊢
                subst vq11
                generalize vs 20 = vq20 at hK dq20 ⊢
                subst vq20
                go_wp2
                exact hK _ _ rfl (Mod.refl _ _)
              refine opsOkA_cons ?_ ?_
              · intro K vs W hR hD hK
                have dq5 : vs 5 = .bool true := hD 5 (by decide)
                have dq21 : vs 21 = .bool false := hD 21 (by decide)
                clear hD
                try dsimp only at hK ⊢
                simp only [Act.put, List.setIfInBounds_toArray, List.set_cons_succ, List.set_cons_zero] at hK
                generalize vs 5 = vq5 at hK dq5 ⊢
                subst vq5
                generalize vs 21 = vq21 at hK dq21 ⊢
                subst vq21
                go_wp2
                exact hK _ _ rfl (Mod.refl _ _)
              refine opsOkA_cons ?_ ?_
              · intro K vs W hR hD hK
                have dq22 : vs 22 = .bool false := hD 22 (by decide)
                clear hD
                try dsimp only at hK ⊢
                simp only [Act.put, List.setIfInBounds_toArray, List.set_cons_succ, List.set_cons_zero] at hK
                generalize vs 22 = vq22 at hK dq22 ⊢
                subst vq22
                go_wp2
                exact hK _ _ rfl (Mod.refl _ _)
              refine opsOkA_cons ?_ ?_
              · intro K vs W hR hD hK
                have dq23 : vs 23 = .bool false := hD 23 (by decide)
                clear hD
                try dsimp only at hK ⊢
                simp only [Act.put, List.setIfInBounds_toArray, List.set_cons_succ, List.set_cons_zero] at hK
                generalize vs 23 = vq23 at hK dq23 ⊢
                subst vq23
                go_wp2
                exact hK _ _ rfl (Mod.refl _ _)
              refine opsOkA_cons ?_ ?_
              · intro K vs W hR hD hK
                have dq23 : vs 23 = .bool false := hD 23 (by decide)
                have dq24 : vs 24 = .pointer (some ⟨bg, 1, none⟩) := hD 24 (by decide)
                clear hD
                try dsimp only at hK ⊢
                simp only [Act.put, List.setIfInBounds_toArray, List.set_cons_succ, List.set_cons_zero] at hK
                generalize vs 23 = vq23 at hK dq23 ⊢
                subst vq23
                generalize vs 24 = vq24 at hK dq24 ⊢
                subst vq24
                have q0 := ((HSd.out.at (hR)).2.2.2.2.2.2.2.2.2.2.1).cell 1 rfl
                go_wp2
                exact hK _ _ rfl (Mod.refl _ _)
              refine opsOkA_cons ?_ ?_
              · intro K vs W hR hD hK
                have dq23 : vs 23 = .bool false := hD 23 (by decide)
                clear hD
                try dsimp only at hK ⊢
                simp only [Act.put, List.setIfInBounds_toArray, List.set_cons_succ, List.set_cons_zero] at hK
                generalize vs 23 = vq23 at hK dq23 ⊢
                subst vq23
                go_wp2
                exact hK _ _ rfl (Mod.refl _ _)
              refine opsOkA_cons ?_ ?_
              · intro K vs W hR hD hK
                have dq23 : vs 23 = .bool false := hD 23 (by decide)
                have dq25 : vs 25 = .slice a2 n2 d2 := hD 25 (by decide)
                have dq26 : vs 26 = .int .i64 (k : Int) := hD 26 (by decide)
                clear hD
                try dsimp only at hK ⊢
                simp only [Act.put, List.setIfInBounds_toArray, List.set_cons_succ, List.set_cons_zero] at hK
                generalize vs 23 = vq23 at hK dq23 ⊢
                subst vq23
                generalize vs 25 = vq25 at hK dq25 ⊢
                subst vq25
                generalize vs 26 = vq26 at hK dq26 ⊢
                subst vq26
                have hix := HIe.out
                go_wp2_with fail
                exact hK _ _ rfl (Mod.refl _ _)
              refine opsOkA_cons ?_ ?_
              · intro K vs W hR hD hK
                have dq23 : vs 23 = .bool false := hD 23 (by decide)
                have dq27 : vs 27 = .pointer (some ⟨eb, eo, none⟩) := hD 27 (by decide)
                clear hD
                try dsimp only at hK ⊢
                simp only [Act.put, List.setIfInBounds_toArray, List.set_cons_succ, List.set_cons_zero] at hK
                generalize vs 23 = vq23 at hK dq23 ⊢
                subst vq23
                generalize vs 27 = vq27 at hK dq27 ⊢
                subst vq27
                go_wp2
                exact hK _ _ rfl (Mod.refl _ _)
              refine opsOkA_cons ?_ ?_
              · intro K vs W hR hD hK
                have dq23 : vs 23 = .bool false := hD 23 (by decide)
                have dq28 : vs 28 = .pointer (some ⟨eb, eo + 1, none⟩) := hD 28 (by decide)
                clear hD
                try dsimp only at hK ⊢
                simp only [Act.put, List.setIfInBounds_toArray, List.set_cons_succ, List.set_cons_zero] at hK
                generalize vs 23 = vq23 at hK dq23 ⊢
                subst vq23
                generalize vs 28 = vq28 at hK dq28 ⊢
                subst vq28
                have c1 := (HSd.out.at (hR)).2.2.2.1
                go_wp2
                exact hK _ _ rfl (Mod.refl _ _)
              refine opsOkA_cons ?_ ?_
              · intro K vs W hR hD hK
                have dq23 : vs 23 = .bool false := hD 23 (by decide)
                clear hD
                try dsimp only at hK ⊢
                simp only [Act.put, List.setIfInBounds_toArray, List.set_cons_succ, List.set_cons_zero] at hK
                generalize vs 23 = vq23 at hK dq23 ⊢
                subst vq23
                go_wp2
                exact hK _ _ rfl (Mod.refl _ _)
              refine opsOkA_cons ?_ ?_
              · intro K vs W hR hD hK
                have dq23 : vs 23 = .bool false := hD 23 (by decide)
                have dq29 : vs 29 = .int .i64 ya := hD 29 (by decide)
                have dq30 : vs 30 = .int .i64 (vr : Int) := hD 30 (by decide)
                clear hD
                try dsimp only at hK ⊢
                simp only [Act.put, List.setIfInBounds_toArray, List.set_cons_succ, List.set_cons_zero] at hK
                generalize vs 23 = vq23 at hK dq23 ⊢
                subst vq23
                generalize vs 29 = vq29 at hK dq29 ⊢
                subst vq29
                generalize vs 30 = vq30 at hK dq30 ⊢
                subst vq30
                have zz := Z31.out
                go_wp2
                exact hK _ _ rfl (Mod.refl _ _)
              refine opsOkA_cons ?_ ?_
              · intro K vs W hR hD hK
                have dq23 : vs 23 = .bool false := hD 23 (by decide)
                have dq31 : vs 31 = .bool false := hD 31 (by decide)
                clear hD
                try dsimp only at hK ⊢
                simp only [Act.put, List.setIfInBounds_toArray, List.set_cons_succ, List.set_cons_zero] at hK
                generalize vs 23 = vq23 at hK dq23 ⊢
                subst vq23
                generalize vs 31 = vq31 at hK dq31 ⊢
                subst vq31
                go_wp2
                exact hK _ _ rfl (Mod.refl _ _)
              refine opsOkA_cons ?_ ?_
              · intro K vs W hR hD hK
                have dq32 : vs 32 = .bool false := hD 32 (by decide)
                clear hD
                try dsimp only at hK ⊢
                simp only [Act.put, List.setIfInBounds_toArray, List.set_cons_succ, List.set_cons_zero] at hK
                generalize vs 32 = vq32 at hK dq32 ⊢
                subst vq32
                go_wp2
                exact hK _ _ rfl (Mod.refl _ _)
              refine opsOkA_cons ?_ ?_
              · intro K vs W hR hD hK
                have dq32 : vs 32 = .bool false := hD 32 (by decide)
                clear hD
                try dsimp only at hK ⊢
                simp only [Act.put, List.setIfInBounds_toArray, List.set_cons_succ, List.set_cons_zero] at hK
                generalize vs 32 = vq32 at hK dq32 ⊢
                subst vq32
                go_wp2
                exact hK _ _ rfl (Mod.refl _ _)
              refine opsOkA_cons ?_ ?_
              · intro K vs W hR hD hK
                have dq32 : vs 32 = .bool false := hD 32 (by decide)
                clear hD
                try dsimp only at hK ⊢
                simp only [Act.put, List.setIfInBounds_toArray, List.set_cons_succ, List.set_cons_zero] at hK
                generalize vs 32 = vq32 at hK dq32 ⊢
                subst vq32
                go_wp2_with fail
                exact hK _ _ rfl (Mod.refl _ _)
              refine opsOkA_cons ?_ ?_
              · intro K vs W hR hD hK
                have dq32 : vs 32 = .bool false := hD 32 (by decide)
                clear hD
                try dsimp only at hK ⊢
                simp only [Act.put, List.setIfInBounds_toArray, List.set_cons_succ, List.set_cons_zero] at hK
                generalize vs 32 = vq32 at hK dq32 ⊢
                subst vq32
                go_wp2
                exact hK _ _ rfl (Mod.refl _ _)
              refine opsOkA_cons ?_ ?_
              · intro K vs W hR hD hK
                have dq32 : vs 32 = .bool false := hD 32 (by decide)
                clear hD
                try dsimp only at hK ⊢
                simp only [Act.put, List.setIfInBounds_toArray, List.set_cons_succ, List.set_cons_zero] at hK
                generalize vs 32 = vq32 at hK dq32 ⊢
                subst vq32
                go_wp2
                exact hK _ _ rfl (Mod.refl _ _)
              refine opsOkA_cons ?_ ?_
              · intro K vs W hR hD hK
                have dq23 : vs 23 = .bool false := hD 23 (by decide)
                have dq32 : vs 32 = .bool false := hD 32 (by decide)
                have dq37 : vs 37 = undef := hD 37 (by decide)
                clear hD
                try dsimp only at hK ⊢
                simp only [Act.put, List.setIfInBounds_toArray, List.set_cons_succ, List.set_cons_zero] at hK
                generalize vs 23 = vq23 at hK dq23 ⊢
                subst vq23
                generalize vs 32 = vq32 at hK dq32 ⊢
                subst vq32
                generalize vs 37 = vq37 at hK dq37 ⊢
                subst vq37
                go_wp2
                exact hK _ _ rfl (Mod.refl _ _)
              refine opsOkA_cons ?_ ?_
              · intro K vs W hR hD hK
                have dq23 : vs 23 = .bool false := hD 23 (by decide)
                have dq38 : vs 38 = .bool false := hD 38 (by decide)
                clear hD
                try dsimp only at hK ⊢
                simp only [Act.put, List.setIfInBounds_toArray, List.set_cons_succ, List.set_cons_zero] at hK
                generalize vs 23 = vq23 at hK dq23 ⊢
                subst vq23
                generalize vs 38 = vq38 at hK dq38 ⊢
                subst vq38
                go_wp2
                exact hK _ _ rfl (Mod.refl _ _)
              exact opsOkA_nil
            · intro vs wq11 hR hF
              have dq39 : vs 39 = .bool false := hF 39 (by decide)
              clear hF
              try dsimp only
              generalize vs 39 = vq39 at dq39 ⊢
              subst dq39
              replace HS := Lib.hid (HSd.out.step hR)
              clear HSd hR
              have hbbg := (HS.out.now).2.2.2.2.2.2.2.2.2.2.1
              have qbg_0 := hbbg.cell 0 rfl
              have qbg_1 := hbbg.cell 1 rfl
              have qbg_2 := hbbg.cell 2 rfl
              have lbg := hbbg.lt
              clear hbbg
              go_wp2_with fail
              go_roundw
              case rel => exact ⟨k + 1, hlk, by go_num, (HS.out.now).2.2.2.2.2.1⟩
              case measure => simp [intOf]; omega
        case pos =>
          have C1 := Lib.hid c1
          clear c1
          by_cases c2 : 0 ≤ yk
          case neg =>
            exact absurd (HST0.out C1.out) (by omega)
          case pos =>
            have Z4 := Lib.hid (show decide (0 ≤ yk) = true from by simp; omega)
            have hxy := HLE.out (by omega)
            have Z10 := Lib.hid (show decide (xk < 0) = false from by simp; omega)
            have Z20 := Lib.hid (show decide (yk < xk) = false from by simp; omega)
            clear hxy
            have Z31 := Lib.hid (show (ya == (vr : Int)) = true from by rw [C1.out]; simp)
            have Z37 := Lib.hid (show (yk != 0) = false from by rw [HST0.out C1.out]; rfl)
            clear qbg_0 qbg_1 qbg_2 lbg
            have HSd := Lib.hid HS.out.drew
            refine wp_region_inv3 (act := ?actdm_r15_3) (Mod (fun _ => False)) (fun i => (dm_r15_3_F a2 n2 d2 bg vr ax cx ay cy k ya xk yk eb eo gb go hb ho).getD i (fun _ _ => True)) (fun i => dm_r15_3_D.getD i []) (by kernel_rfl) (by kernel_rfl) (by kernel_rfl) (by kernel_rfl) (fun _ => Mod.refl _ _)
              (fun _ _ _ h k => h.trans k (fun _ _ e => e) (fun _ _ e => e)) ?hactdm_r15_3 (stable_list ?_) ?_ ?_
            case hactdm_r15_3 => intro vs; simp only [putAll, Nat.zero_add, Nat.reduceAdd, Act.put, List.setIfInBounds_toArray, List.set_cons_succ, List.set_cons_zero]; exact rfl
            · unfold dm_r15_3_F
              exact stable_cons (stable_val _) <| stable_cons (stable_val _) <| stable_cons (stable_val _) <| stable_cons (stable_val _) <| stable_cons (stable_val _) <| stable_cons (stable_val _) <| stable_cons (stable_val _) <| stable_cons (stable_val _) <| stable_cons (stable_val _) <| stable_cons (stable_val _) <| stable_cons (stable_val _) <| stable_cons (stable_val _) <| stable_cons (stable_val _) <| stable_cons (stable_val _) <| stable_cons (stable_val _) <| stable_cons (stable_val _) <| stable_cons (stable_val _) <| stable_cons (stable_val _) <| stable_cons (stable_val _) <| stable_cons (stable_val _) <| stable_cons (stable_val _) <| stable_cons (stable_val _) <| stable_cons (stable_val _) <| stable_cons (stable_val _) <| stable_cons (stable_val _) <| stable_cons (stable_val _) <| stable_cons (stable_val _) <| stable_cons (stable_val _) <| stable_cons (stable_val _) <| stable_cons (stable_val _) <| stable_cons (stable_val _) <| stable_cons (stable_val _) <| stable_cons (stable_val _) <| stable_cons (stable_val _) <| stable_cons (stable_val _) <| stable_cons (stable_val _) <| stable_cons (stable_val _) <| stable_cons (stable_val _) <| stable_cons (stable_val _) <| stable_cons (stable_val _) <| stable_nil
            · refine opsOkA_cons ?_ ?_
              · intro K vs W hR hD hK
                clear hD
                try dsimp only at hK ⊢
                simp only [Act.put, List.setIfInBounds_toArray, List.set_cons_succ, List.set_cons_zero] at hK
                go_wp2
                exact hK _ _ rfl (Mod.refl _ _)
              refine opsOkA_cons ?_ ?_
              · intro K vs W hR hD hK
                clear hD
                try dsimp only at hK ⊢
                simp only [Act.put, List.setIfInBounds_toArray, List.set_cons_succ, List.set_cons_zero] at hK
                go_wp2
                exact hK _ _ rfl (Mod.refl _ _)
              refine opsOkA_cons ?_ ?_
              · intro K vs W hR hD hK
                have dq0 : vs 0 = .slice ay n2 cy := hD 0 (by decide)
                have dq1 : vs 1 = .int .i64 (k : Int) := hD 1 (by decide)
                clear hD
                try dsimp only at hK ⊢
                simp only [Act.put, List.setIfInBounds_toArray, List.set_cons_succ, List.set_cons_zero] at hK
                generalize vs 0 = vq0 at hK dq0 ⊢
                subst vq0
                generalize vs 1 = vq1 at hK dq1 ⊢
                subst vq1
                have hix := HIh.out
                go_wp2_with fail
                exact hK _ _ rfl (Mod.refl _ _)
              refine opsOkA_cons ?_ ?_
              · intro K vs W hR hD hK
                have dq2 : vs 2 = .pointer (some ⟨hb, ho, none⟩) := hD 2 (by decide)
                clear hD
                try dsimp only at hK ⊢
                simp only [Act.put, List.setIfInBounds_toArray, List.set_cons_succ, List.set_cons_zero] at hK
                generalize vs 2 = vq2 at hK dq2 ⊢
                subst vq2
                have c0 := (HSd.out.at (hR)).1
                go_wp2
                exact hK _ _ rfl (Mod.refl _ _)
              refine opsOkA_cons ?_ ?_
              · intro K vs W hR hD hK
                have dq3 : vs 3 = .int .i64 yk := hD 3 (by decide)
                clear hD
                try dsimp only at hK ⊢
                simp only [Act.put, List.setIfInBounds_toArray, List.set_cons_succ, List.set_cons_zero] at hK
                generalize vs 3 = vq3 at hK dq3 ⊢
                subst vq3
                have zz := Z4.out
                go_wp2
                exact hK _ _ rfl (Mod.refl _ _)
              refine opsOkA_cons ?_ ?_
              · intro K vs W hR hD hK
                have dq4 : vs 4 = .bool true := hD 4 (by decide)
                clear hD
                try dsimp only at hK ⊢
                simp only [Act.put, List.setIfInBounds_toArray, List.set_cons_succ, List.set_cons_zero] at hK
                generalize vs 4 = vq4 at hK dq4 ⊢
                subst vq4
                go_wp2
                exact hK _ _ rfl (Mod.refl _ _)
              refine opsOkA_cons ?_ ?_
              · intro K vs W hR hD hK
                have dq5 : vs 5 = .bool true := hD 5 (by decide)
                clear hD
                try dsimp only at hK ⊢
                simp only [Act.put, List.setIfInBounds_toArray, List.set_cons_succ, List.set_cons_zero] at hK
                generalize vs 5 = vq5 at hK dq5 ⊢
                subst vq5
                go_wp2
                exact hK _ _ rfl (Mod.refl _ _)
              refine opsOkA_cons ?_ ?_
              · intro K vs W hR hD hK
                have dq5 : vs 5 = .bool true := hD 5 (by decide)
                clear hD
                try dsimp only at hK ⊢
                simp only [Act.put, List.setIfInBounds_toArray, List.set_cons_succ, List.set_cons_zero] at hK
                generalize vs 5 = vq5 at hK dq5 ⊢
                subst vq5
                go_wp2
                exact hK _ _ rfl (Mod.refl _ _)
              refine opsOkA_cons ?_ ?_
              · intro K vs W hR hD hK
                have dq5 : vs 5 = .bool true := hD 5 (by decide)
                have dq6 : vs 6 = .slice ax n2 cx := hD 6 (by decide)
                have dq7 : vs 7 = .int .i64 (k : Int) := hD 7 (by decide)
                clear hD
                try dsimp only at hK ⊢
                simp only [Act.put, List.setIfInBounds_toArray, List.set_cons_succ, List.set_cons_zero] at hK
                generalize vs 5 = vq5 at hK dq5 ⊢
                subst vq5
                generalize vs 6 = vq6 at hK dq6 ⊢
                subst vq6
                generalize vs 7 = vq7 at hK dq7 ⊢
                subst vq7
                have hix := HIg.out
                go_wp2_with fail
                exact hK _ _ rfl (Mod.refl _ _)
              refine opsOkA_cons ?_ ?_
              · intro K vs W hR hD hK
                have dq5 : vs 5 = .bool true := hD 5 (by decide)
                have dq8 : vs 8 = .pointer (some ⟨gb, go, none⟩) := hD 8 (by decide)
                clear hD
                try dsimp only at hK ⊢
                simp only [Act.put, List.setIfInBounds_toArray, List.set_cons_succ, List.set_cons_zero] at hK
                generalize vs 5 = vq5 at hK dq5 ⊢
                subst vq5
                generalize vs 8 = vq8 at hK dq8 ⊢
                subst vq8
                have c0 := (HSd.out.at (hR)).2.1
                go_wp2
                exact hK _ _ rfl (Mod.refl _ _)
              refine opsOkA_cons ?_ ?_
              · intro K vs W hR hD hK
                have dq5 : vs 5 = .bool true := hD 5 (by decide)
                have dq9 : vs 9 = .int .i64 xk := hD 9 (by decide)
                clear hD
                try dsimp only at hK ⊢
                simp only [Act.put, List.setIfInBounds_toArray, List.set_cons_succ, List.set_cons_zero] at hK
                generalize vs 5 = vq5 at hK dq5 ⊢
                subst vq5
                generalize vs 9 = vq9 at hK dq9 ⊢
                subst vq9
                have zz := Z10.out
                go_wp2
                exact hK _ _ rfl (Mod.refl _ _)
              refine opsOkA_cons ?_ ?_
              · intro K vs W hR hD hK
                have dq5 : vs 5 = .bool true := hD 5 (by decide)
                have dq10 : vs 10 = .bool false := hD 10 (by decide)
                clear hD
                try dsimp only at hK ⊢
                simp only [Act.put, List.setIfInBounds_toArray, List.set_cons_succ, List.set_cons_zero] at hK
                generalize vs 5 = vq5 at hK dq5 ⊢
                subst vq5
                generalize vs 10 = vq10 at hK dq10 ⊢
                subst vq10
                go_wp2
                exact hK _ _ rfl (Mod.refl _ _)
              refine opsOkA_cons ?_ ?_
              · intro K vs W hR hD hK
                have dq11 : vs 11 = .bool false := hD 11 (by decide)
                clear hD
                try dsimp only at hK ⊢
                simp only [Act.put, List.setIfInBounds_toArray, List.set_cons_succ, List.set_cons_zero] at hK
                generalize vs 11 = vq11 at hK dq11 ⊢
                subst vq11
                go_wp2
                exact hK _ _ rfl (Mod.refl _ _)
              refine opsOkA_cons ?_ ?_
              · intro K vs W hR hD hK
                have dq11 : vs 11 = .bool false := hD 11 (by decide)
                clear hD
                try dsimp only at hK ⊢
                simp only [Act.put, List.setIfInBounds_toArray, List.set_cons_succ, List.set_cons_zero] at hK
                generalize vs 11 = vq11 at hK dq11 ⊢
                subst vq11
                go_wp2
                exact hK _ _ rfl (Mod.refl _ _)
              refine opsOkA_cons ?_ ?_
              · intro K vs W hR hD hK
                have dq11 : vs 11 = .bool false := hD 11 (by decide)
                have dq12 : vs 12 = .slice ax n2 cx := hD 12 (by decide)
                have dq13 : vs 13 = .int .i64 (k : Int) := hD 13 (by decide)
                clear hD
                try dsimp only at hK ⊢
                simp only [Act.put, List.setIfInBounds_toArray, List.set_cons_succ, List.set_cons_zero] at hK
                generalize vs 11 = vq11 at hK dq11 ⊢
                subst vq11
                generalize vs 12 = vq12 at hK dq12 ⊢
                subst vq12
                generalize vs 13 = vq13 at hK dq13 ⊢
                subst vq13
                have hix := HIg.out
                go_wp2_with fail
                exact hK _ _ rfl (Mod.refl _ _)
              refine opsOkA_cons ?_ ?_
              · intro K vs W hR hD hK
                have dq11 : vs 11 = .bool false := hD 11 (by decide)
                have dq14 : vs 14 = .pointer (some ⟨gb, go, none⟩) := hD 14 (by decide)
                clear hD
                try dsimp only at hK ⊢
                simp only [Act.put, List.setIfInBounds_toArray, List.set_cons_succ, List.set_cons_zero] at hK
                generalize vs 11 = vq11 at hK dq11 ⊢
                subst vq11
                generalize vs 14 = vq14 at hK dq14 ⊢
                subst vq14
                have c0 := (HSd.out.at (hR)).2.1
                go_wp2
                exact hK _ _ rfl (Mod.refl _ _)
              refine opsOkA_cons ?_ ?_
              · intro K vs W hR hD hK
                have dq11 : vs 11 = .bool false := hD 11 (by decide)
                clear hD
                try dsimp only at hK ⊢
                simp only [Act.put, List.setIfInBounds_toArray, List.set_cons_succ, List.set_cons_zero] at hK
                generalize vs 11 = vq11 at hK dq11 ⊢
                subst vq11
                go_wp2
                exact hK _ _ rfl (Mod.refl _ _)
              refine opsOkA_cons ?_ ?_
              · intro K vs W hR hD hK
                have dq11 : vs 11 = .bool false := hD 11 (by decide)
                clear hD
                try dsimp only at hK ⊢
                simp only [Act.put, List.setIfInBounds_toArray, List.set_cons_succ, List.set_cons_zero] at hK
                generalize vs 11 = vq11 at hK dq11 ⊢
                subst vq11
                go_wp2
                exact hK _ _ rfl (Mod.refl _ _)
              refine opsOkA_cons ?_ ?_
              · intro K vs W hR hD hK
                have dq11 : vs 11 = .bool false := hD 11 (by decide)
                have dq16 : vs 16 = .slice ay n2 cy := hD 16 (by decide)
                have dq17 : vs 17 = .int .i64 (k : Int) := hD 17 (by decide)
                clear hD
                try dsimp only at hK ⊢
                simp only [Act.put, List.setIfInBounds_toArray, List.set_cons_succ, List.set_cons_zero] at hK
                generalize vs 11 = vq11 at hK dq11 ⊢
                subst vq11
                generalize vs 16 = vq16 at hK dq16 ⊢
                subst vq16
                generalize vs 17 = vq17 at hK dq17 ⊢
                subst vq17
                have hix := HIh.out
                go_wp2_with fail
                exact hK _ _ rfl (Mod.refl _ _)
              refine opsOkA_cons ?_ ?_
              · intro K vs W hR hD hK
                have dq11 : vs 11 = .bool false := hD 11 (by decide)
                have dq18 : vs 18 = .pointer (some ⟨hb, ho, none⟩) := hD 18 (by decide)
                clear hD
                try dsimp only at hK ⊢
                simp only [Act.put, List.setIfInBounds_toArray, List.set_cons_succ, List.set_cons_zero] at hK
                generalize vs 11 = vq11 at hK dq11 ⊢
                subst vq11
                generalize vs 18 = vq18 at hK dq18 ⊢
                subst vq18
                have c0 := (HSd.out.at (hR)).1
                go_wp2
                exact hK _ _ rfl (Mod.refl _ _)
              refine opsOkA_cons ?_ ?_
              · intro K vs W hR hD hK
                have dq11 : vs 11 = .bool false := hD 11 (by decide)
                have dq15 : vs 15 = .int .i64 xk := hD 15 (by decide)
                have dq19 : vs 19 = .int .i64 yk := hD 19 (by decide)
                clear hD
                try dsimp only at hK ⊢
                simp only [Act.put, List.setIfInBounds_toArray, List.set_cons_succ, List.set_cons_zero] at hK
                generalize vs 11 = vq11 at hK dq11 ⊢
                subst vq11
                generalize vs 15 = vq15 at hK dq15 ⊢
                subst vq15
                generalize vs 19 = vq19 at hK dq19 ⊢
                subst vq19
                have zz := Z20.out
                go_wp2
                exact hK _ _ rfl (Mod.refl _ _)
              refine opsOkA_cons ?_ ?_
              · intro K vs W hR hD hK
                have dq5 : vs 5 = .bool true := hD 5 (by decide)
                have dq11 : vs 11 = .bool false := hD 11 (by decide)
                have dq20 : vs 20 = .bool false := hD 20 (by decide)
                clear hD
                try dsimp only at hK ⊢
                simp only [Act.put, List.setIfInBounds_toArray, List.set_cons_succ, List.set_cons_zero] at hK
                generalize vs 5 = vq5 at hK dq5 ⊢
                subst vq5
                generalize vs 11 = vq11 at hK dq11 ⊢
                subst vq11
                generalize vs 20 = vq20 at hK dq20 ⊢
                subst vq20
                go_wp2
                exact hK _ _ rfl (Mod.refl _ _)
              refine opsOkA_cons ?_ ?_
              · intro K vs W hR hD hK
                have dq5 : vs 5 = .bool true := hD 5 (by decide)
                have dq21 : vs 21 = .bool false := hD 21 (by decide)
                clear hD
                try dsimp only at hK ⊢
                simp only [Act.put, List.setIfInBounds_toArray, List.set_cons_succ, List.set_cons_zero] at hK
                generalize vs 5 = vq5 at hK dq5 ⊢
                subst vq5
                generalize vs 21 = vq21 at hK dq21 ⊢
                subst vq21
                go_wp2
                exact hK _ _ rfl (Mod.refl _ _)
              refine opsOkA_cons ?_ ?_
              · intro K vs W hR hD hK
                have dq22 : vs 22 = .bool false := hD 22 (by decide)
                clear hD
                try dsimp only at hK ⊢
                simp only [Act.put, List.setIfInBounds_toArray, List.set_cons_succ, List.set_cons_zero] at hK
                generalize vs 22 = vq22 at hK dq22 ⊢
                subst vq22
                go_wp2
                exact hK _ _ rfl (Mod.refl _ _)
              refine opsOkA_cons ?_ ?_
              · intro K vs W hR hD hK
                have dq23 : vs 23 = .bool false := hD 23 (by decide)
                clear hD
                try dsimp only at hK ⊢
                simp only [Act.put, List.setIfInBounds_toArray, List.set_cons_succ, List.set_cons_zero] at hK
                generalize vs 23 = vq23 at hK dq23 ⊢
                subst vq23
                go_wp2
                exact hK _ _ rfl (Mod.refl _ _)
              refine opsOkA_cons ?_ ?_
              · intro K vs W hR hD hK
                have dq23 : vs 23 = .bool false := hD 23 (by decide)
                have dq24 : vs 24 = .pointer (some ⟨bg, 1, none⟩) := hD 24 (by decide)
                clear hD
                try dsimp only at hK ⊢
                simp only [Act.put, List.setIfInBounds_toArray, List.set_cons_succ, List.set_cons_zero] at hK
                generalize vs 23 = vq23 at hK dq23 ⊢
                subst vq23
                generalize vs 24 = vq24 at hK dq24 ⊢
                subst vq24
                have q0 := ((HSd.out.at (hR)).2.2.2.2.2.2.2.2.2.2.1).cell 1 rfl
                go_wp2
                exact hK _ _ rfl (Mod.refl _ _)
              refine opsOkA_cons ?_ ?_
              · intro K vs W hR hD hK
                have dq23 : vs 23 = .bool false := hD 23 (by decide)
                clear hD
                try dsimp only at hK ⊢
                simp only [Act.put, List.setIfInBounds_toArray, List.set_cons_succ, List.set_cons_zero] at hK
                generalize vs 23 = vq23 at hK dq23 ⊢
                subst vq23
                go_wp2
                exact hK _ _ rfl (Mod.refl _ _)
              refine opsOkA_cons ?_ ?_
              · intro K vs W hR hD hK
                have dq23 : vs 23 = .bool false := hD 23 (by decide)
                have dq25 : vs 25 = .slice a2 n2 d2 := hD 25 (by decide)
                have dq26 : vs 26 = .int .i64 (k : Int) := hD 26 (by decide)
                clear hD
                try dsimp only at hK ⊢
                simp only [Act.put, List.setIfInBounds_toArray, List.set_cons_succ, List.set_cons_zero] at hK
                generalize vs 23 = vq23 at hK dq23 ⊢
                subst vq23
                generalize vs 25 = vq25 at hK dq25 ⊢
                subst vq25
                generalize vs 26 = vq26 at hK dq26 ⊢
                subst vq26
                have hix := HIe.out
                go_wp2_with fail
                exact hK _ _ rfl (Mod.refl _ _)
              refine opsOkA_cons ?_ ?_
              · intro K vs W hR hD hK
                have dq23 : vs 23 = .bool false := hD 23 (by decide)
                have dq27 : vs 27 = .pointer (some ⟨eb, eo, none⟩) := hD 27 (by decide)
                clear hD
                try dsimp only at hK ⊢
                simp only [Act.put, List.setIfInBounds_toArray, List.set_cons_succ, List.set_cons_zero] at hK
                generalize vs 23 = vq23 at hK dq23 ⊢
                subst vq23
                generalize vs 27 = vq27 at hK dq27 ⊢
                subst vq27
                go_wp2
                exact hK _ _ rfl (Mod.refl _ _)
              refine opsOkA_cons ?_ ?_
              · intro K vs W hR hD hK
                have dq23 : vs 23 = .bool false := hD 23 (by decide)
                have dq28 : vs 28 = .pointer (some ⟨eb, eo + 1, none⟩) := hD 28 (by decide)
                clear hD
                try dsimp only at hK ⊢
                simp only [Act.put, List.setIfInBounds_toArray, List.set_cons_succ, List.set_cons_zero] at hK
                generalize vs 23 = vq23 at hK dq23 ⊢
                subst vq23
                generalize vs 28 = vq28 at hK dq28 ⊢
                subst vq28
                have c1 := (HSd.out.at (hR)).2.2.2.1
                go_wp2
                exact hK _ _ rfl (Mod.refl _ _)
              refine opsOkA_cons ?_ ?_
              · intro K vs W hR hD hK
                have dq23 : vs 23 = .bool false := hD 23 (by decide)
                clear hD
                try dsimp only at hK ⊢
                simp only [Act.put, List.setIfInBounds_toArray, List.set_cons_succ, List.set_cons_zero] at hK
                generalize vs 23 = vq23 at hK dq23 ⊢
                subst vq23
                go_wp2
                exact hK _ _ rfl (Mod.refl _ _)
              refine opsOkA_cons ?_ ?_
              · intro K vs W hR hD hK
                have dq23 : vs 23 = .bool false := hD 23 (by decide)
                have dq29 : vs 29 = .int .i64 ya := hD 29 (by decide)
                have dq30 : vs 30 = .int .i64 (vr : Int) := hD 30 (by decide)
                clear hD
                try dsimp only at hK ⊢
                simp only [Act.put, List.setIfInBounds_toArray, List.set_cons_succ, List.set_cons_zero] at hK
                generalize vs 23 = vq23 at hK dq23 ⊢
                subst vq23
                generalize vs 29 = vq29 at hK dq29 ⊢
                subst vq29
                generalize vs 30 = vq30 at hK dq30 ⊢
                subst vq30
                have zz := Z31.out
                go_wp2
                exact hK _ _ rfl (Mod.refl _ _)
              refine opsOkA_cons ?_ ?_
              · intro K vs W hR hD hK
                have dq23 : vs 23 = .bool false := hD 23 (by decide)
                have dq31 : vs 31 = .bool true := hD 31 (by decide)
                clear hD
                try dsimp only at hK ⊢
                simp only [Act.put, List.setIfInBounds_toArray, List.set_cons_succ, List.set_cons_zero] at hK
                generalize vs 23 = vq23 at hK dq23 ⊢
                subst vq23
                generalize vs 31 = vq31 at hK dq31 ⊢
                subst vq31
                go_wp2
                exact hK _ _ rfl (Mod.refl _ _)
              refine opsOkA_cons ?_ ?_
              · intro K vs W hR hD hK
                have dq32 : vs 32 = .bool true := hD 32 (by decide)
                clear hD
                try dsimp only at hK ⊢
                simp only [Act.put, List.setIfInBounds_toArray, List.set_cons_succ, List.set_cons_zero] at hK
                generalize vs 32 = vq32 at hK dq32 ⊢
                subst vq32
                go_wp2
                exact hK _ _ rfl (Mod.refl _ _)
              refine opsOkA_cons ?_ ?_
              · intro K vs W hR hD hK
                have dq32 : vs 32 = .bool true := hD 32 (by decide)
                clear hD
                try dsimp only at hK ⊢
                simp only [Act.put, List.setIfInBounds_toArray, List.set_cons_succ, List.set_cons_zero] at hK
                generalize vs 32 = vq32 at hK dq32 ⊢
                subst vq32
                go_wp2
                exact hK _ _ rfl (Mod.refl _ _)
              refine opsOkA_cons ?_ ?_
              · intro K vs W hR hD hK
                have dq32 : vs 32 = .bool true := hD 32 (by decide)
                have dq33 : vs 33 = .slice ay n2 cy := hD 33 (by decide)
                have dq34 : vs 34 = .int .i64 (k : Int) := hD 34 (by decide)
                clear hD
                try dsimp only at hK ⊢
                simp only [Act.put, List.setIfInBounds_toArray, List.set_cons_succ, List.set_cons_zero] at hK
                generalize vs 32 = vq32 at hK dq32 ⊢
                subst vq32
                generalize vs 33 = vq33 at hK dq33 ⊢
                subst vq33
                generalize vs 34 = vq34 at hK dq34 ⊢
                subst vq34
                have hix := HIh.out
                go_wp2_with fail
                exact hK _ _ rfl (Mod.refl _ _)
              refine opsOkA_cons ?_ ?_
              · intro K vs W hR hD hK
                have dq32 : vs 32 = .bool true := hD 32 (by decide)
                have dq35 : vs 35 = .pointer (some ⟨hb, ho, none⟩) := hD 35 (by decide)
                clear hD
                try dsimp only at hK ⊢
                simp only [Act.put, List.setIfInBounds_toArray, List.set_cons_succ, List.set_cons_zero] at hK
                generalize vs 32 = vq32 at hK dq32 ⊢
                subst vq32
                generalize vs 35 = vq35 at hK dq35 ⊢
                subst vq35
                have c0 := (HSd.out.at (hR)).1
                go_wp2
                exact hK _ _ rfl (Mod.refl _ _)
              refine opsOkA_cons ?_ ?_
              · intro K vs W hR hD hK
                have dq32 : vs 32 = .bool true := hD 32 (by decide)
                have dq36 : vs 36 = .int .i64 yk := hD 36 (by decide)
                clear hD
                try dsimp only at hK ⊢
                simp only [Act.put, List.setIfInBounds_toArray, List.set_cons_succ, List.set_cons_zero] at hK
                generalize vs 32 = vq32 at hK dq32 ⊢
                subst vq32
                generalize vs 36 = vq36 at hK dq36 ⊢
                subst vq36
                have zz := Z37.out
                go_wp2
                exact hK _ _ rfl (Mod.refl _ _)
              refine opsOkA_cons ?_ ?_
              · intro K vs W hR hD hK
                have dq23 : vs 23 = .bool false := hD 23 (by decide)
                have dq32 : vs 32 = .bool true := hD 32 (by decide)
                have dq37 : vs 37 = .bool false := hD 37 (by decide)
                clear hD
                try dsimp only at hK ⊢
                simp only [Act.put, List.setIfInBounds_toArray, List.set_cons_succ, List.set_cons_zero] at hK
                generalize vs 23 = vq23 at hK dq23 ⊢
                subst vq23
                generalize vs 32 = vq32 at hK dq32 ⊢
                subst vq32
                generalize vs 37 = vq37 at hK dq37 ⊢
                subst vq37
                go_wp2
                exact hK _ _ rfl (Mod.refl _ _)
              refine opsOkA_cons ?_ ?_
              · intro K vs W hR hD hK
                have dq23 : vs 23 = .bool false := hD 23 (by decide)
                have dq38 : vs 38 = .bool false := hD 38 (by decide)
                clear hD
                try dsimp only at hK ⊢
                simp only [Act.put, List.setIfInBounds_toArray, List.set_cons_succ, List.set_cons_zero] at hK
                generalize vs 23 = vq23 at hK dq23 ⊢
                subst vq23
                generalize vs 38 = vq38 at hK dq38 ⊢
                subst vq38
                go_wp2
                exact hK _ _ rfl (Mod.refl _ _)
              exact opsOkA_nil
            · intro vs wq12 hR hF
              have dq39 : vs 39 = .bool false := hF 39 (by decide)
              clear hF
              try dsimp only
              generalize vs 39 = vq39 at dq39 ⊢
              subst dq39
              replace HS := Lib.hid (HSd.out.step hR)
              clear HSd hR
              have hbbg := (HS.out.now).2.2.2.2.2.2.2.2.2.2.1
              have qbg_0 := hbbg.cell 0 rfl
              have qbg_1 := hbbg.cell 1 rfl
              have qbg_2 := hbbg.cell 2 rfl
              have lbg := hbbg.lt
              clear hbbg
              go_wp2_with fail
              go_roundw
              case rel => exact ⟨k + 1, hlk, by go_num, (HS.out.now).2.2.2.2.2.1⟩
              case measure => simp [intOf]; omega
      case neg =>
        obtain rfl : n2 = k := by omega
        have z0 : decide ((n2 : Int) < (n2 : Int)) = false := by simp
        go_wp2_with fail
        refine (awake11_any _).mono ?_
        rintro e wq13 ⟨rfl, hmz⟩
        replace HS := Lib.hid (HS.out.step hmz)
        clear hmz
        clear qbg_0 qbg_1 qbg_2 lbg
        have hbbg := (HS.out.now).2.2.2.2.2.1
        have qbg_0 := hbbg.cell 0 rfl
        have qbg_1 := hbbg.cell 1 rfl
        have qbg_2 := hbbg.cell 2 rfl
        have lbg := hbbg.lt
        clear hbbg
        go_wp2_with fail
        go_ret
        exact ⟨rfl, (HS.out.now).2.2.2.2.2.2.2.2.2.2.2⟩
theorem dmore_law (w : World) (a0 : Option Addr) (m c0 : Nat) (l : List Int) (ok : (encSlice (encInt .i64)).ok w (.slice a0 m c0, l)) (a4 : Option Addr) (n4 d4 : Nat) (sh : List Int) (ok4 : (encSlice (encInt .i64)).ok w (.slice a4 n4 d4, sh)) (a5 : Option Addr) (n5 d5 : Nat) (mo : List Int) (ok5 : (encSlice (encInt .i64)).ok w (.slice a5 n5 d5, mo)) (nv : Int) (_ : (Lit.int .i64 nv).wf = true) :
    Calls Try.prog 5 #[.slice a0 m c0, .slice a4 n4 d4, .slice a5 n5 d5, .int .i64 nv] w fun e w' => e = .returned (.bool true) ∧ Below w.heap.size w w' := by
  obtain ⟨hn, hr, _⟩ := ok_ints ok
  obtain ⟨hn4, hr4, _⟩ := ok_ints ok4
  obtain ⟨hn5, hr5, _⟩ := ok_ints ok5
  exact (dmore_all w a0 m c0 l hn hr a4 n4 d4 sh hn4 hr4 a5 n5 d5 mo hn5 hr5 nv).mono fun e w' h => ⟨h.1, h.2.below (Nat.le_refl _) (fun _ e => e.elim)⟩
end Go.Proofs.Ytgiojfihgdifbaa
