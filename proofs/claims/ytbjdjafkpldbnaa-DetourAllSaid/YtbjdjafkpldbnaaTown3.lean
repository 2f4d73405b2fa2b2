/- milepostref24.Town by contract: the graph that it tells is townG, in new memory. -/
import Derived.Test.YtbjdjafkpldbnaaKTown
import Derived.Test.YtbjdjafkpldbnaaKGr
import Derived.Deep.DeepCutAuto
import Derived.Deep.CutBlock
import Derived.Deep.QuietTactic
import Derived.BigQuiet
namespace Mile
open Go Go.RowKit
theorem c2_snoc (l : List P2) (x : P2) : (l ++ [x]).flatMap c2 = l.flatMap c2 ++ c2 x := by simp
theorem c3_snoc (l : List P3) (x : P3) : (l ++ [x]).flatMap c3 = l.flatMap c3 ++ c3 x := by simp
/-- A new row, of elements of so many cells, one of them. -/
def NewRw (size : Nat) (xs : List Value) : Value → World → Prop := fun v W => ∃ p, v = .slice (some ⟨p, 0, none⟩) 1 1 ∧ Rd W size v 1 xs
end Mile
namespace Go.Proofs.Ytbjdjafkpldbnaa
open Go.RowKit Mile
set_option maxRecDepth 100000
/-- Three rows of the call's own, in blocks from B0 on. -/
structure TR (B0 : Nat) (sN sE sB : Value) (N : List P2) (E : List P3) (B : List P2) (W : World) : Prop where
  o1 : W.ownsRow B0 78 2 sN N.length (N.flatMap c2)
  o2 : W.ownsRow B0 43 3 sE E.length (E.flatMap c3)
  o3 : W.ownsRow B0 81 2 sB B.length (B.flatMap c2)
  d12 : ∀ k, sN.ownBlock = some k → sE.ownBlock ≠ some k
  d13 : ∀ k, sN.ownBlock = some k → sB.ownBlock ≠ some k
  d23 : ∀ k, sE.ownBlock = some k → sB.ownBlock ≠ some k
section
variable {B0 : Nat} {sN sE sB : Value} {N : List P2} {E : List P3} {B : List P2} {W W' : World}
theorem TR.low1 (h : TR B0 sN sE sB N E B W) : ∀ k, sN.ownBlock = some k → B0 ≤ k := fun k hk => (h.o1.lt k hk).1
theorem TR.low2 (h : TR B0 sN sE sB N E B W) : ∀ k, sE.ownBlock = some k → B0 ≤ k := fun k hk => (h.o2.lt k hk).1
theorem TR.low3 (h : TR B0 sN sE sB N E B W) : ∀ k, sB.ownBlock = some k → B0 ≤ k := fun k hk => (h.o3.lt k hk).1
theorem TR.keepF {F : Nat → Prop} (h : TR B0 sN sE sB N E B W) (hm : Mod F W W') (hF : ∀ k, F k → k < B0) : TR B0 sN sE sB N E B W' :=
  ⟨Own.keep h.o1 hm (fun k hk e => by have := h.low1 k hk; have := hF k e; omega), Own.keep h.o2 hm (fun k hk e => by have := h.low2 k hk; have := hF k e; omega), Own.keep h.o3 hm (fun k hk e => by have := h.low3 k hk; have := hF k e; omega), h.d12, h.d13, h.d23⟩
theorem TR.keep (h : TR B0 sN sE sB N E B W) (hm : Mod (fun _ => False) W W') : TR B0 sN sE sB N E B W' := h.keepF hm (fun _ e => e.elim)
theorem TR.pushN {x : P2} {v' : Value} (h : TR B0 sN sE sB N E B W) (hz : B0 ≤ W.heap.size) (ha : Appended W W' 78 2 sN v' (N.length + 1) ((N ++ [x]).flatMap c2)) : TR B0 v' sE sB (N ++ [x]) E B W' := by
  have hl : (N ++ [x]).length = N.length + 1 := by simp
  refine ⟨by rw [hl]; exact Own.rebase ha.own (ha.low hz h.low1), Own.keep h.o2 ha.mod (fun k hk e => h.d12 k e hk), Own.keep h.o3 ha.mod (fun k hk e => h.d13 k e hk), fun k hk e => ?_, fun k hk e => ?_, h.d23⟩
  · rcases ha.row k hk with h1 | h1
    · exact h.d12 k h1 e
    · have := (h.o2.lt k e).2; omega
  · rcases ha.row k hk with h1 | h1
    · exact h.d13 k h1 e
    · have := (h.o3.lt k e).2; omega
theorem TR.pushE {x : P3} {v' : Value} (h : TR B0 sN sE sB N E B W) (hz : B0 ≤ W.heap.size) (ha : Appended W W' 43 3 sE v' (E.length + 1) ((E ++ [x]).flatMap c3)) : TR B0 sN v' sB N (E ++ [x]) B W' := by
  have hl : (E ++ [x]).length = E.length + 1 := by simp
  refine ⟨Own.keep h.o1 ha.mod (fun k hk e => h.d12 k hk e), by rw [hl]; exact Own.rebase ha.own (ha.low hz h.low2), Own.keep h.o3 ha.mod (fun k hk e => h.d23 k e hk), fun k hk e => ?_, h.d13, fun k hk e => ?_⟩
  · rcases ha.row k e with h1 | h1
    · exact h.d12 k hk h1
    · have := (h.o1.lt k hk).2; omega
  · rcases ha.row k hk with h1 | h1
    · exact h.d23 k h1 e
    · have := (h.o3.lt k e).2; omega
theorem TR.pushB {x : P2} {v' : Value} (h : TR B0 sN sE sB N E B W) (hz : B0 ≤ W.heap.size) (ha : Appended W W' 81 2 sB v' (B.length + 1) ((B ++ [x]).flatMap c2)) : TR B0 sN sE v' N E (B ++ [x]) W' := by
  have hl : (B ++ [x]).length = B.length + 1 := by simp
  refine ⟨Own.keep h.o1 ha.mod (fun k hk e => h.d13 k hk e), Own.keep h.o2 ha.mod (fun k hk e => h.d23 k hk e), by rw [hl]; exact Own.rebase ha.own (ha.low hz h.low3), h.d12, fun k hk e => ?_, fun k hk e => ?_⟩
  · rcases ha.row k e with h1 | h1
    · exact h.d13 k hk h1
    · have := (h.o1.lt k hk).2; omega
  · rcases ha.row k e with h1 | h1
    · exact h.d23 k hk h1
    · have := (h.o2.lt k hk).2; omega
end
/-- Town's memory: g at p, what it tells at q, the rows. -/
structure TL (w : World) (p q B0 : Nat) (sN sE sB : Value) (N : List P2) (E : List P3) (B : List P2) (W : World) : Prop where
  pb : Blk W p 28 [sN, sE, sB]
  qb : Blk W q 28 [.slice none 0 0, .slice none 0 0, .slice none 0 0]
  tr : TR B0 sN sE sB N E B W
  md : Mod (fun _ => False) w W
  sz : B0 ≤ W.heap.size
theorem TL.keep {w : World} {p q B0 : Nat} {sN sE sB : Value} {N : List P2} {E : List P3} {B : List P2} {W W' : World} (h : TL w p q B0 sN sE sB N E B W) (hm : Mod (fun _ => False) W W') : TL w p q B0 sN sE sB N E B W' :=
  ⟨h.pb.keep hm (fun e => e), h.qb.keep hm (fun e => e), h.tr.keep hm, h.md.trans hm (fun _ _ e => e) (fun _ _ e => e), Nat.le_trans h.sz hm.size⟩
theorem TL.put {w : World} {p q B0 : Nat} {sN sE sB u1 u2 u3 u : Value} {N : List P2} {E : List P3} {B : List P2} {W : World} (i : Nat) (hp : Blk W p 28 [sN, sE, sB]) (hq : Blk W q 28 [.slice none 0 0, .slice none 0 0, .slice none 0 0]) (ht : TR B0 u1 u2 u3 N E B W)
    (hm : Mod (fun _ => False) w W) (hz : B0 ≤ W.heap.size) (h1 : p < B0) (h2 : q ≠ p) (h3 : w.heap.size ≤ p) (he : [sN, sE, sB].set i u = [u1, u2, u3]) : TL w p q B0 u1 u2 u3 N E B (W.setCell ⟨p, i, none⟩ u) :=
  ⟨by rw [← he]; exact hp.set i u, hq.setOther _ _ (by exact h2), ht.keepF (Mod.setCell (F := fun k => k = p) W ⟨p, i, none⟩ u rfl) (fun k e => by omega), hm.thenSet _ _ (fun e => by simp only at e; omega), by simpa using hz⟩

def tKs (l : List Int) (k t : Nat) : List P3 := (List.range t).flatMap (tEk l k)
theorem tKs_two (l : List Int) (k : Nat) : tKs l k 2 = tEi l k := by simp [tKs, tEi, List.range_succ]
theorem tKs_succ (l : List Int) (k t : Nat) : tKs l k (t + 1) = tKs l k t ++ tEk l k t := by simp [tKs, List.range_succ]
theorem tKs_len (l : List Int) (k : Nat) : ∀ t, (tKs l k t).length ≤ 2 * t
  | 0 => by simp [tKs]
  | t + 1 => by rw [tKs_succ, List.length_append]; have := tKs_len l k t; have := tEk_len l k t; omega
theorem tEs_succ (l : List Int) (k : Nat) : tEs l (k + 1) = tEs l k ++ tEi l k := by simp [tEs, List.range_succ]
theorem run_indexA2 {P : Program} (wx : World) (t e : TypeId) (i : TypeInfo) (ht : P.underlying t = some (.array 2 e)) (hi : P.info? e = some i) (hs : i.size = 1) (nb j : Nat) (hj : j < 2) :
    (Instr.indexAt t (.pointer (some ⟨nb, 0, none⟩)) (.int .i64 (j : Int))).run P wx = .ok (.pointer (some ⟨nb, j, none⟩)) wx := by
  rcases (show j = 0 ∨ j = 1 by omega) with rfl | rfl <;> simp [Instr.indexAt, run_underlying ht, asIntOf, Go.sizeOf, typeInfo, hi, hs, Instr.sureAddr, Addr.add]

theorem tB_succ (l : List Int) (E : List P3) (a : Nat) : tB l E (a + 1) = tB l E a ++ tBi l E a E.length := by simp [tB, List.range_succ]
theorem tBi_crude (l : List Int) (E : List P3) (a : Nat) : ∀ n, (tBi l E a n).length ≤ n
  | 0 => by simp [tBi]
  | n + 1 => by
    have := tBi_crude l E a n
    have hk : (tBk l E a n).length ≤ 1 := by unfold tBk; split <;> simp
    unfold tBi at *
    rw [List.range_succ, List.flatMap_append, List.length_append, List.flatMap_singleton]
    omega
theorem tB_crude (l : List Int) (E : List P3) : ∀ n, (tB l E n).length ≤ n * E.length
  | 0 => by simp [tB]
  | n + 1 => by
    have := tB_crude l E n
    have hk := tBi_crude l E n E.length
    rw [tB_succ, List.length_append, Nat.add_mul]
    omega

/-- What Town tells. -/
def TownP (l : List Int) (w : World) (e : Ending) (w' : World) : Prop :=
  ∃ a1 n1 d1 a2 n2 d2 a3 n3 d3, e = .returned (.agg #[.slice a1 n1 d1, .slice a2 n2 d2, .slice a3 n3 d3]) ∧ (townG l).N.length = n1 ∧ (townG l).E.length = n2 ∧ (townG l).B.length = n3 ∧
    TR w.heap.size (.slice a1 n1 d1) (.slice a2 n2 d2) (.slice a3 n3 d3) (townG l).N (townG l).E (townG l).B w' ∧ Mod (fun _ => False) w w'
theorem at_q (w : World) (a : Option Addr) (m c : Nat) (l : List Int) (hm : l.length = m) (hr : Rd w 1 (.slice a m c) m (l.map (Value.int .i64))) {x y : Int} {i n r : Nat} (hx : x = (i : Int)) (hy : y = (n : Int)) (hi : i ≤ 1000000000) (hn : 0 < n) (hn2 : n ≤ 1000000000) (h : atL l i n = r) :
    Calls Try.prog 36 #[.slice a m c, .int .i64 x, .int .i64 y] w fun e w' => e = .returned (.int .i64 (r : Int)) ∧ Mod (fun _ => False) w w' := by
  rw [hx, hy, ← h]; exact at_any w a m c l hm hr i n hi hn hn2
theorem at_qq (w : World) (a : Option Addr) (m c : Nat) (l : List Int) (hm : l.length = m) {k : Nat} (hr : Rd (w.drewN k) 1 (.slice a m c) m (l.map (Value.int .i64))) {x y : Int} {i n r : Nat} (hx : x = (i : Int)) (hy : y = (n : Int)) (hi : i ≤ 1000000000) (hn : 0 < n) (hn2 : n ≤ 1000000000) (h : atL l i n = r) :
    Calls Try.prog 36 #[.slice a m c, .int .i64 x, .int .i64 y] (w.drewN k) fun e w' => e = .returned (.int .i64 (r : Int)) ∧ ∃ j, w' = (w.drewN k).drewN j := by
  rw [hx, hy, ← h]; exact at_quiet _ a m c l hm hr i n hi hn hn2
/-- What each operation of the statement leaves. -/
def tn6_F (B0 p m c0 j wv _ jm jq r : Nat) (a0 : Option Addr) (sN sE sB : Value) (N : List P2) (E : List P3) (B : List P2) : List (Bool × (Value → World → Prop)) :=
  [(true, IsV (.pointer (some ⟨p, 0, none⟩))),
   (true, IsV (sN)),
   (true, IsV (.int .i64 (j : Int))),
   (true, IsV (.int .i64 (wv : Int))),
   (true, IsV (.int .i64 (jm : Int))),
   (true, IsV (.int .i64 (100 * (jm : Int)))),
   (true, IsV (.int .i64 (j : Int))),
   (true, IsV (.int .i64 (wv : Int))),
   (true, IsV (.int .i64 (jq : Int))),
   (true, IsV (.int .i64 (100 * (jq : Int)))),
   (true, IsV (.slice a0 m c0)),
   (true, IsV (.int .i64 (j : Int))),
   (true, IsV (.int .i64 (2 + (j : Int)))),
   (true, IsV (.int .i64 (r : Int))),
   (true, IsV (.int .i64 ((100 * (jq : Int)) + (r : Int)))),
   (true, IsV (.agg #[.int .i64 (100 * (jm : Int)), .int .i64 ((100 * (jq : Int)) + (r : Int))])),
   (false, NewRw 2 (c2 (100 * (jm : Int), 100 * (jq : Int) + (r : Int)))),
   (false, fun v W => TR B0 v sE sB (N ++ [(100 * (jm : Int), 100 * (jq : Int) + (r : Int))]) E B W ∧ B0 ≤ W.heap.size),
   (true, IsV (.pointer (some ⟨p, 0, none⟩)))]
def tn6_D : List (List Nat) := [[], [0], [], [], [2, 3], [4], [], [], [6, 7], [8], [], [], [11], [10, 12], [9, 13], [5, 14], [15], [1, 16], []]
def tn6_C : List Nat := [1000, 1000, 1000, 1000, 1000, 1000, 1000, 1000, 1000, 1000, 1000, 1000, 1000, 1000, 1000, 1000, 17, 1000, 1000]
/-- What each operation of the statement leaves. -/
def tn21_F (B0 p m c0 k t nb r : Nat) (y : Int) (a0 : Option Addr) (sN sE sB : Value) (N : List P2) (E : List P3) (B : List P2) : List (Bool × (Value → World → Prop)) :=
  [(true, IsV (.pointer (some ⟨p, 1, none⟩))),
   (true, IsV (sE)),
   (true, IsV (.int .i64 (k : Int))),
   (true, IsV (.int .i64 (t : Int))),
   (true, IsV (.pointer (some ⟨nb, t, none⟩))),
   (true, IsV (.int .i64 y)),
   (true, IsV (.slice a0 m c0)),
   (true, IsV (.int .i64 (k : Int))),
   (true, IsV (.int .i64 (60 + (k : Int)))),
   (true, IsV (.int .i64 (t : Int))),
   (true, IsV (.int .i64 ((60 + (k : Int)) + (t : Int)))),
   (true, IsV (.int .i64 (r : Int))),
   (true, IsV (.int .i64 (1 + (r : Int)))),
   (true, IsV (.agg #[.int .i64 (k : Int), .int .i64 y, .int .i64 (1 + (r : Int))])),
   (false, NewRw 3 (c3 ((k : Int), y, 1 + (r : Int)))),
   (false, fun v W => TR B0 sN v sB N (E ++ [((k : Int), y, 1 + (r : Int))]) B W ∧ B0 ≤ W.heap.size ∧ (∀ k, v.ownBlock = some k → k ≠ nb)),
   (true, IsV (.pointer (some ⟨p, 1, none⟩)))]
def tn21_D : List (List Nat) := [[], [0], [], [], [3], [4], [], [], [7], [], [8, 9], [6, 10], [11], [2, 5, 12], [13], [1, 14], []]
def tn21_C : List Nat := [1000, 1000, 1000, 1000, 1000, 1000, 1000, 1000, 1000, 1000, 1000, 1000, 1000, 1000, 15, 1000, 1000]
/-- What each operation of the statement leaves. -/
def tn23_F (B0 p m c0 k t nb r : Nat) (y : Int) (a0 : Option Addr) (sN sE sB : Value) (N : List P2) (E : List P3) (B : List P2) : List (Bool × (Value → World → Prop)) :=
  [(true, IsV (.pointer (some ⟨p, 1, none⟩))),
   (true, IsV (sE)),
   (true, IsV (.int .i64 (t : Int))),
   (true, IsV (.pointer (some ⟨nb, t, none⟩))),
   (true, IsV (.int .i64 y)),
   (true, IsV (.int .i64 (k : Int))),
   (true, IsV (.slice a0 m c0)),
   (true, IsV (.int .i64 (k : Int))),
   (true, IsV (.int .i64 (90 + (k : Int)))),
   (true, IsV (.int .i64 (t : Int))),
   (true, IsV (.int .i64 ((90 + (k : Int)) + (t : Int)))),
   (true, IsV (.int .i64 (r : Int))),
   (true, IsV (.int .i64 (1 + (r : Int)))),
   (true, IsV (.agg #[.int .i64 y, .int .i64 (k : Int), .int .i64 (1 + (r : Int))])),
   (false, NewRw 3 (c3 (y, (k : Int), 1 + (r : Int)))),
   (false, fun v W => TR B0 sN v sB N (E ++ [(y, (k : Int), 1 + (r : Int))]) B W ∧ B0 ≤ W.heap.size ∧ (∀ k, v.ownBlock = some k → k ≠ nb)),
   (true, IsV (.pointer (some ⟨p, 1, none⟩)))]
def tn23_D : List (List Nat) := [[], [0], [], [2], [3], [], [], [], [7], [], [8, 9], [6, 10], [11], [4, 5, 12], [13], [1, 14], []]
def tn23_C : List Nat := [1000, 1000, 1000, 1000, 1000, 1000, 1000, 1000, 1000, 1000, 1000, 1000, 1000, 1000, 15, 1000, 1000]
/-- What each operation of the statement leaves. -/
def tn27_F (B0 p m c0 k t wv hv ra rb rc : Nat) (a0 : Option Addr) (sN sE sB : Value) (N : List P2) (E : List P3) (B : List P2) : List (Bool × (Value → World → Prop)) :=
  [(true, IsV (.pointer (some ⟨p, 1, none⟩))),
   (true, IsV (sE)),
   (true, IsV (.slice a0 m c0)),
   (true, IsV (.int .i64 (t : Int))),
   (true, IsV (.int .i64 (4 + (t : Int)))),
   (true, IsV (.int .i64 (wv : Int))),
   (true, IsV (.int .i64 (hv : Int))),
   (true, IsV (.int .i64 (k : Int))),
   (true, IsV (.int .i64 (ra : Int))),
   (true, IsV (.slice a0 m c0)),
   (true, IsV (.int .i64 (t : Int))),
   (true, IsV (.int .i64 (8 + (t : Int)))),
   (true, IsV (.int .i64 (wv : Int))),
   (true, IsV (.int .i64 (hv : Int))),
   (true, IsV (.int .i64 (k : Int))),
   (true, IsV (.int .i64 (rb : Int))),
   (true, IsV (.slice a0 m c0)),
   (true, IsV (.int .i64 (t : Int))),
   (true, IsV (.int .i64 (12 + (t : Int)))),
   (true, IsV (.int .i64 (rc : Int))),
   (true, IsV (.int .i64 (1 + (rc : Int)))),
   (true, IsV (.agg #[.int .i64 (ra : Int), .int .i64 (rb : Int), .int .i64 (1 + (rc : Int))])),
   (false, NewRw 3 (c3 ((ra : Int), (rb : Int), 1 + (rc : Int)))),
   (false, fun v W => TR B0 sN v sB N (E ++ [((ra : Int), (rb : Int), 1 + (rc : Int))]) B W ∧ B0 ≤ W.heap.size),
   (true, IsV (.pointer (some ⟨p, 1, none⟩)))]
def tn27_D : List (List Nat) := [[], [0], [], [], [3], [], [], [5, 6], [2, 4, 7], [], [], [10], [], [], [12, 13], [9, 11, 14], [], [], [17], [16, 18], [19], [8, 15, 20], [21], [1, 22], []]
def tn27_C : List Nat := [1000, 1000, 1000, 1000, 1000, 1000, 1000, 1000, 1000, 1000, 1000, 1000, 1000, 1000, 1000, 1000, 1000, 1000, 1000, 1000, 1000, 1000, 23, 1000, 1000]

set_option maxHeartbeats 128000000 in
set_option maxRecDepth 100000 in
theorem town_any (w : World) (a0 : Option Addr) (m c0 : Nat) (l : List Int) (hm : l.length = m) (hr : Rd w 1 (.slice a0 m c0) m (l.map (Value.int .i64))) :
    Calls Try.prog 19 #[.slice a0 m c0] w (TownP l w) := by
  obtain ⟨iN, hiN, hzN, hsN, hbN⟩ := info_parts GR.infoN
  obtain ⟨iE, hiE, hzE, hsE, hbE⟩ := info_parts GR.infoE
  obtain ⟨iB, hiB, hzB, hsB, hbB⟩ := info_parts GR.infoB
  obtain ⟨iI, hiI, hzI, hsI, hbI⟩ := info_parts GR.infoI
  have hlm := Lib.hid hm
  clear hm
  go_enter Try.func19, Try.ntmps19
  go_wp2_with fail
  obtain ⟨q, hq⟩ : ∃ q, w.heap.size = q := ⟨_, rfl⟩
  obtain ⟨p, hp⟩ : ∃ p, q + 1 = p := ⟨_, rfl⟩
  obtain ⟨B0, hB0⟩ : ∃ B0, p + 1 = B0 := ⟨_, rfl⟩
  obtain ⟨W0, hW0⟩ : ∃ W0, (w.alloc (.cells #[.slice none 0 0, .slice none 0 0, .slice none 0 0] 28)).alloc (.cells #[.slice none 0 0, .slice none 0 0, .slice none 0 0] 28) = W0 := ⟨_, rfl⟩
  have hT0 : TL w p q B0 (.slice none 0 0) (.slice none 0 0) (.slice none 0 0) [] [] [] W0 := by
    have h1 := Blk.new w 28 [.slice none 0 0, .slice none 0 0, .slice none 0 0]
    have h2 := Blk.new (w.alloc (.cells #[.slice none 0 0, .slice none 0 0, .slice none 0 0] 28)) 28 [.slice none 0 0, .slice none 0 0, .slice none 0 0]
    rw [show (w.alloc (.cells #[.slice none 0 0, .slice none 0 0, .slice none 0 0] 28)).heap.size = p by simp; omega] at h2
    rw [hq] at h1
    rw [← hW0]
    exact ⟨h2, h1.alloc _, ⟨World.ownsRow_nil _ _ _ _, World.ownsRow_nil _ _ _ _, World.ownsRow_nil _ _ _ _, (fun k h => by cases h), (fun k h => by cases h), (fun k h => by cases h)⟩, ((Mod.refl _ w).thenAlloc _).thenAlloc _, by simp; omega⟩
  rw [hW0, hq, hp]
  have HR : Hid (∀ W, Mod (fun _ => False) w W → Rd W 1 (.slice a0 m c0) m (l.map (Value.int .i64))) := Lib.hid fun W h => hr.keepA h (fun _ _ e => e.elim)
  have HSZ : Hid (w.heap.size ≤ q ∧ q < p ∧ p < B0) := Lib.hid ⟨by omega, by omega, by omega⟩
  have HB := Lib.hid hB0
  have HQ := Lib.hid hq
  clear hr hq hp hB0 hW0
  have h4 := atL_lt l 0 4 (by omega)
  have h5 := atL_lt l 1 4 (by omega)
  have hw1 : (1 : Int) + ((atL l 0 4 : Nat) : Int) = ((tw l : Nat) : Int) := by unfold tw; omega
  have hh1 : (1 : Int) + ((atL l 1 4 : Nat) : Int) = ((th l : Nat) : Int) := by unfold th; omega
  have hwl := tw_le l
  have hhl := th_le l
  have hPl := twh_le l
  obtain ⟨wv, hwv⟩ : ∃ wv, tw l = wv := ⟨_, rfl⟩
  obtain ⟨hv, hhv⟩ : ∃ hv, th l = hv := ⟨_, rfl⟩
  obtain ⟨x1, hx1⟩ : ∃ x, atL l 0 4 = x := ⟨_, rfl⟩
  obtain ⟨x2, hx2⟩ : ∃ x, atL l 1 4 = x := ⟨_, rfl⟩
  rw [hwv, hx1] at hw1
  rw [hhv, hx2] at hh1
  rw [hwv] at hwl
  rw [hhv] at hhl
  rw [hwv, hhv] at hPl
  rw [hx1] at h4
  rw [hx2] at h5
  obtain ⟨P, hP⟩ : ∃ P, wv * hv = P := ⟨_, rfl⟩
  rw [hP] at hPl
  have hPI : (wv : Int) * (hv : Int) = (P : Int) := by rw [← hP]; simp
  have HWV := Lib.hid hwv
  have HHV := Lib.hid hhv
  have HP := Lib.hid hP
  clear hwv hhv hP
  have HT0 := Lib.hid hT0
  have hr0 := HR.out _ hT0.md
  clear hT0
  refine (at_q W0 a0 m c0 l hlm.out hr0 (i := 0) (n := 4) (by simp) (by simp) (by omega) (by omega) (by omega) hx1).mono ?_
  rintro e w1 ⟨rfl, hm1⟩
  have HT1 := Lib.hid (HT0.out.keep hm1)
  clear hr0 hm1 HT0 W0
  go_wp2_with fail
  have hr1 := HR.out _ HT1.out.md
  refine (at_q w1 a0 m c0 l hlm.out hr1 (i := 1) (n := 4) (by simp) (by simp) (by omega) (by omega) (by omega) hx2).mono ?_
  rintro e w2 ⟨rfl, hm2⟩
  have HT2 := Lib.hid (HT1.out.keep hm2)
  clear hr1 hm2 HT1 w1 hx1 hx2
  go_wp2_with fail
  go_loopw [6] (fun i wr => ∃ (j : Nat) (sN : Value), j ≤ P ∧ i = .int .i64 j ∧ TL w p q B0 sN (.slice none 0 0) (.slice none 0 0) (tN l j) [] [] wr) (fun i _ => P - (intOf i).toNat)
  case atStart => exact ⟨0, _, by omega, rfl, HT2.out⟩
  case round =>
    obtain ⟨j, sN, hj, rfl, hTL⟩ := hrel
    by_cases hlt : j < P
    · have hjN : (tN l j).length = j := by simp [tN]
      obtain ⟨jm, hjm⟩ : ∃ x, j % wv = x := ⟨_, rfl⟩
      obtain ⟨jq, hjq⟩ : ∃ x, j / wv = x := ⟨_, rfl⟩
      have q1 : jm ≤ j := by rw [← hjm]; exact Nat.mod_le _ _
      have q2 : jq ≤ j := by rw [← hjq]; exact Nat.div_le_self _ _
      have e1 : (j : Int).tmod (wv : Int) = (jm : Int) := by rw [Int.tmod_eq_emod_of_nonneg (by omega), ← hjm]; rfl
      have e2 : (j : Int).tdiv (wv : Int) = (jq : Int) := by rw [Int.tdiv_eq_ediv_of_nonneg (by omega), ← hjq]; rfl
      have hr2 := atL_lt l (2 + j) 30 (by omega)
      obtain ⟨r, hr2'⟩ : ∃ r, atL l (2 + j) 30 = r := ⟨_, rfl⟩
      rw [hr2'] at hr2
      have hnode : Hid (tNode l j = (100 * (jm : Int), 100 * (jq : Int) + (r : Int))) := Lib.hid (by unfold tNode; rw [HWV.out, hjm, hjq, hr2']; simp)
      have hsnoc : Hid (tN l (j + 1) = tN l j ++ [tNode l j]) := Lib.hid (by simp [tN, List.range_succ])
      have m0 : ¬ (wv : Int) = 0 := by omega
      have m1 : ¬ wv = 0 := by omega
      obtain ⟨N, hN⟩ : ∃ N, tN l j = N := ⟨_, rfl⟩
      rw [hN] at hTL hjN hsnoc
      have HX2 : Hid (atL l (2 + j) 30 = r) := Lib.hid hr2'
      clear hjm hjq hr2' hN
      obtain ⟨sE, hv2⟩ : ∃ v : Value, .slice none 0 0 = v := ⟨_, rfl⟩
      rw [hv2] at hTL
      have HV2 := Lib.hid hv2
      clear hv2
      have HTL := Lib.hid hTL
      have HC : Hid (∀ W, Mod (fun k => B0 ≤ k) (World.drew wr) W → Blk W p 28 [sN, sE, sE]) := Lib.hid fun W hm => (hTL.pb.drew).keep hm (by have := HSZ.out; omega)
      have HCQ : Hid (∀ W, Mod (fun k => B0 ≤ k) (World.drew wr) W → Blk W q 28 [.slice none 0 0, .slice none 0 0, .slice none 0 0]) := Lib.hid fun W hm => (hTL.qb.drew).keep hm (by have := HSZ.out; omega)
      have HMO : Hid (∀ W, Mod (fun k => B0 ≤ k) (World.drew wr) W → Mod (fun _ => False) w W) := Lib.hid fun W hm => (hTL.md.thenDrew).trans hm (fun _ _ e => e) (fun i hi e => by have := HSZ.out; show False; omega)
      have HL : Hid (∀ W, Mod (fun k => B0 ≤ k) (World.drew wr) W → Rd W 1 (.slice a0 m c0) m (l.map (Value.int .i64))) := Lib.hid fun W hm => HR.out W (HMO.out W hm)
      have HZ : Hid (∀ W, Mod (fun k => B0 ≤ k) (World.drew wr) W → B0 ≤ W.heap.size) := Lib.hid fun W hm => Nat.le_trans hTL.sz hm.size
      have hT0 : TR B0 sN sE sE N [] [] (World.drew wr) := hTL.tr.keep (Mod.drew _ _)
      clear hTL
      go_wp2_with fail
      have HST : ∀ (ix : Nat) (vx : Value) (wx wy : World), factOf (tn6_F B0 p m c0 j wv hv jm jq r a0 sN sE sE N [] []) ix vx wx → Mod (fun _ => False) wx wy → factOf (tn6_F B0 p m c0 j wv hv jm jq r a0 sN sE sE N [] []) ix vx wy := by
        refine fact_stays ?_
        intro f hf
        simp only [tn6_F, List.mem_cons, List.not_mem_nil, or_false] at hf
        rcases hf with rfl | rfl | rfl | rfl | rfl | rfl | rfl | rfl | rfl | rfl | rfl | rfl | rfl | rfl | rfl | rfl | rfl | rfl | rfl <;> first | exact stable_val _ | exact stable_new | exact (fun _ _ _ ⟨g, h, h2⟩ hm => ⟨g, h, h2.keepA hm (fun _ _ e => e.elim)⟩) | exact (fun _ _ _ ⟨h, h2⟩ hm => ⟨TR.keep h hm, Nat.le_trans h2 hm.size⟩)
      have HSO : ∀ px ∈ (tn6_F B0 p m c0 j wv hv jm jq r a0 sN sE sE N [] []), px.1 = true → ∀ (vx : Value) (wx wy : World), px.2 vx wx → px.2 vx wy := by
        intro f hf
        simp only [tn6_F, List.mem_cons, List.not_mem_nil, or_false] at hf
        rcases hf with rfl | rfl | rfl | rfl | rfl | rfl | rfl | rfl | rfl | rfl | rfl | rfl | rfl | rfl | rfl | rfl | rfl | rfl | rfl <;> first | exact fun _ _ _ _ h => h | (intro h; cases h)
      refine wp_region_obj (Mod (fun k => B0 ≤ k)) (factOf (tn6_F B0 p m c0 j wv hv jm jq r a0 sN sE sE N [] [])) (fun i => tn6_C.getD i 1000) (fun W => TR B0 sN sE sE N [] [] W) 17 (fun i => tn6_D.getD i []) 19 _ rfl rfl (by kernel_rfl) (by kernel_rfl) (by kernel_rfl) (by kernel_rfl) (by kernel_rfl) (fun _ => Mod.refl _ _)
        (fun _ _ _ h k => h.trans k (fun _ _ e => e) (fun _ _ e => e)) hT0 ?_ ?_
      · refine opsOkO_cons ?_ ?_
        · intro K vs W hR hD hI hK
          clear hD hI
          simp only [putAll, Nat.zero_add, Nat.reduceAdd, Act.put, List.setIfInBounds_toArray, List.set_cons_succ, List.set_cons_zero] at hK ⊢
          go_wp2
          exact hK _ _ rfl (fun _ _ _ h => h) (fun _ _ h => h) (Mod.refl _ _)
        refine opsOkO_cons ?_ ?_
        · intro K vs W hR hD hI hK
          have d0 : vs 0 = .pointer (some ⟨p, 0, none⟩) := hD 0 (by decide)
          clear hD hI
          simp only [putAll, Nat.zero_add, Nat.reduceAdd, Act.put, List.setIfInBounds_toArray, List.set_cons_succ, List.set_cons_zero] at hK ⊢
          generalize vs 0 = v0 at hK d0 ⊢
          subst v0
          have k0 := (HC.out W hR).cell 0 rfl
          go_wp2
          exact hK _ _ rfl (fun _ _ _ h => h) (fun _ _ h => h) (Mod.refl _ _)
        refine opsOkO_cons ?_ ?_
        · intro K vs W hR hD hI hK
          clear hD hI
          simp only [putAll, Nat.zero_add, Nat.reduceAdd, Act.put, List.setIfInBounds_toArray, List.set_cons_succ, List.set_cons_zero] at hK ⊢
          go_wp2
          exact hK _ _ rfl (fun _ _ _ h => h) (fun _ _ h => h) (Mod.refl _ _)
        refine opsOkO_cons ?_ ?_
        · intro K vs W hR hD hI hK
          clear hD hI
          simp only [putAll, Nat.zero_add, Nat.reduceAdd, Act.put, List.setIfInBounds_toArray, List.set_cons_succ, List.set_cons_zero] at hK ⊢
          go_wp2
          exact hK _ _ rfl (fun _ _ _ h => h) (fun _ _ h => h) (Mod.refl _ _)
        refine opsOkO_cons ?_ ?_
        · intro K vs W hR hD hI hK
          have d2 : vs 2 = .int .i64 (j : Int) := hD 2 (by decide)
          have d3 : vs 3 = .int .i64 (wv : Int) := hD 3 (by decide)
          clear hD hI
          simp only [putAll, Nat.zero_add, Nat.reduceAdd, Act.put, List.setIfInBounds_toArray, List.set_cons_succ, List.set_cons_zero] at hK ⊢
          generalize vs 2 = v2 at hK d2 ⊢
          subst v2
          generalize vs 3 = v3 at hK d3 ⊢
          subst v3
          go_wp2
          exact hK _ _ rfl (fun _ _ _ h => h) (fun _ _ h => h) (Mod.refl _ _)
        refine opsOkO_cons ?_ ?_
        · intro K vs W hR hD hI hK
          have d4 : vs 4 = .int .i64 (jm : Int) := hD 4 (by decide)
          clear hD hI
          simp only [putAll, Nat.zero_add, Nat.reduceAdd, Act.put, List.setIfInBounds_toArray, List.set_cons_succ, List.set_cons_zero] at hK ⊢
          generalize vs 4 = v4 at hK d4 ⊢
          subst v4
          go_wp2
          exact hK _ _ rfl (fun _ _ _ h => h) (fun _ _ h => h) (Mod.refl _ _)
        refine opsOkO_cons ?_ ?_
        · intro K vs W hR hD hI hK
          clear hD hI
          simp only [putAll, Nat.zero_add, Nat.reduceAdd, Act.put, List.setIfInBounds_toArray, List.set_cons_succ, List.set_cons_zero] at hK ⊢
          go_wp2
          exact hK _ _ rfl (fun _ _ _ h => h) (fun _ _ h => h) (Mod.refl _ _)
        refine opsOkO_cons ?_ ?_
        · intro K vs W hR hD hI hK
          clear hD hI
          simp only [putAll, Nat.zero_add, Nat.reduceAdd, Act.put, List.setIfInBounds_toArray, List.set_cons_succ, List.set_cons_zero] at hK ⊢
          go_wp2
          exact hK _ _ rfl (fun _ _ _ h => h) (fun _ _ h => h) (Mod.refl _ _)
        refine opsOkO_cons ?_ ?_
        · intro K vs W hR hD hI hK
          have d6 : vs 6 = .int .i64 (j : Int) := hD 6 (by decide)
          have d7 : vs 7 = .int .i64 (wv : Int) := hD 7 (by decide)
          clear hD hI
          simp only [putAll, Nat.zero_add, Nat.reduceAdd, Act.put, List.setIfInBounds_toArray, List.set_cons_succ, List.set_cons_zero] at hK ⊢
          generalize vs 6 = v6 at hK d6 ⊢
          subst v6
          generalize vs 7 = v7 at hK d7 ⊢
          subst v7
          go_wp2
          exact hK _ _ rfl (fun _ _ _ h => h) (fun _ _ h => h) (Mod.refl _ _)
        refine opsOkO_cons ?_ ?_
        · intro K vs W hR hD hI hK
          have d8 : vs 8 = .int .i64 (jq : Int) := hD 8 (by decide)
          clear hD hI
          simp only [putAll, Nat.zero_add, Nat.reduceAdd, Act.put, List.setIfInBounds_toArray, List.set_cons_succ, List.set_cons_zero] at hK ⊢
          generalize vs 8 = v8 at hK d8 ⊢
          subst v8
          go_wp2
          exact hK _ _ rfl (fun _ _ _ h => h) (fun _ _ h => h) (Mod.refl _ _)
        refine opsOkO_cons ?_ ?_
        · intro K vs W hR hD hI hK
          clear hD hI
          simp only [putAll, Nat.zero_add, Nat.reduceAdd, Act.put, List.setIfInBounds_toArray, List.set_cons_succ, List.set_cons_zero] at hK ⊢
          go_wp2
          exact hK _ _ rfl (fun _ _ _ h => h) (fun _ _ h => h) (Mod.refl _ _)
        refine opsOkO_cons ?_ ?_
        · intro K vs W hR hD hI hK
          clear hD hI
          simp only [putAll, Nat.zero_add, Nat.reduceAdd, Act.put, List.setIfInBounds_toArray, List.set_cons_succ, List.set_cons_zero] at hK ⊢
          go_wp2
          exact hK _ _ rfl (fun _ _ _ h => h) (fun _ _ h => h) (Mod.refl _ _)
        refine opsOkO_cons ?_ ?_
        · intro K vs W hR hD hI hK
          have d11 : vs 11 = .int .i64 (j : Int) := hD 11 (by decide)
          clear hD hI
          simp only [putAll, Nat.zero_add, Nat.reduceAdd, Act.put, List.setIfInBounds_toArray, List.set_cons_succ, List.set_cons_zero] at hK ⊢
          generalize vs 11 = v11 at hK d11 ⊢
          subst v11
          go_wp2
          exact hK _ _ rfl (fun _ _ _ h => h) (fun _ _ h => h) (Mod.refl _ _)
        refine opsOkO_cons ?_ ?_
        · intro K vs W hR hD hI hK
          have d10 : vs 10 = .slice a0 m c0 := hD 10 (by decide)
          have d12 : vs 12 = .int .i64 (2 + (j : Int)) := hD 12 (by decide)
          clear hD hI
          simp only [putAll, Nat.zero_add, Nat.reduceAdd, Act.put, List.setIfInBounds_toArray, List.set_cons_succ, List.set_cons_zero] at hK ⊢
          generalize vs 10 = v10 at hK d10 ⊢
          subst v10
          generalize vs 12 = v12 at hK d12 ⊢
          subst v12
          have hl' := HL.out W hR
          go_wp2_with (go_at_call 36; refine (at_q W a0 m c0 l hlm.out hl' (i := 2 + j) (n := 30) (by omega) (by simp) (by omega) (by omega) (by omega) HX2.out).mono ?_; rintro e' w' ⟨rfl, hm'⟩)
          exact hK _ _ rfl (fun j u _ h => HST j u _ _ h hm') (fun _ _ h => TR.keep h hm') (hm'.mono (fun _ _ e => e.elim))
        refine opsOkO_cons ?_ ?_
        · intro K vs W hR hD hI hK
          have d9 : vs 9 = .int .i64 (100 * (jq : Int)) := hD 9 (by decide)
          have d13 : vs 13 = .int .i64 (r : Int) := hD 13 (by decide)
          clear hD hI
          simp only [putAll, Nat.zero_add, Nat.reduceAdd, Act.put, List.setIfInBounds_toArray, List.set_cons_succ, List.set_cons_zero] at hK ⊢
          generalize vs 9 = v9 at hK d9 ⊢
          subst v9
          generalize vs 13 = v13 at hK d13 ⊢
          subst v13
          go_wp2
          exact hK _ _ rfl (fun _ _ _ h => h) (fun _ _ h => h) (Mod.refl _ _)
        refine opsOkO_cons ?_ ?_
        · intro K vs W hR hD hI hK
          have d5 : vs 5 = .int .i64 (100 * (jm : Int)) := hD 5 (by decide)
          have d14 : vs 14 = .int .i64 ((100 * (jq : Int)) + (r : Int)) := hD 14 (by decide)
          clear hD hI
          simp only [putAll, Nat.zero_add, Nat.reduceAdd, Act.put, List.setIfInBounds_toArray, List.set_cons_succ, List.set_cons_zero] at hK ⊢
          generalize vs 5 = v5 at hK d5 ⊢
          subst v5
          generalize vs 14 = v14 at hK d14 ⊢
          subst v14
          go_wp2
          exact hK _ _ rfl (fun _ _ _ h => h) (fun _ _ h => h) (Mod.refl _ _)
        refine opsOkO_cons ?_ ?_
        · intro K vs W hR hD hI hK
          have d15 : vs 15 = .agg #[.int .i64 (100 * (jm : Int)), .int .i64 ((100 * (jq : Int)) + (r : Int))] := hD 15 (by decide)
          clear hD hI
          simp only [putAll, Nat.zero_add, Nat.reduceAdd, Act.put, List.setIfInBounds_toArray, List.set_cons_succ, List.set_cons_zero] at hK ⊢
          generalize vs 15 = v15 at hK d15 ⊢
          subst v15
          go_wp2
          exact hK _ _ ⟨_, rfl, by exact Rd.litN _ _ _ _ _ 1 rfl rfl (by decide)⟩ (fun j u _ h => HST j u _ _ h (Mod.alloc _ _ _)) (fun _ _ h => TR.keep h (Mod.alloc _ _ _)) (Mod.alloc _ _ _)
        refine opsOkO_cons ?_ ?_
        · intro K vs W hR hD hI hK
          have d1 : vs 1 = sN := hD 1 (by decide)
          have d16 : (NewRw 2 (c2 (100 * (jm : Int), 100 * (jq : Int) + (r : Int)))) (vs 16) W := hD 16 (by decide)
          clear hD
          replace hI := hI rfl
          simp only [putAll, Nat.zero_add, Nat.reduceAdd, Act.put, List.setIfInBounds_toArray, List.set_cons_succ, List.set_cons_zero] at hK ⊢
          generalize vs 1 = v1 at hK d1 ⊢
          subst v1
          generalize vs 16 = v16 at hK d16 ⊢
          have hz' := HZ.out W hR
          obtain ⟨g, rfl, hn'⟩ := d16
          have hrow := hI.o1
          go_wp2_with (at_builtin; refine wpList_append_any rfl (.tmp 28) (.tmp 43) 24 rfl 78 iN (.agg #[.int .i64 0, .int .i64 0]) 2 16 Try.underlying24 hiN hzN hsN hbN rfl (by decide) sN N.length (N.flatMap c2) rfl (Own.base hrow (Nat.zero_le _)) _ 1 (c2 (100 * (jm : Int), 100 * (jq : Int) + (r : Int))) rfl hn' (by intro u hu; simp [c2] at hu; rcases hu with rfl | rfl | rfl <;> rfl) (by unfold maxLen; omega) (by omega) ?_; intro v' w' hap)
          refine hK _ _ ⟨TR.pushN hI hz' (by rw [c2_snoc]; exact hap), Nat.le_trans hz' hap.mod.size⟩ (fact_solid HSO 17 (by kernel_rfl)) (fun h _ => absurd rfl h) (hap.mod.mono (fun k _ e => hI.low1 k e))
        refine opsOkO_cons ?_ ?_
        · intro K vs W hR hD hI hK
          clear hD hI
          simp only [putAll, Nat.zero_add, Nat.reduceAdd, Act.put, List.setIfInBounds_toArray, List.set_cons_succ, List.set_cons_zero] at hK ⊢
          go_wp2
          exact hK _ _ rfl (fun _ _ _ h => h) (fun _ _ h => h) (Mod.refl _ _)
        exact opsOkO_nil
      · intro vs W hR hF
        have d17 : (fun v W => TR B0 v sE sE (N ++ [(100 * (jm : Int), 100 * (jq : Int) + (r : Int))]) [] [] W ∧ B0 ≤ W.heap.size) (vs 17) W := hF 17 (by decide) (by decide)
        have d18 : vs 18 = .pointer (some ⟨p, 0, none⟩) := hF 18 (by decide) (by decide)
        clear hF
        simp only [putAll, Nat.zero_add, Nat.reduceAdd, Act.put, List.setIfInBounds_toArray, List.set_cons_succ, List.set_cons_zero]
        generalize vs 17 = v17 at d17 ⊢
        generalize vs 18 = v18 at d18 ⊢
        subst v18
        obtain ⟨ax, cx, rfl⟩ := own_form d17.1.o1
        have hpb := HC.out W hR
        have k0 := hpb.cell 0 rfl
        have k1 := hpb.free 0
        have hsz := HSZ.out
        have HTN := Lib.hid (TL.put 0 hpb (HCQ.out W hR) d17.1 (HMO.out W hR) d17.2 hsz.2.2 (by omega) (by omega) rfl)
        obtain ⟨nn, hnn⟩ : ∃ nn, (N ++ [(100 * (jm : Int), 100 * (jq : Int) + (r : Int))]).length = nn := ⟨_, rfl⟩
        rw [hnn] at HTN ⊢
        clear d17 hpb hR hT0 hsz hnn
        go_wp2_with fail
        go_roundw
        case rel => exact ⟨j + 1, _, hlt, by go_num, by rw [hsnoc.out, hnode.out, HV2.out]; exact HTN.out⟩
        case measure => simp [intOf]; omega
    · obtain rfl : j = P := by omega
      obtain ⟨N, hN⟩ : ∃ N, tN l j = N := ⟨_, rfl⟩
      rw [hN] at hTL
      have HN := Lib.hid hN
      clear hN
      have HT3 := Lib.hid hTL
      clear hTL HT2
      go_wp2_with fail
      go_loopw [7] (fun i wr => ∃ (k : Nat) (sE : Value), k ≤ j ∧ i = .int .i64 k ∧ TL w p q B0 sN sE (.slice none 0 0) N (tEs l k) [] wr) (fun i _ => j - (intOf i).toNat)
      case atStart => exact ⟨0, _, by omega, rfl, HT3.out⟩
      case round =>
        obtain ⟨k, sE, hk, rfl, hTL⟩ := hrel
        by_cases hlt : k < j
        · have hklen : (tEs l k).length ≤ 4 * k := tEs_len l k
          obtain ⟨km, hkm⟩ : ∃ x, k % wv = x := ⟨_, rfl⟩
          obtain ⟨kq, hkq⟩ : ∃ x, k / wv = x := ⟨_, rfl⟩
          have q1 : km ≤ k := by rw [← hkm]; exact Nat.mod_le _ _
          have q2 : kq ≤ k := by rw [← hkq]; exact Nat.div_le_self _ _
          have e1 : (k : Int).tmod (wv : Int) = (km : Int) := by rw [Int.tmod_eq_emod_of_nonneg (by omega), ← hkm]; rfl
          have e2 : (k : Int).tdiv (wv : Int) = (kq : Int) := by rw [Int.tdiv_eq_ediv_of_nonneg (by omega), ← hkq]; rfl
          have m0 : ¬ (wv : Int) = 0 := by omega
          have m1 : ¬ wv = 0 := by omega
          have hx0 : nxt wv hv k 0 = if km < wv - 1 then ((k + 1 : Nat) : Int) else -1 := by unfold nxt; rw [hkm]; rfl
          have hx1 : nxt wv hv k 1 = if kq < hv - 1 then ((k + wv : Nat) : Int) else -1 := by unfold nxt; rw [hkq]; rfl
          obtain ⟨y0, hy0⟩ : ∃ y, nxt wv hv k 0 = y := ⟨_, rfl⟩
          obtain ⟨y1, hy1⟩ : ∃ y, nxt wv hv k 1 = y := ⟨_, rfl⟩
          rw [hy0] at hx0
          rw [hy1] at hx1
          have HY0 := Lib.hid hy0
          have HY1 := Lib.hid hy1
          have HX0 := Lib.hid hx0
          have HX1 := Lib.hid hx1
          obtain ⟨sB, hv3⟩ : ∃ v : Value, .slice none 0 0 = v := ⟨_, rfl⟩
          rw [hv3] at hTL
          have HV3 := Lib.hid hv3
          obtain ⟨E0, hE0⟩ : ∃ E, tEs l k = E := ⟨_, rfl⟩
          rw [hE0] at hTL hklen
          have HE0 := Lib.hid hE0
          have hA := Mod.alloc (fun _ => False) wr (.cells #[.int .i64 (-1), .int .i64 (-1)] 79)
          have hB := Blk.new wr 79 [.int .i64 (-1), .int .i64 (-1)]
          obtain ⟨nb, hnb⟩ : ∃ nb, wr.heap.size = nb := ⟨_, rfl⟩
          rw [hnb] at hB
          have HNL : Hid (nb < (wr.alloc (.cells #[.int .i64 (-1), .int .i64 (-1)] 79)).heap.size ∧ B0 ≤ nb ∧ ∀ x, sE.ownBlock = some x → x ≠ nb) := Lib.hid ⟨by simp; omega, by have := hTL.sz; omega, fun x hx => by have := (hTL.tr.o2.lt x hx).2; omega⟩
          have HTL := Lib.hid hTL
          have HNBE := Lib.hid hnb
          clear hkm hkq hx0 hx1 hy0 hy1 hv3 hE0 hTL
          go_upto_if 59 with fail
          obtain ⟨W1, hW1⟩ : ∃ W1, wr.alloc (.cells #[.int .i64 (-1), .int .i64 (-1)] 79) = W1 := ⟨_, rfl⟩
          rw [hW1] at hA hB HNL ⊢
          clear hnb hW1
          have k0 := hB.cell 0 rfl
          have f0 := hB.free 0
          go_cut [10] from 46 to 125 (fun _ wx => Blk wx nb 79 [.int .i64 y0, .int .i64 (-1)] ∧ Mod (fun _ => False) wr wx)
          case first =>
            have HH : Hid (Mod (fun _ => False) wr (W1.setCell ⟨nb, 0, none⟩ (.int .i64 ((k : Int) + 1)))) := Lib.hid (hA.thenSet _ _ (fun e => by have := HNBE.out; simp only at e; omega))
            have HS : Hid (Blk (W1.setCell ⟨nb, 0, none⟩ (.int .i64 ((k : Int) + 1))) nb 79 [.int .i64 ((k : Int) + 1), .int .i64 (-1)]) := Lib.hid (hB.set 0 _)
            by_cases hc : km < wv - 1
            · have hc1 : decide ((km : Int) < (wv : Int) - 1) = true := by simp; omega
              go_wp2_with fail
              go_meet
              exact ⟨by have := HX0.out; rw [if_pos hc] at this; rw [this]; exact HS.out, HH.out⟩
            · have hc1 : decide ((km : Int) < (wv : Int) - 1) = false := by simp; omega
              have HBB := Lib.hid hB
              have HAA := Lib.hid hA
              clear hA hB
              go_wp2_with fail
              go_meet
              exact ⟨by have := HX0.out; rw [if_neg hc] at this; rw [this]; exact HBB.out, HAA.out⟩
          case rest =>
            obtain ⟨hB2, hA2⟩ := hcut
            have hsz2 : nb < wc.heap.size := hB2.lt
            clear k0 f0 hA hB
            have k1 := hB2.cell 1 rfl
            have f1 := hB2.free 1
            go_upto_if 68 with fail
            go_cut [10] from 46 to 125 (fun _ wx => Blk wx nb 79 [.int .i64 y0, .int .i64 y1] ∧ Mod (fun _ => False) wr wx)
            case first =>
              have HH : Hid (Mod (fun _ => False) wr (wc.setCell ⟨nb, 1, none⟩ (.int .i64 ((k : Int) + (wv : Int))))) := Lib.hid (hA2.thenSet _ _ (fun e => by have := HNBE.out; simp only at e; omega))
              have HS : Hid (Blk (wc.setCell ⟨nb, 1, none⟩ (.int .i64 ((k : Int) + (wv : Int)))) nb 79 [.int .i64 y0, .int .i64 ((k : Int) + (wv : Int))]) := Lib.hid (hB2.set 1 _)
              by_cases hc : kq < hv - 1
              · have hc1 : decide ((kq : Int) < (hv : Int) - 1) = true := by simp; omega
                go_wp2_with fail
                go_meet
                exact ⟨by have := HX1.out; rw [if_pos hc] at this; rw [this]; simpa using HS.out, HH.out⟩
              · have hc1 : decide ((kq : Int) < (hv : Int) - 1) = false := by simp; omega
                have HBB := Lib.hid hB2
                have HAA := Lib.hid hA2
                clear hA2 hB2
                go_wp2_with fail
                go_meet
                exact ⟨by have := HX1.out; rw [if_neg hc] at this; rw [this]; exact HBB.out, HAA.out⟩
            case rest =>
              clear k1 f1 hB2 hA2 hsz2
              obtain ⟨hB3, hA3⟩ := hcut
              have HT4 := Lib.hid (HTL.out.keep hA3)
              have HB3 := Lib.hid hB3
              clear hB3 hA3 HTL
              go_wp2_with fail
              go_loopw [9] (fun i wr => ∃ (t : Nat) (zE : Value), t ≤ 2 ∧ i = .int .i64 t ∧ TL w p q B0 sN zE sB N (E0 ++ tKs l k t) [] wr ∧ Blk wr nb 79 [.int .i64 y0, .int .i64 y1] ∧ ∀ x, zE.ownBlock = some x → x ≠ nb) (fun i _ => 2 - (intOf i).toNat)
              case atStart => exact ⟨0, sE, by omega, rfl, by have := HT4.out; simpa [tKs] using this, HB3.out, HNL.out.2.2⟩
              case round =>
                obtain ⟨t, zE, ht, rfl, hTL, hNb, hne⟩ := hrel
                by_cases hlt2 : t < 2
                · obtain ⟨EE, hEE⟩ : ∃ EE, E0 ++ tKs l k t = EE := ⟨_, rfl⟩
                  have hEl : EE.length ≤ 70 := by rw [← hEE, List.length_append]; have := tKs_len l k t; omega
                  rw [hEE] at hTL
                  have HEE : Hid (E0 ++ tKs l k (t + 1) = EE ++ tEk l k t) := Lib.hid (by rw [tKs_succ, ← List.append_assoc, hEE])
                  obtain ⟨y, hy⟩ : ∃ y, nxt wv hv k t = y := ⟨_, rfl⟩
                  have hyt : Hid (([.int .i64 y0, .int .i64 y1] : List Value)[t]? = some (.int .i64 y)) := Lib.hid (by
                    rcases (show t = 0 ∨ t = 1 by omega) with rfl | rfl
                    · rw [← hy, HY0.out]; rfl
                    · rw [← hy, HY1.out]; rfl)
                  have hEk : Hid (tEk l k t = if y < 0 then [] else tE1 l k t y ++ tE2 l k t y) := Lib.hid (by unfold tEk; rw [HWV.out, HHV.out, hy])
                  have hix := fun wx => run_indexA2 (P := Try.prog) wx 79 3 iI Try.underlying79 hiI hsI nb t hlt2
                  have HNB := Lib.hid hne
                  have HTL := Lib.hid hTL
                  have HNB2 := Lib.hid hNb
                  have hsz3 := hNb.lt
                  have kc0 := hNb.cell t hyt.out
                  clear hEE hy hne hTL hNb
                  by_cases hyn : y < 0
                  · have d0 : decide (y < 0) = true := by simpa using hyn
                    have HYN := Lib.hid hyn
                    clear hyn
                    go_wp2_with fail
                    go_roundw
                    case rel => exact ⟨t + 1, zE, hlt2, by go_num, by rw [HEE.out, hEk.out, if_pos (by have := HYN.out; omega), List.append_nil]; exact HTL.out, HNB2.out, HNB.out⟩
                    case measure => simp [intOf]; omega
                  · have d0 : decide (y < 0) = false := by simpa using hyn
                    have HYN := Lib.hid hyn
                    clear hyn
                    go_wp2_with fail
                    obtain ⟨n8, hn8⟩ : ∃ n, atL l (20 + 3 * k + t) 8 = n := ⟨_, rfl⟩
                    have HN8 := Lib.hid hn8
                    have hr3 := HR.out _ HTL.out.md
                    refine (at_q wr a0 m c0 l hlm.out hr3 (i := 20 + 3 * k + t) (n := 8) (by omega) (by simp) (by omega) (by omega) (by omega) hn8).mono ?_
                    rintro e w3 ⟨rfl, hm3⟩
                    have HTL3 := Lib.hid (HTL.out.keep hm3)
                    have HNB3 := Lib.hid (HNB2.out.keep hm3 (fun e => e))
                    clear hr3 hm3 HTL HNB2 kc0 hn8 hsz3
                    go_upto_if 89 with fail
                    go_cut [90] from 73 to 125 (fun _ wx => ∃ z : Value, TL w p q B0 sN z sB N (EE ++ tE1 l k t y) [] wx ∧ Blk wx nb 79 [.int .i64 y0, .int .i64 y1] ∧ ∀ x, z.ownBlock = some x → x ≠ nb)
                    case first =>
                      by_cases h1 : n8 = 1
                      · have ht1 : Hid (tE1 l k t y = []) := Lib.hid (by unfold tE1; rw [HN8.out, if_pos h1])
                        subst h1
                        go_wp2_with fail
                        go_meet
                        exact ⟨zE, by rw [ht1.out, List.append_nil]; exact HTL3.out, HNB3.out, HNB.out⟩
                      · have hd1 : ((n8 : Int) != 1) = true := by simp; omega
                        obtain ⟨r, hr9⟩ : ∃ r, atL l (60 + k + t) 9 = r := ⟨_, rfl⟩
                        have ht1 : Hid (tE1 l k t y = [((k : Int), y, 1 + (r : Int))]) := Lib.hid (by unfold tE1; rw [HN8.out, if_neg h1, hr9]; simp)
                        have hrl := atL_lt l (60 + k + t) 9 (by omega)
                        rw [hr9] at hrl
                        have HX2 := Lib.hid hr9
                        have H1 := Lib.hid h1
                        clear hr9 h1
                        go_upto_region 21 with fail
                        try rw [hd1]
                        clear hd1
                        have hTL := HTL3.out
                        have HC : Hid (∀ W, Mod (fun k => B0 ≤ k ∧ k ≠ nb) (World.drew w3) W → Blk W p 28 [sN, zE, sB]) := Lib.hid fun W hm => (hTL.pb.drew).keep hm (by have := HSZ.out; omega)
                        have HCQ : Hid (∀ W, Mod (fun k => B0 ≤ k ∧ k ≠ nb) (World.drew w3) W → Blk W q 28 [.slice none 0 0, .slice none 0 0, .slice none 0 0]) := Lib.hid fun W hm => (hTL.qb.drew).keep hm (by have := HSZ.out; omega)
                        have HMO : Hid (∀ W, Mod (fun k => B0 ≤ k ∧ k ≠ nb) (World.drew w3) W → Mod (fun _ => False) w W) := Lib.hid fun W hm => (hTL.md.thenDrew).trans hm (fun _ _ e => e) (fun i hi e => by have := HSZ.out; show False; omega)
                        have HL : Hid (∀ W, Mod (fun k => B0 ≤ k ∧ k ≠ nb) (World.drew w3) W → Rd W 1 (.slice a0 m c0) m (l.map (Value.int .i64))) := Lib.hid fun W hm => HR.out W (HMO.out W hm)
                        have HZ : Hid (∀ W, Mod (fun k => B0 ≤ k ∧ k ≠ nb) (World.drew w3) W → B0 ≤ W.heap.size) := Lib.hid fun W hm => Nat.le_trans hTL.sz hm.size
                        have hT0 : TR B0 sN zE sB N EE [] (World.drew w3) := hTL.tr.keep (Mod.drew _ _)
                        have HCB : Hid (∀ W, Mod (fun k => B0 ≤ k ∧ k ≠ nb) (World.drew w3) W → Blk W nb 79 [.int .i64 y0, .int .i64 y1]) := Lib.hid fun W hm => (HNB3.out.drew).keep hm (fun e => e.2 rfl)
                        have HZN : Hid (∀ W, Mod (fun k => B0 ≤ k ∧ k ≠ nb) (World.drew w3) W → nb < W.heap.size) := Lib.hid fun W hm => (HCB.out W hm).lt
                        clear hTL
                        have HST : ∀ (ix : Nat) (vx : Value) (wx wy : World), factOf (tn21_F B0 p m c0 k t nb r y a0 sN zE sB N EE []) ix vx wx → Mod (fun _ => False) wx wy → factOf (tn21_F B0 p m c0 k t nb r y a0 sN zE sB N EE []) ix vx wy := by
                          refine fact_stays ?_
                          intro f hf
                          simp only [tn21_F, List.mem_cons, List.not_mem_nil, or_false] at hf
                          rcases hf with rfl | rfl | rfl | rfl | rfl | rfl | rfl | rfl | rfl | rfl | rfl | rfl | rfl | rfl | rfl | rfl | rfl <;> first | exact stable_val _ | exact stable_new | exact (fun _ _ _ ⟨g, h, h2⟩ hm => ⟨g, h, h2.keepA hm (fun _ _ e => e.elim)⟩) | exact (fun _ _ _ ⟨h, h2, h3⟩ hm => ⟨TR.keep h hm, Nat.le_trans h2 hm.size, h3⟩)
                        have HSO : ∀ px ∈ (tn21_F B0 p m c0 k t nb r y a0 sN zE sB N EE []), px.1 = true → ∀ (vx : Value) (wx wy : World), px.2 vx wx → px.2 vx wy := by
                          intro f hf
                          simp only [tn21_F, List.mem_cons, List.not_mem_nil, or_false] at hf
                          rcases hf with rfl | rfl | rfl | rfl | rfl | rfl | rfl | rfl | rfl | rfl | rfl | rfl | rfl | rfl | rfl | rfl | rfl <;> first | exact fun _ _ _ _ h => h | (intro h; cases h)
                        refine wp_region_obj (Mod (fun k => B0 ≤ k ∧ k ≠ nb)) (factOf (tn21_F B0 p m c0 k t nb r y a0 sN zE sB N EE [])) (fun i => tn21_C.getD i 1000) (fun W => TR B0 sN zE sB N EE [] W) 15 (fun i => tn21_D.getD i []) 17 _ rfl rfl (by kernel_rfl) (by kernel_rfl) (by kernel_rfl) (by kernel_rfl) (by kernel_rfl) (fun _ => Mod.refl _ _)
                          (fun _ _ _ h k => h.trans k (fun _ _ e => e) (fun _ _ e => e)) hT0 ?_ ?_
                        · refine opsOkO_cons ?_ ?_
                          · intro K vs W hR hD hI hK
                            clear hD hI
                            simp only [putAll, Nat.zero_add, Nat.reduceAdd, Act.put, List.setIfInBounds_toArray, List.set_cons_succ, List.set_cons_zero] at hK ⊢
                            go_wp2
                            exact hK _ _ rfl (fun _ _ _ h => h) (fun _ _ h => h) (Mod.refl _ _)
                          refine opsOkO_cons ?_ ?_
                          · intro K vs W hR hD hI hK
                            have d0 : vs 0 = .pointer (some ⟨p, 1, none⟩) := hD 0 (by decide)
                            clear hD hI
                            simp only [putAll, Nat.zero_add, Nat.reduceAdd, Act.put, List.setIfInBounds_toArray, List.set_cons_succ, List.set_cons_zero] at hK ⊢
                            generalize vs 0 = v0 at hK d0 ⊢
                            subst v0
                            have k0 := (HC.out W hR).cell 1 rfl
                            go_wp2
                            exact hK _ _ rfl (fun _ _ _ h => h) (fun _ _ h => h) (Mod.refl _ _)
                          refine opsOkO_cons ?_ ?_
                          · intro K vs W hR hD hI hK
                            clear hD hI
                            simp only [putAll, Nat.zero_add, Nat.reduceAdd, Act.put, List.setIfInBounds_toArray, List.set_cons_succ, List.set_cons_zero] at hK ⊢
                            go_wp2
                            exact hK _ _ rfl (fun _ _ _ h => h) (fun _ _ h => h) (Mod.refl _ _)
                          refine opsOkO_cons ?_ ?_
                          · intro K vs W hR hD hI hK
                            clear hD hI
                            simp only [putAll, Nat.zero_add, Nat.reduceAdd, Act.put, List.setIfInBounds_toArray, List.set_cons_succ, List.set_cons_zero] at hK ⊢
                            go_wp2
                            exact hK _ _ rfl (fun _ _ _ h => h) (fun _ _ h => h) (Mod.refl _ _)
                          refine opsOkO_cons ?_ ?_
                          · intro K vs W hR hD hI hK
                            have d3 : vs 3 = .int .i64 (t : Int) := hD 3 (by decide)
                            clear hD hI
                            simp only [putAll, Nat.zero_add, Nat.reduceAdd, Act.put, List.setIfInBounds_toArray, List.set_cons_succ, List.set_cons_zero] at hK ⊢
                            generalize vs 3 = v3 at hK d3 ⊢
                            subst v3
                            go_wp2_with fail
                            exact hK _ _ rfl (fun _ _ _ h => h) (fun _ _ h => h) (Mod.refl _ _)
                          refine opsOkO_cons ?_ ?_
                          · intro K vs W hR hD hI hK
                            have d4 : vs 4 = .pointer (some ⟨nb, t, none⟩) := hD 4 (by decide)
                            clear hD hI
                            simp only [putAll, Nat.zero_add, Nat.reduceAdd, Act.put, List.setIfInBounds_toArray, List.set_cons_succ, List.set_cons_zero] at hK ⊢
                            generalize vs 4 = v4 at hK d4 ⊢
                            subst v4
                            have k0 := (HCB.out W hR).cell t hyt.out
                            go_wp2
                            exact hK _ _ rfl (fun _ _ _ h => h) (fun _ _ h => h) (Mod.refl _ _)
                          refine opsOkO_cons ?_ ?_
                          · intro K vs W hR hD hI hK
                            clear hD hI
                            simp only [putAll, Nat.zero_add, Nat.reduceAdd, Act.put, List.setIfInBounds_toArray, List.set_cons_succ, List.set_cons_zero] at hK ⊢
                            go_wp2
                            exact hK _ _ rfl (fun _ _ _ h => h) (fun _ _ h => h) (Mod.refl _ _)
                          refine opsOkO_cons ?_ ?_
                          · intro K vs W hR hD hI hK
                            clear hD hI
                            simp only [putAll, Nat.zero_add, Nat.reduceAdd, Act.put, List.setIfInBounds_toArray, List.set_cons_succ, List.set_cons_zero] at hK ⊢
                            go_wp2
                            exact hK _ _ rfl (fun _ _ _ h => h) (fun _ _ h => h) (Mod.refl _ _)
                          refine opsOkO_cons ?_ ?_
                          · intro K vs W hR hD hI hK
                            have d7 : vs 7 = .int .i64 (k : Int) := hD 7 (by decide)
                            clear hD hI
                            simp only [putAll, Nat.zero_add, Nat.reduceAdd, Act.put, List.setIfInBounds_toArray, List.set_cons_succ, List.set_cons_zero] at hK ⊢
                            generalize vs 7 = v7 at hK d7 ⊢
                            subst v7
                            go_wp2
                            exact hK _ _ rfl (fun _ _ _ h => h) (fun _ _ h => h) (Mod.refl _ _)
                          refine opsOkO_cons ?_ ?_
                          · intro K vs W hR hD hI hK
                            clear hD hI
                            simp only [putAll, Nat.zero_add, Nat.reduceAdd, Act.put, List.setIfInBounds_toArray, List.set_cons_succ, List.set_cons_zero] at hK ⊢
                            go_wp2
                            exact hK _ _ rfl (fun _ _ _ h => h) (fun _ _ h => h) (Mod.refl _ _)
                          refine opsOkO_cons ?_ ?_
                          · intro K vs W hR hD hI hK
                            have d8 : vs 8 = .int .i64 (60 + (k : Int)) := hD 8 (by decide)
                            have d9 : vs 9 = .int .i64 (t : Int) := hD 9 (by decide)
                            clear hD hI
                            simp only [putAll, Nat.zero_add, Nat.reduceAdd, Act.put, List.setIfInBounds_toArray, List.set_cons_succ, List.set_cons_zero] at hK ⊢
                            generalize vs 8 = v8 at hK d8 ⊢
                            subst v8
                            generalize vs 9 = v9 at hK d9 ⊢
                            subst v9
                            go_wp2
                            exact hK _ _ rfl (fun _ _ _ h => h) (fun _ _ h => h) (Mod.refl _ _)
                          refine opsOkO_cons ?_ ?_
                          · intro K vs W hR hD hI hK
                            have d6 : vs 6 = .slice a0 m c0 := hD 6 (by decide)
                            have d10 : vs 10 = .int .i64 ((60 + (k : Int)) + (t : Int)) := hD 10 (by decide)
                            clear hD hI
                            simp only [putAll, Nat.zero_add, Nat.reduceAdd, Act.put, List.setIfInBounds_toArray, List.set_cons_succ, List.set_cons_zero] at hK ⊢
                            generalize vs 6 = v6 at hK d6 ⊢
                            subst v6
                            generalize vs 10 = v10 at hK d10 ⊢
                            subst v10
                            have hl' := HL.out W hR
                            go_wp2_with (go_at_call 36; refine (at_q W a0 m c0 l hlm.out hl' (i := 60 + k + t) (n := 9) (by omega) (by simp) (by omega) (by omega) (by omega) HX2.out).mono ?_; rintro e' w' ⟨rfl, hm'⟩)
                            exact hK _ _ rfl (fun j u _ h => HST j u _ _ h hm') (fun _ _ h => TR.keep h hm') (hm'.mono (fun _ _ e => e.elim))
                          refine opsOkO_cons ?_ ?_
                          · intro K vs W hR hD hI hK
                            have d11 : vs 11 = .int .i64 (r : Int) := hD 11 (by decide)
                            clear hD hI
                            simp only [putAll, Nat.zero_add, Nat.reduceAdd, Act.put, List.setIfInBounds_toArray, List.set_cons_succ, List.set_cons_zero] at hK ⊢
                            generalize vs 11 = v11 at hK d11 ⊢
                            subst v11
                            go_wp2
                            exact hK _ _ rfl (fun _ _ _ h => h) (fun _ _ h => h) (Mod.refl _ _)
                          refine opsOkO_cons ?_ ?_
                          · intro K vs W hR hD hI hK
                            have d2 : vs 2 = .int .i64 (k : Int) := hD 2 (by decide)
                            have d5 : vs 5 = .int .i64 y := hD 5 (by decide)
                            have d12 : vs 12 = .int .i64 (1 + (r : Int)) := hD 12 (by decide)
                            clear hD hI
                            simp only [putAll, Nat.zero_add, Nat.reduceAdd, Act.put, List.setIfInBounds_toArray, List.set_cons_succ, List.set_cons_zero] at hK ⊢
                            generalize vs 2 = v2 at hK d2 ⊢
                            subst v2
                            generalize vs 5 = v5 at hK d5 ⊢
                            subst v5
                            generalize vs 12 = v12 at hK d12 ⊢
                            subst v12
                            go_wp2
                            exact hK _ _ rfl (fun _ _ _ h => h) (fun _ _ h => h) (Mod.refl _ _)
                          refine opsOkO_cons ?_ ?_
                          · intro K vs W hR hD hI hK
                            have d13 : vs 13 = .agg #[.int .i64 (k : Int), .int .i64 y, .int .i64 (1 + (r : Int))] := hD 13 (by decide)
                            clear hD hI
                            simp only [putAll, Nat.zero_add, Nat.reduceAdd, Act.put, List.setIfInBounds_toArray, List.set_cons_succ, List.set_cons_zero] at hK ⊢
                            generalize vs 13 = v13 at hK d13 ⊢
                            subst v13
                            go_wp2
                            exact hK _ _ ⟨_, rfl, by exact Rd.litN _ _ _ _ _ 1 rfl rfl (by decide)⟩ (fun j u _ h => HST j u _ _ h (Mod.alloc _ _ _)) (fun _ _ h => TR.keep h (Mod.alloc _ _ _)) (Mod.alloc _ _ _)
                          refine opsOkO_cons ?_ ?_
                          · intro K vs W hR hD hI hK
                            have d1 : vs 1 = zE := hD 1 (by decide)
                            have d14 : (NewRw 3 (c3 ((k : Int), y, 1 + (r : Int)))) (vs 14) W := hD 14 (by decide)
                            clear hD
                            replace hI := hI rfl
                            simp only [putAll, Nat.zero_add, Nat.reduceAdd, Act.put, List.setIfInBounds_toArray, List.set_cons_succ, List.set_cons_zero] at hK ⊢
                            generalize vs 1 = v1 at hK d1 ⊢
                            subst v1
                            generalize vs 14 = v14 at hK d14 ⊢
                            have hz' := HZ.out W hR
                            obtain ⟨g, rfl, hn'⟩ := d14
                            have hrow := hI.o2
                            go_wp2_with (at_builtin; refine wpList_append_any rfl (.tmp 91) (.tmp 104) 25 rfl 43 iE (.agg #[.int .i64 0, .int .i64 0, .int .i64 0]) 3 24 Try.underlying25 hiE hzE hsE hbE rfl (by decide) zE EE.length (EE.flatMap c3) rfl (Own.base hrow (Nat.zero_le _)) _ 1 (c3 ((k : Int), y, 1 + (r : Int))) rfl hn' (by intro u hu; simp [c3] at hu; rcases hu with rfl | rfl | rfl <;> rfl) (by unfold maxLen; omega) (by omega) ?_; intro v' w' hap)
                            refine hK _ _ ⟨TR.pushE hI hz' (by rw [c3_snoc]; exact hap), Nat.le_trans hz' hap.mod.size, fun k hk => by rcases hap.row k hk with h1 | h1; exact HNB.out k h1; have := HZN.out W hR; omega⟩ (fact_solid HSO 15 (by kernel_rfl)) (fun h _ => absurd rfl h) (hap.mod.mono (fun k _ e => ⟨hI.low2 k e, HNB.out k e⟩))
                          refine opsOkO_cons ?_ ?_
                          · intro K vs W hR hD hI hK
                            clear hD hI
                            simp only [putAll, Nat.zero_add, Nat.reduceAdd, Act.put, List.setIfInBounds_toArray, List.set_cons_succ, List.set_cons_zero] at hK ⊢
                            go_wp2
                            exact hK _ _ rfl (fun _ _ _ h => h) (fun _ _ h => h) (Mod.refl _ _)
                          exact opsOkO_nil
                        · intro vs W hR hF
                          have d15 : (fun v W => TR B0 sN v sB N (EE ++ [((k : Int), y, 1 + (r : Int))]) [] W ∧ B0 ≤ W.heap.size ∧ (∀ k, v.ownBlock = some k → k ≠ nb)) (vs 15) W := hF 15 (by decide) (by decide)
                          have d16 : vs 16 = .pointer (some ⟨p, 1, none⟩) := hF 16 (by decide) (by decide)
                          clear hF
                          simp only [putAll, Nat.zero_add, Nat.reduceAdd, Act.put, List.setIfInBounds_toArray, List.set_cons_succ, List.set_cons_zero]
                          generalize vs 15 = v15 at d15 ⊢
                          generalize vs 16 = v16 at d16 ⊢
                          subst v16
                          obtain ⟨ax, cx, rfl⟩ := own_form d15.1.o2
                          have hpb := HC.out W hR
                          have k0 := hpb.cell 1 rfl
                          have k1 := hpb.free 1
                          have hsz := HSZ.out
                          have HTN := Lib.hid (TL.put 1 hpb (HCQ.out W hR) d15.1 (HMO.out W hR) d15.2.1 hsz.2.2 (by omega) (by omega) rfl)
                          have HCBW := Lib.hid (HCB.out W hR)
                          have HNB9 := Lib.hid d15.2.2
                          obtain ⟨nn, hnn⟩ : ∃ nn, (EE ++ [((k : Int), y, 1 + (r : Int))]).length = nn := ⟨_, rfl⟩
                          rw [hnn] at HTN HNB9 ⊢
                          clear d15 hpb hR hT0 hsz hnn
                          go_wp2_with fail
                          go_meet
                          exact ⟨.slice ax nn cx, by rw [ht1.out]; exact HTN.out, (HCBW.out).setOther _ _ (by have := HNL.out; have := HSZ.out; show nb ≠ p; omega), HNB9.out⟩
                    case rest =>
                      obtain ⟨zF, hTL9, hB9, hne9⟩ := hcut
                      have HTL4 := Lib.hid hTL9
                      have HNB4 := Lib.hid hB9
                      have HNE4 := Lib.hid hne9
                      clear hTL9 hB9 hne9 HTL3 HNB3 HNB
                      obtain ⟨E4, hE4⟩ : ∃ E, EE ++ tE1 l k t y = E := ⟨_, rfl⟩
                      have hE4l : E4.length ≤ 71 := by rw [← hE4, List.length_append]; have := tE1_len l k t y; omega
                      rw [hE4] at HTL4
                      have HE4 := Lib.hid hE4
                      clear hE4
                      by_cases h1 : n8 = 2
                      · have ht1 : Hid (tE2 l k t y = []) := Lib.hid (by unfold tE2; rw [HN8.out, if_pos h1])
                        subst h1
                        go_wp2_with fail
                        go_roundw
                        case rel => exact ⟨t + 1, zF, hlt2, by go_num, by rw [HEE.out, hEk.out, if_neg (by have := HYN.out; omega), ht1.out, List.append_nil, HE4.out]; exact HTL4.out, HNB4.out, HNE4.out⟩
                        case measure => simp [intOf]; omega
                      · have hd1 : ((n8 : Int) != 2) = true := by simp; omega
                        obtain ⟨r, hr9⟩ : ∃ r, atL l (90 + k + t) 9 = r := ⟨_, rfl⟩
                        have ht1 : Hid (tE2 l k t y = [(y, (k : Int), 1 + (r : Int))]) := Lib.hid (by unfold tE2; rw [HN8.out, if_neg h1, hr9]; simp)
                        have hrl := atL_lt l (90 + k + t) 9 (by omega)
                        rw [hr9] at hrl
                        have HX2 := Lib.hid hr9
                        have H1 := Lib.hid h1
                        clear hr9 h1
                        go_upto_region 23 with fail
                        try rw [hd1]
                        clear hd1
                        have hTL := HTL4.out
                        have HNB := HNE4
                        have HC : Hid (∀ W, Mod (fun k => B0 ≤ k ∧ k ≠ nb) (World.drew wc) W → Blk W p 28 [sN, zF, sB]) := Lib.hid fun W hm => (hTL.pb.drew).keep hm (by have := HSZ.out; omega)
                        have HCQ : Hid (∀ W, Mod (fun k => B0 ≤ k ∧ k ≠ nb) (World.drew wc) W → Blk W q 28 [.slice none 0 0, .slice none 0 0, .slice none 0 0]) := Lib.hid fun W hm => (hTL.qb.drew).keep hm (by have := HSZ.out; omega)
                        have HMO : Hid (∀ W, Mod (fun k => B0 ≤ k ∧ k ≠ nb) (World.drew wc) W → Mod (fun _ => False) w W) := Lib.hid fun W hm => (hTL.md.thenDrew).trans hm (fun _ _ e => e) (fun i hi e => by have := HSZ.out; show False; omega)
                        have HL : Hid (∀ W, Mod (fun k => B0 ≤ k ∧ k ≠ nb) (World.drew wc) W → Rd W 1 (.slice a0 m c0) m (l.map (Value.int .i64))) := Lib.hid fun W hm => HR.out W (HMO.out W hm)
                        have HZ : Hid (∀ W, Mod (fun k => B0 ≤ k ∧ k ≠ nb) (World.drew wc) W → B0 ≤ W.heap.size) := Lib.hid fun W hm => Nat.le_trans hTL.sz hm.size
                        have hT0 : TR B0 sN zF sB N E4 [] (World.drew wc) := hTL.tr.keep (Mod.drew _ _)
                        have HCB : Hid (∀ W, Mod (fun k => B0 ≤ k ∧ k ≠ nb) (World.drew wc) W → Blk W nb 79 [.int .i64 y0, .int .i64 y1]) := Lib.hid fun W hm => (HNB4.out.drew).keep hm (fun e => e.2 rfl)
                        have HZN : Hid (∀ W, Mod (fun k => B0 ≤ k ∧ k ≠ nb) (World.drew wc) W → nb < W.heap.size) := Lib.hid fun W hm => (HCB.out W hm).lt
                        clear hTL
                        have HST : ∀ (ix : Nat) (vx : Value) (wx wy : World), factOf (tn23_F B0 p m c0 k t nb r y a0 sN zF sB N E4 []) ix vx wx → Mod (fun _ => False) wx wy → factOf (tn23_F B0 p m c0 k t nb r y a0 sN zF sB N E4 []) ix vx wy := by
                          refine fact_stays ?_
                          intro f hf
                          simp only [tn23_F, List.mem_cons, List.not_mem_nil, or_false] at hf
                          rcases hf with rfl | rfl | rfl | rfl | rfl | rfl | rfl | rfl | rfl | rfl | rfl | rfl | rfl | rfl | rfl | rfl | rfl <;> first | exact stable_val _ | exact stable_new | exact (fun _ _ _ ⟨g, h, h2⟩ hm => ⟨g, h, h2.keepA hm (fun _ _ e => e.elim)⟩) | exact (fun _ _ _ ⟨h, h2, h3⟩ hm => ⟨TR.keep h hm, Nat.le_trans h2 hm.size, h3⟩)
                        have HSO : ∀ px ∈ (tn23_F B0 p m c0 k t nb r y a0 sN zF sB N E4 []), px.1 = true → ∀ (vx : Value) (wx wy : World), px.2 vx wx → px.2 vx wy := by
                          intro f hf
                          simp only [tn23_F, List.mem_cons, List.not_mem_nil, or_false] at hf
                          rcases hf with rfl | rfl | rfl | rfl | rfl | rfl | rfl | rfl | rfl | rfl | rfl | rfl | rfl | rfl | rfl | rfl | rfl <;> first | exact fun _ _ _ _ h => h | (intro h; cases h)
                        refine wp_region_obj (Mod (fun k => B0 ≤ k ∧ k ≠ nb)) (factOf (tn23_F B0 p m c0 k t nb r y a0 sN zF sB N E4 [])) (fun i => tn23_C.getD i 1000) (fun W => TR B0 sN zF sB N E4 [] W) 15 (fun i => tn23_D.getD i []) 17 _ rfl rfl (by kernel_rfl) (by kernel_rfl) (by kernel_rfl) (by kernel_rfl) (by kernel_rfl) (fun _ => Mod.refl _ _)
                          (fun _ _ _ h k => h.trans k (fun _ _ e => e) (fun _ _ e => e)) hT0 ?_ ?_
                        · refine opsOkO_cons ?_ ?_
                          · intro K vs W hR hD hI hK
                            clear hD hI
                            simp only [putAll, Nat.zero_add, Nat.reduceAdd, Act.put, List.setIfInBounds_toArray, List.set_cons_succ, List.set_cons_zero] at hK ⊢
                            go_wp2
                            exact hK _ _ rfl (fun _ _ _ h => h) (fun _ _ h => h) (Mod.refl _ _)
                          refine opsOkO_cons ?_ ?_
                          · intro K vs W hR hD hI hK
                            have d0 : vs 0 = .pointer (some ⟨p, 1, none⟩) := hD 0 (by decide)
                            clear hD hI
                            simp only [putAll, Nat.zero_add, Nat.reduceAdd, Act.put, List.setIfInBounds_toArray, List.set_cons_succ, List.set_cons_zero] at hK ⊢
                            generalize vs 0 = v0 at hK d0 ⊢
                            subst v0
                            have k0 := (HC.out W hR).cell 1 rfl
                            go_wp2
                            exact hK _ _ rfl (fun _ _ _ h => h) (fun _ _ h => h) (Mod.refl _ _)
                          refine opsOkO_cons ?_ ?_
                          · intro K vs W hR hD hI hK
                            clear hD hI
                            simp only [putAll, Nat.zero_add, Nat.reduceAdd, Act.put, List.setIfInBounds_toArray, List.set_cons_succ, List.set_cons_zero] at hK ⊢
                            go_wp2
                            exact hK _ _ rfl (fun _ _ _ h => h) (fun _ _ h => h) (Mod.refl _ _)
                          refine opsOkO_cons ?_ ?_
                          · intro K vs W hR hD hI hK
                            have d2 : vs 2 = .int .i64 (t : Int) := hD 2 (by decide)
                            clear hD hI
                            simp only [putAll, Nat.zero_add, Nat.reduceAdd, Act.put, List.setIfInBounds_toArray, List.set_cons_succ, List.set_cons_zero] at hK ⊢
                            generalize vs 2 = v2 at hK d2 ⊢
                            subst v2
                            go_wp2_with fail
                            exact hK _ _ rfl (fun _ _ _ h => h) (fun _ _ h => h) (Mod.refl _ _)
                          refine opsOkO_cons ?_ ?_
                          · intro K vs W hR hD hI hK
                            have d3 : vs 3 = .pointer (some ⟨nb, t, none⟩) := hD 3 (by decide)
                            clear hD hI
                            simp only [putAll, Nat.zero_add, Nat.reduceAdd, Act.put, List.setIfInBounds_toArray, List.set_cons_succ, List.set_cons_zero] at hK ⊢
                            generalize vs 3 = v3 at hK d3 ⊢
                            subst v3
                            have k0 := (HCB.out W hR).cell t hyt.out
                            go_wp2
                            exact hK _ _ rfl (fun _ _ _ h => h) (fun _ _ h => h) (Mod.refl _ _)
                          refine opsOkO_cons ?_ ?_
                          · intro K vs W hR hD hI hK
                            clear hD hI
                            simp only [putAll, Nat.zero_add, Nat.reduceAdd, Act.put, List.setIfInBounds_toArray, List.set_cons_succ, List.set_cons_zero] at hK ⊢
                            go_wp2
                            exact hK _ _ rfl (fun _ _ _ h => h) (fun _ _ h => h) (Mod.refl _ _)
                          refine opsOkO_cons ?_ ?_
                          · intro K vs W hR hD hI hK
                            clear hD hI
                            simp only [putAll, Nat.zero_add, Nat.reduceAdd, Act.put, List.setIfInBounds_toArray, List.set_cons_succ, List.set_cons_zero] at hK ⊢
                            go_wp2
                            exact hK _ _ rfl (fun _ _ _ h => h) (fun _ _ h => h) (Mod.refl _ _)
                          refine opsOkO_cons ?_ ?_
                          · intro K vs W hR hD hI hK
                            clear hD hI
                            simp only [putAll, Nat.zero_add, Nat.reduceAdd, Act.put, List.setIfInBounds_toArray, List.set_cons_succ, List.set_cons_zero] at hK ⊢
                            go_wp2
                            exact hK _ _ rfl (fun _ _ _ h => h) (fun _ _ h => h) (Mod.refl _ _)
                          refine opsOkO_cons ?_ ?_
                          · intro K vs W hR hD hI hK
                            have d7 : vs 7 = .int .i64 (k : Int) := hD 7 (by decide)
                            clear hD hI
                            simp only [putAll, Nat.zero_add, Nat.reduceAdd, Act.put, List.setIfInBounds_toArray, List.set_cons_succ, List.set_cons_zero] at hK ⊢
                            generalize vs 7 = v7 at hK d7 ⊢
                            subst v7
                            go_wp2
                            exact hK _ _ rfl (fun _ _ _ h => h) (fun _ _ h => h) (Mod.refl _ _)
                          refine opsOkO_cons ?_ ?_
                          · intro K vs W hR hD hI hK
                            clear hD hI
                            simp only [putAll, Nat.zero_add, Nat.reduceAdd, Act.put, List.setIfInBounds_toArray, List.set_cons_succ, List.set_cons_zero] at hK ⊢
                            go_wp2
                            exact hK _ _ rfl (fun _ _ _ h => h) (fun _ _ h => h) (Mod.refl _ _)
                          refine opsOkO_cons ?_ ?_
                          · intro K vs W hR hD hI hK
                            have d8 : vs 8 = .int .i64 (90 + (k : Int)) := hD 8 (by decide)
                            have d9 : vs 9 = .int .i64 (t : Int) := hD 9 (by decide)
                            clear hD hI
                            simp only [putAll, Nat.zero_add, Nat.reduceAdd, Act.put, List.setIfInBounds_toArray, List.set_cons_succ, List.set_cons_zero] at hK ⊢
                            generalize vs 8 = v8 at hK d8 ⊢
                            subst v8
                            generalize vs 9 = v9 at hK d9 ⊢
                            subst v9
                            go_wp2
                            exact hK _ _ rfl (fun _ _ _ h => h) (fun _ _ h => h) (Mod.refl _ _)
                          refine opsOkO_cons ?_ ?_
                          · intro K vs W hR hD hI hK
                            have d6 : vs 6 = .slice a0 m c0 := hD 6 (by decide)
                            have d10 : vs 10 = .int .i64 ((90 + (k : Int)) + (t : Int)) := hD 10 (by decide)
                            clear hD hI
                            simp only [putAll, Nat.zero_add, Nat.reduceAdd, Act.put, List.setIfInBounds_toArray, List.set_cons_succ, List.set_cons_zero] at hK ⊢
                            generalize vs 6 = v6 at hK d6 ⊢
                            subst v6
                            generalize vs 10 = v10 at hK d10 ⊢
                            subst v10
                            have hl' := HL.out W hR
                            go_wp2_with (go_at_call 36; refine (at_q W a0 m c0 l hlm.out hl' (i := 90 + k + t) (n := 9) (by omega) (by simp) (by omega) (by omega) (by omega) HX2.out).mono ?_; rintro e' w' ⟨rfl, hm'⟩)
                            exact hK _ _ rfl (fun j u _ h => HST j u _ _ h hm') (fun _ _ h => TR.keep h hm') (hm'.mono (fun _ _ e => e.elim))
                          refine opsOkO_cons ?_ ?_
                          · intro K vs W hR hD hI hK
                            have d11 : vs 11 = .int .i64 (r : Int) := hD 11 (by decide)
                            clear hD hI
                            simp only [putAll, Nat.zero_add, Nat.reduceAdd, Act.put, List.setIfInBounds_toArray, List.set_cons_succ, List.set_cons_zero] at hK ⊢
                            generalize vs 11 = v11 at hK d11 ⊢
                            subst v11
                            go_wp2
                            exact hK _ _ rfl (fun _ _ _ h => h) (fun _ _ h => h) (Mod.refl _ _)
                          refine opsOkO_cons ?_ ?_
                          · intro K vs W hR hD hI hK
                            have d4 : vs 4 = .int .i64 y := hD 4 (by decide)
                            have d5 : vs 5 = .int .i64 (k : Int) := hD 5 (by decide)
                            have d12 : vs 12 = .int .i64 (1 + (r : Int)) := hD 12 (by decide)
                            clear hD hI
                            simp only [putAll, Nat.zero_add, Nat.reduceAdd, Act.put, List.setIfInBounds_toArray, List.set_cons_succ, List.set_cons_zero] at hK ⊢
                            generalize vs 4 = v4 at hK d4 ⊢
                            subst v4
                            generalize vs 5 = v5 at hK d5 ⊢
                            subst v5
                            generalize vs 12 = v12 at hK d12 ⊢
                            subst v12
                            go_wp2
                            exact hK _ _ rfl (fun _ _ _ h => h) (fun _ _ h => h) (Mod.refl _ _)
                          refine opsOkO_cons ?_ ?_
                          · intro K vs W hR hD hI hK
                            have d13 : vs 13 = .agg #[.int .i64 y, .int .i64 (k : Int), .int .i64 (1 + (r : Int))] := hD 13 (by decide)
                            clear hD hI
                            simp only [putAll, Nat.zero_add, Nat.reduceAdd, Act.put, List.setIfInBounds_toArray, List.set_cons_succ, List.set_cons_zero] at hK ⊢
                            generalize vs 13 = v13 at hK d13 ⊢
                            subst v13
                            go_wp2
                            exact hK _ _ ⟨_, rfl, by exact Rd.litN _ _ _ _ _ 1 rfl rfl (by decide)⟩ (fun j u _ h => HST j u _ _ h (Mod.alloc _ _ _)) (fun _ _ h => TR.keep h (Mod.alloc _ _ _)) (Mod.alloc _ _ _)
                          refine opsOkO_cons ?_ ?_
                          · intro K vs W hR hD hI hK
                            have d1 : vs 1 = zF := hD 1 (by decide)
                            have d14 : (NewRw 3 (c3 (y, (k : Int), 1 + (r : Int)))) (vs 14) W := hD 14 (by decide)
                            clear hD
                            replace hI := hI rfl
                            simp only [putAll, Nat.zero_add, Nat.reduceAdd, Act.put, List.setIfInBounds_toArray, List.set_cons_succ, List.set_cons_zero] at hK ⊢
                            generalize vs 1 = v1 at hK d1 ⊢
                            subst v1
                            generalize vs 14 = v14 at hK d14 ⊢
                            have hz' := HZ.out W hR
                            obtain ⟨g, rfl, hn'⟩ := d14
                            have hrow := hI.o2
                            go_wp2_with (at_builtin; refine wpList_append_any rfl (.tmp 110) (.tmp 123) 25 rfl 43 iE (.agg #[.int .i64 0, .int .i64 0, .int .i64 0]) 3 24 Try.underlying25 hiE hzE hsE hbE rfl (by decide) zF E4.length (E4.flatMap c3) rfl (Own.base hrow (Nat.zero_le _)) _ 1 (c3 (y, (k : Int), 1 + (r : Int))) rfl hn' (by intro u hu; simp [c3] at hu; rcases hu with rfl | rfl | rfl <;> rfl) (by unfold maxLen; omega) (by omega) ?_; intro v' w' hap)
                            refine hK _ _ ⟨TR.pushE hI hz' (by rw [c3_snoc]; exact hap), Nat.le_trans hz' hap.mod.size, fun k hk => by rcases hap.row k hk with h1 | h1; exact HNB.out k h1; have := HZN.out W hR; omega⟩ (fact_solid HSO 15 (by kernel_rfl)) (fun h _ => absurd rfl h) (hap.mod.mono (fun k _ e => ⟨hI.low2 k e, HNB.out k e⟩))
                          refine opsOkO_cons ?_ ?_
                          · intro K vs W hR hD hI hK
                            clear hD hI
                            simp only [putAll, Nat.zero_add, Nat.reduceAdd, Act.put, List.setIfInBounds_toArray, List.set_cons_succ, List.set_cons_zero] at hK ⊢
                            go_wp2
                            exact hK _ _ rfl (fun _ _ _ h => h) (fun _ _ h => h) (Mod.refl _ _)
                          exact opsOkO_nil
                        · intro vs W hR hF
                          have d15 : (fun v W => TR B0 sN v sB N (E4 ++ [(y, (k : Int), 1 + (r : Int))]) [] W ∧ B0 ≤ W.heap.size ∧ (∀ k, v.ownBlock = some k → k ≠ nb)) (vs 15) W := hF 15 (by decide) (by decide)
                          have d16 : vs 16 = .pointer (some ⟨p, 1, none⟩) := hF 16 (by decide) (by decide)
                          clear hF
                          simp only [putAll, Nat.zero_add, Nat.reduceAdd, Act.put, List.setIfInBounds_toArray, List.set_cons_succ, List.set_cons_zero]
                          generalize vs 15 = v15 at d15 ⊢
                          generalize vs 16 = v16 at d16 ⊢
                          subst v16
                          obtain ⟨ax, cx, rfl⟩ := own_form d15.1.o2
                          have hpb := HC.out W hR
                          have k0 := hpb.cell 1 rfl
                          have k1 := hpb.free 1
                          have hsz := HSZ.out
                          have HTN := Lib.hid (TL.put 1 hpb (HCQ.out W hR) d15.1 (HMO.out W hR) d15.2.1 hsz.2.2 (by omega) (by omega) rfl)
                          have HCBW := Lib.hid (HCB.out W hR)
                          have HNB9 := Lib.hid d15.2.2
                          obtain ⟨nn, hnn⟩ : ∃ nn, (E4 ++ [(y, (k : Int), 1 + (r : Int))]).length = nn := ⟨_, rfl⟩
                          rw [hnn] at HTN HNB9 ⊢
                          clear d15 hpb hR hT0 hsz hnn
                          go_wp2_with fail
                          go_roundw
                          case rel => exact ⟨t + 1, .slice ax nn cx, hlt2, by go_num, by rw [HEE.out, hEk.out, if_neg (by have := HYN.out; omega), ht1.out, ← List.append_assoc, HE4.out]; exact HTN.out, (HCBW.out).setOther _ _ (by have := HNL.out; have := HSZ.out; show nb ≠ p; omega), HNB9.out⟩
                          case measure => simp [intOf]; omega
                · obtain rfl : t = 2 := by omega
                  rw [tKs_two] at hTL
                  have HTL := Lib.hid hTL
                  clear hTL hNb hne
                  go_wp2_with fail
                  go_roundw
                  case rel => exact ⟨k + 1, zE, hlt, by go_num, by rw [tEs_succ, HE0.out, HV3.out]; exact HTL.out⟩
                  case measure => simp [intOf]; omega
        · obtain rfl : k = j := by omega
          obtain ⟨E1, hE1⟩ : ∃ E, tEs l k = E := ⟨_, rfl⟩
          have hE1l : E1.length ≤ 64 := by rw [← hE1]; have := tEs_len l k; omega
          rw [hE1] at hTL
          have HE1 := Lib.hid hE1
          have HT5 := Lib.hid hTL
          have HPP : Hid (tEs l (tw l * th l) = E1) := Lib.hid (by rw [HWV.out, HHV.out, HP.out, hE1])
          clear hE1 hTL HT3
          obtain ⟨x3, hx3⟩ : ∃ x, atL l 3 4 = x := ⟨_, rfl⟩
          have hx3l := atL_lt l 3 4 (by omega)
          rw [hx3] at hx3l
          have HX3 := Lib.hid hx3
          clear hx3
          go_wp2_with fail
          go_loopw [11] (fun i wr => ∃ (t : Nat) (zE : Value), t ≤ x3 ∧ i = .int .i64 t ∧ TL w p q B0 sN zE (.slice none 0 0) N (E1 ++ tXs l t) [] wr) (fun i _ => x3 - (intOf i).toNat)
          case atStart => exact ⟨0, sE, by omega, rfl, by have := HT5.out; simpa [tXs] using this⟩
          case round =>
            obtain ⟨t, zE, ht, rfl, hTL⟩ := hrel
            have hr3 := HR.out _ hTL.md
            have HTL := Lib.hid hTL
            clear hTL
            by_cases hlt2 : t < x3
            · have d0 : decide ((t : Int) < (x3 : Int)) = true := by simp; omega
              go_wp2_with fail
              refine (at_q wr a0 m c0 l hlm.out hr3 (i := 3) (n := 4) (by simp) (by simp) (by omega) (by omega) (by omega) HX3.out).mono ?_
              rintro e w3 ⟨rfl, hm3⟩
              have hTL := HTL.out.keep hm3
              clear hr3 hm3 HTL
              obtain ⟨EE, hEE⟩ : ∃ EE, E1 ++ tXs l t = EE := ⟨_, rfl⟩
              have hEl : EE.length ≤ 70 := by rw [← hEE, List.length_append, tXs_len]; omega
              rw [hEE] at hTL
              obtain ⟨ra, hra⟩ : ∃ r, atL l (4 + t) k = r := ⟨_, rfl⟩
              obtain ⟨rb, hrb⟩ : ∃ r, atL l (8 + t) k = r := ⟨_, rfl⟩
              obtain ⟨rc, hrc⟩ : ∃ r, atL l (12 + t) 40 = r := ⟨_, rfl⟩
              have hal := atL_lt l (4 + t) k (by omega)
              have hbl := atL_lt l (8 + t) k (by omega)
              have hcl := atL_lt l (12 + t) 40 (by omega)
              rw [hra] at hal
              rw [hrb] at hbl
              rw [hrc] at hcl
              have HEE : Hid (E1 ++ tXs l (t + 1) = EE ++ [((ra : Int), (rb : Int), 1 + (rc : Int))]) := Lib.hid (by
                rw [← hEE, List.append_assoc]; simp [tXs, List.range_succ, tX]; rw [HWV.out, HHV.out, HP.out, hra, hrb, hrc]; exact ⟨rfl, rfl, rfl⟩)
              obtain ⟨sB, hsB⟩ : ∃ v : Value, .slice none 0 0 = v := ⟨_, rfl⟩
              rw [hsB] at hTL
              have HSB := Lib.hid hsB
              have HRA := Lib.hid hra
              have HRB := Lib.hid hrb
              have HRC := Lib.hid hrc
              clear hra hrb hrc hEE hsB
              go_upto_region 27 with fail
              clear d0
              have HC : Hid (∀ W, Mod (fun k => B0 ≤ k) (World.drew w3) W → Blk W p 28 [sN, zE, sB]) := Lib.hid fun W hm => (hTL.pb.drew).keep hm (by have := HSZ.out; omega)
              have HCQ : Hid (∀ W, Mod (fun k => B0 ≤ k) (World.drew w3) W → Blk W q 28 [.slice none 0 0, .slice none 0 0, .slice none 0 0]) := Lib.hid fun W hm => (hTL.qb.drew).keep hm (by have := HSZ.out; omega)
              have HMO : Hid (∀ W, Mod (fun k => B0 ≤ k) (World.drew w3) W → Mod (fun _ => False) w W) := Lib.hid fun W hm => (hTL.md.thenDrew).trans hm (fun _ _ e => e) (fun i hi e => by have := HSZ.out; show False; omega)
              have HL : Hid (∀ W, Mod (fun k => B0 ≤ k) (World.drew w3) W → Rd W 1 (.slice a0 m c0) m (l.map (Value.int .i64))) := Lib.hid fun W hm => HR.out W (HMO.out W hm)
              have HZ : Hid (∀ W, Mod (fun k => B0 ≤ k) (World.drew w3) W → B0 ≤ W.heap.size) := Lib.hid fun W hm => Nat.le_trans hTL.sz hm.size
              have hT0 : TR B0 sN zE sB N EE [] (World.drew w3) := hTL.tr.keep (Mod.drew _ _)
              clear hTL
              have HST : ∀ (ix : Nat) (vx : Value) (wx wy : World), factOf (tn27_F B0 p m c0 k t wv hv ra rb rc a0 sN zE sB N EE []) ix vx wx → Mod (fun _ => False) wx wy → factOf (tn27_F B0 p m c0 k t wv hv ra rb rc a0 sN zE sB N EE []) ix vx wy := by
                refine fact_stays ?_
                intro f hf
                simp only [tn27_F, List.mem_cons, List.not_mem_nil, or_false] at hf
                rcases hf with rfl | rfl | rfl | rfl | rfl | rfl | rfl | rfl | rfl | rfl | rfl | rfl | rfl | rfl | rfl | rfl | rfl | rfl | rfl | rfl | rfl | rfl | rfl | rfl | rfl <;> first | exact stable_val _ | exact stable_new | exact (fun _ _ _ ⟨g, h, h2⟩ hm => ⟨g, h, h2.keepA hm (fun _ _ e => e.elim)⟩) | exact (fun _ _ _ ⟨h, h2⟩ hm => ⟨TR.keep h hm, Nat.le_trans h2 hm.size⟩)
              have HSO : ∀ px ∈ (tn27_F B0 p m c0 k t wv hv ra rb rc a0 sN zE sB N EE []), px.1 = true → ∀ (vx : Value) (wx wy : World), px.2 vx wx → px.2 vx wy := by
                intro f hf
                simp only [tn27_F, List.mem_cons, List.not_mem_nil, or_false] at hf
                rcases hf with rfl | rfl | rfl | rfl | rfl | rfl | rfl | rfl | rfl | rfl | rfl | rfl | rfl | rfl | rfl | rfl | rfl | rfl | rfl | rfl | rfl | rfl | rfl | rfl | rfl <;> first | exact fun _ _ _ _ h => h | (intro h; cases h)
              refine wp_region_obj (Mod (fun k => B0 ≤ k)) (factOf (tn27_F B0 p m c0 k t wv hv ra rb rc a0 sN zE sB N EE [])) (fun i => tn27_C.getD i 1000) (fun W => TR B0 sN zE sB N EE [] W) 23 (fun i => tn27_D.getD i []) 25 _ rfl rfl (by kernel_rfl) (by kernel_rfl) (by kernel_rfl) (by kernel_rfl) (by kernel_rfl) (fun _ => Mod.refl _ _)
                (fun _ _ _ h k => h.trans k (fun _ _ e => e) (fun _ _ e => e)) hT0 ?_ ?_
              · refine opsOkO_cons ?_ ?_
                · intro K vs W hR hD hI hK
                  clear hD hI
                  simp only [putAll, Nat.zero_add, Nat.reduceAdd, Act.put, List.setIfInBounds_toArray, List.set_cons_succ, List.set_cons_zero] at hK ⊢
                  go_wp2
                  exact hK _ _ rfl (fun _ _ _ h => h) (fun _ _ h => h) (Mod.refl _ _)
                refine opsOkO_cons ?_ ?_
                · intro K vs W hR hD hI hK
                  have d0 : vs 0 = .pointer (some ⟨p, 1, none⟩) := hD 0 (by decide)
                  clear hD hI
                  simp only [putAll, Nat.zero_add, Nat.reduceAdd, Act.put, List.setIfInBounds_toArray, List.set_cons_succ, List.set_cons_zero] at hK ⊢
                  generalize vs 0 = v0 at hK d0 ⊢
                  subst v0
                  have k0 := (HC.out W hR).cell 1 rfl
                  go_wp2
                  exact hK _ _ rfl (fun _ _ _ h => h) (fun _ _ h => h) (Mod.refl _ _)
                refine opsOkO_cons ?_ ?_
                · intro K vs W hR hD hI hK
                  clear hD hI
                  simp only [putAll, Nat.zero_add, Nat.reduceAdd, Act.put, List.setIfInBounds_toArray, List.set_cons_succ, List.set_cons_zero] at hK ⊢
                  go_wp2
                  exact hK _ _ rfl (fun _ _ _ h => h) (fun _ _ h => h) (Mod.refl _ _)
                refine opsOkO_cons ?_ ?_
                · intro K vs W hR hD hI hK
                  clear hD hI
                  simp only [putAll, Nat.zero_add, Nat.reduceAdd, Act.put, List.setIfInBounds_toArray, List.set_cons_succ, List.set_cons_zero] at hK ⊢
                  go_wp2
                  exact hK _ _ rfl (fun _ _ _ h => h) (fun _ _ h => h) (Mod.refl _ _)
                refine opsOkO_cons ?_ ?_
                · intro K vs W hR hD hI hK
                  have d3 : vs 3 = .int .i64 (t : Int) := hD 3 (by decide)
                  clear hD hI
                  simp only [putAll, Nat.zero_add, Nat.reduceAdd, Act.put, List.setIfInBounds_toArray, List.set_cons_succ, List.set_cons_zero] at hK ⊢
                  generalize vs 3 = v3 at hK d3 ⊢
                  subst v3
                  go_wp2
                  exact hK _ _ rfl (fun _ _ _ h => h) (fun _ _ h => h) (Mod.refl _ _)
                refine opsOkO_cons ?_ ?_
                · intro K vs W hR hD hI hK
                  clear hD hI
                  simp only [putAll, Nat.zero_add, Nat.reduceAdd, Act.put, List.setIfInBounds_toArray, List.set_cons_succ, List.set_cons_zero] at hK ⊢
                  go_wp2
                  exact hK _ _ rfl (fun _ _ _ h => h) (fun _ _ h => h) (Mod.refl _ _)
                refine opsOkO_cons ?_ ?_
                · intro K vs W hR hD hI hK
                  clear hD hI
                  simp only [putAll, Nat.zero_add, Nat.reduceAdd, Act.put, List.setIfInBounds_toArray, List.set_cons_succ, List.set_cons_zero] at hK ⊢
                  go_wp2
                  exact hK _ _ rfl (fun _ _ _ h => h) (fun _ _ h => h) (Mod.refl _ _)
                refine opsOkO_cons ?_ ?_
                · intro K vs W hR hD hI hK
                  have d5 : vs 5 = .int .i64 (wv : Int) := hD 5 (by decide)
                  have d6 : vs 6 = .int .i64 (hv : Int) := hD 6 (by decide)
                  clear hD hI
                  simp only [putAll, Nat.zero_add, Nat.reduceAdd, Act.put, List.setIfInBounds_toArray, List.set_cons_succ, List.set_cons_zero] at hK ⊢
                  generalize vs 5 = v5 at hK d5 ⊢
                  subst v5
                  generalize vs 6 = v6 at hK d6 ⊢
                  subst v6
                  go_wp2
                  exact hK _ _ rfl (fun _ _ _ h => h) (fun _ _ h => h) (Mod.refl _ _)
                refine opsOkO_cons ?_ ?_
                · intro K vs W hR hD hI hK
                  have d2 : vs 2 = .slice a0 m c0 := hD 2 (by decide)
                  have d4 : vs 4 = .int .i64 (4 + (t : Int)) := hD 4 (by decide)
                  have d7 : vs 7 = .int .i64 (k : Int) := hD 7 (by decide)
                  clear hD hI
                  simp only [putAll, Nat.zero_add, Nat.reduceAdd, Act.put, List.setIfInBounds_toArray, List.set_cons_succ, List.set_cons_zero] at hK ⊢
                  generalize vs 2 = v2 at hK d2 ⊢
                  subst v2
                  generalize vs 4 = v4 at hK d4 ⊢
                  subst v4
                  generalize vs 7 = v7 at hK d7 ⊢
                  subst v7
                  have hl' := HL.out W hR
                  go_wp2_with (go_at_call 36; refine (at_q W a0 m c0 l hlm.out hl' (i := 4 + t) (n := k) (by omega) rfl (by omega) (by omega) (by omega) HRA.out).mono ?_; rintro e' w' ⟨rfl, hm'⟩)
                  exact hK _ _ rfl (fun j u _ h => HST j u _ _ h hm') (fun _ _ h => TR.keep h hm') (hm'.mono (fun _ _ e => e.elim))
                refine opsOkO_cons ?_ ?_
                · intro K vs W hR hD hI hK
                  clear hD hI
                  simp only [putAll, Nat.zero_add, Nat.reduceAdd, Act.put, List.setIfInBounds_toArray, List.set_cons_succ, List.set_cons_zero] at hK ⊢
                  go_wp2
                  exact hK _ _ rfl (fun _ _ _ h => h) (fun _ _ h => h) (Mod.refl _ _)
                refine opsOkO_cons ?_ ?_
                · intro K vs W hR hD hI hK
                  clear hD hI
                  simp only [putAll, Nat.zero_add, Nat.reduceAdd, Act.put, List.setIfInBounds_toArray, List.set_cons_succ, List.set_cons_zero] at hK ⊢
                  go_wp2
                  exact hK _ _ rfl (fun _ _ _ h => h) (fun _ _ h => h) (Mod.refl _ _)
                refine opsOkO_cons ?_ ?_
                · intro K vs W hR hD hI hK
                  have d10 : vs 10 = .int .i64 (t : Int) := hD 10 (by decide)
                  clear hD hI
                  simp only [putAll, Nat.zero_add, Nat.reduceAdd, Act.put, List.setIfInBounds_toArray, List.set_cons_succ, List.set_cons_zero] at hK ⊢
                  generalize vs 10 = v10 at hK d10 ⊢
                  subst v10
                  go_wp2
                  exact hK _ _ rfl (fun _ _ _ h => h) (fun _ _ h => h) (Mod.refl _ _)
                refine opsOkO_cons ?_ ?_
                · intro K vs W hR hD hI hK
                  clear hD hI
                  simp only [putAll, Nat.zero_add, Nat.reduceAdd, Act.put, List.setIfInBounds_toArray, List.set_cons_succ, List.set_cons_zero] at hK ⊢
                  go_wp2
                  exact hK _ _ rfl (fun _ _ _ h => h) (fun _ _ h => h) (Mod.refl _ _)
                refine opsOkO_cons ?_ ?_
                · intro K vs W hR hD hI hK
                  clear hD hI
                  simp only [putAll, Nat.zero_add, Nat.reduceAdd, Act.put, List.setIfInBounds_toArray, List.set_cons_succ, List.set_cons_zero] at hK ⊢
                  go_wp2
                  exact hK _ _ rfl (fun _ _ _ h => h) (fun _ _ h => h) (Mod.refl _ _)
                refine opsOkO_cons ?_ ?_
                · intro K vs W hR hD hI hK
                  have d12 : vs 12 = .int .i64 (wv : Int) := hD 12 (by decide)
                  have d13 : vs 13 = .int .i64 (hv : Int) := hD 13 (by decide)
                  clear hD hI
                  simp only [putAll, Nat.zero_add, Nat.reduceAdd, Act.put, List.setIfInBounds_toArray, List.set_cons_succ, List.set_cons_zero] at hK ⊢
                  generalize vs 12 = v12 at hK d12 ⊢
                  subst v12
                  generalize vs 13 = v13 at hK d13 ⊢
                  subst v13
                  go_wp2
                  exact hK _ _ rfl (fun _ _ _ h => h) (fun _ _ h => h) (Mod.refl _ _)
                refine opsOkO_cons ?_ ?_
                · intro K vs W hR hD hI hK
                  have d9 : vs 9 = .slice a0 m c0 := hD 9 (by decide)
                  have d11 : vs 11 = .int .i64 (8 + (t : Int)) := hD 11 (by decide)
                  have d14 : vs 14 = .int .i64 (k : Int) := hD 14 (by decide)
                  clear hD hI
                  simp only [putAll, Nat.zero_add, Nat.reduceAdd, Act.put, List.setIfInBounds_toArray, List.set_cons_succ, List.set_cons_zero] at hK ⊢
                  generalize vs 9 = v9 at hK d9 ⊢
                  subst v9
                  generalize vs 11 = v11 at hK d11 ⊢
                  subst v11
                  generalize vs 14 = v14 at hK d14 ⊢
                  subst v14
                  have hl' := HL.out W hR
                  go_wp2_with (go_at_call 36; refine (at_q W a0 m c0 l hlm.out hl' (i := 8 + t) (n := k) (by omega) rfl (by omega) (by omega) (by omega) HRB.out).mono ?_; rintro e' w' ⟨rfl, hm'⟩)
                  exact hK _ _ rfl (fun j u _ h => HST j u _ _ h hm') (fun _ _ h => TR.keep h hm') (hm'.mono (fun _ _ e => e.elim))
                refine opsOkO_cons ?_ ?_
                · intro K vs W hR hD hI hK
                  clear hD hI
                  simp only [putAll, Nat.zero_add, Nat.reduceAdd, Act.put, List.setIfInBounds_toArray, List.set_cons_succ, List.set_cons_zero] at hK ⊢
                  go_wp2
                  exact hK _ _ rfl (fun _ _ _ h => h) (fun _ _ h => h) (Mod.refl _ _)
                refine opsOkO_cons ?_ ?_
                · intro K vs W hR hD hI hK
                  clear hD hI
                  simp only [putAll, Nat.zero_add, Nat.reduceAdd, Act.put, List.setIfInBounds_toArray, List.set_cons_succ, List.set_cons_zero] at hK ⊢
                  go_wp2
                  exact hK _ _ rfl (fun _ _ _ h => h) (fun _ _ h => h) (Mod.refl _ _)
                refine opsOkO_cons ?_ ?_
                · intro K vs W hR hD hI hK
                  have d17 : vs 17 = .int .i64 (t : Int) := hD 17 (by decide)
                  clear hD hI
                  simp only [putAll, Nat.zero_add, Nat.reduceAdd, Act.put, List.setIfInBounds_toArray, List.set_cons_succ, List.set_cons_zero] at hK ⊢
                  generalize vs 17 = v17 at hK d17 ⊢
                  subst v17
                  go_wp2
                  exact hK _ _ rfl (fun _ _ _ h => h) (fun _ _ h => h) (Mod.refl _ _)
                refine opsOkO_cons ?_ ?_
                · intro K vs W hR hD hI hK
                  have d16 : vs 16 = .slice a0 m c0 := hD 16 (by decide)
                  have d18 : vs 18 = .int .i64 (12 + (t : Int)) := hD 18 (by decide)
                  clear hD hI
                  simp only [putAll, Nat.zero_add, Nat.reduceAdd, Act.put, List.setIfInBounds_toArray, List.set_cons_succ, List.set_cons_zero] at hK ⊢
                  generalize vs 16 = v16 at hK d16 ⊢
                  subst v16
                  generalize vs 18 = v18 at hK d18 ⊢
                  subst v18
                  have hl' := HL.out W hR
                  go_wp2_with (go_at_call 36; refine (at_q W a0 m c0 l hlm.out hl' (i := 12 + t) (n := 40) (by omega) (by simp) (by omega) (by omega) (by omega) HRC.out).mono ?_; rintro e' w' ⟨rfl, hm'⟩)
                  exact hK _ _ rfl (fun j u _ h => HST j u _ _ h hm') (fun _ _ h => TR.keep h hm') (hm'.mono (fun _ _ e => e.elim))
                refine opsOkO_cons ?_ ?_
                · intro K vs W hR hD hI hK
                  have d19 : vs 19 = .int .i64 (rc : Int) := hD 19 (by decide)
                  clear hD hI
                  simp only [putAll, Nat.zero_add, Nat.reduceAdd, Act.put, List.setIfInBounds_toArray, List.set_cons_succ, List.set_cons_zero] at hK ⊢
                  generalize vs 19 = v19 at hK d19 ⊢
                  subst v19
                  go_wp2
                  exact hK _ _ rfl (fun _ _ _ h => h) (fun _ _ h => h) (Mod.refl _ _)
                refine opsOkO_cons ?_ ?_
                · intro K vs W hR hD hI hK
                  have d8 : vs 8 = .int .i64 (ra : Int) := hD 8 (by decide)
                  have d15 : vs 15 = .int .i64 (rb : Int) := hD 15 (by decide)
                  have d20 : vs 20 = .int .i64 (1 + (rc : Int)) := hD 20 (by decide)
                  clear hD hI
                  simp only [putAll, Nat.zero_add, Nat.reduceAdd, Act.put, List.setIfInBounds_toArray, List.set_cons_succ, List.set_cons_zero] at hK ⊢
                  generalize vs 8 = v8 at hK d8 ⊢
                  subst v8
                  generalize vs 15 = v15 at hK d15 ⊢
                  subst v15
                  generalize vs 20 = v20 at hK d20 ⊢
                  subst v20
                  go_wp2
                  exact hK _ _ rfl (fun _ _ _ h => h) (fun _ _ h => h) (Mod.refl _ _)
                refine opsOkO_cons ?_ ?_
                · intro K vs W hR hD hI hK
                  have d21 : vs 21 = .agg #[.int .i64 (ra : Int), .int .i64 (rb : Int), .int .i64 (1 + (rc : Int))] := hD 21 (by decide)
                  clear hD hI
                  simp only [putAll, Nat.zero_add, Nat.reduceAdd, Act.put, List.setIfInBounds_toArray, List.set_cons_succ, List.set_cons_zero] at hK ⊢
                  generalize vs 21 = v21 at hK d21 ⊢
                  subst v21
                  go_wp2
                  exact hK _ _ ⟨_, rfl, by exact Rd.litN _ _ _ _ _ 1 rfl rfl (by decide)⟩ (fun j u _ h => HST j u _ _ h (Mod.alloc _ _ _)) (fun _ _ h => TR.keep h (Mod.alloc _ _ _)) (Mod.alloc _ _ _)
                refine opsOkO_cons ?_ ?_
                · intro K vs W hR hD hI hK
                  have d1 : vs 1 = zE := hD 1 (by decide)
                  have d22 : (NewRw 3 (c3 ((ra : Int), (rb : Int), 1 + (rc : Int)))) (vs 22) W := hD 22 (by decide)
                  clear hD
                  replace hI := hI rfl
                  simp only [putAll, Nat.zero_add, Nat.reduceAdd, Act.put, List.setIfInBounds_toArray, List.set_cons_succ, List.set_cons_zero] at hK ⊢
                  generalize vs 1 = v1 at hK d1 ⊢
                  subst v1
                  generalize vs 22 = v22 at hK d22 ⊢
                  have hz' := HZ.out W hR
                  obtain ⟨g, rfl, hn'⟩ := d22
                  have hrow := hI.o2
                  go_wp2_with (at_builtin; refine wpList_append_any rfl (.tmp 133) (.tmp 154) 25 rfl 43 iE (.agg #[.int .i64 0, .int .i64 0, .int .i64 0]) 3 24 Try.underlying25 hiE hzE hsE hbE rfl (by decide) zE EE.length (EE.flatMap c3) rfl (Own.base hrow (Nat.zero_le _)) _ 1 (c3 ((ra : Int), (rb : Int), 1 + (rc : Int))) rfl hn' (by intro u hu; simp [c3] at hu; rcases hu with rfl | rfl | rfl <;> rfl) (by unfold maxLen; omega) (by omega) ?_; intro v' w' hap)
                  refine hK _ _ ⟨TR.pushE hI hz' (by rw [c3_snoc]; exact hap), Nat.le_trans hz' hap.mod.size⟩ (fact_solid HSO 23 (by kernel_rfl)) (fun h _ => absurd rfl h) (hap.mod.mono (fun k _ e => hI.low2 k e))
                refine opsOkO_cons ?_ ?_
                · intro K vs W hR hD hI hK
                  clear hD hI
                  simp only [putAll, Nat.zero_add, Nat.reduceAdd, Act.put, List.setIfInBounds_toArray, List.set_cons_succ, List.set_cons_zero] at hK ⊢
                  go_wp2
                  exact hK _ _ rfl (fun _ _ _ h => h) (fun _ _ h => h) (Mod.refl _ _)
                exact opsOkO_nil
              · intro vs W hR hF
                have d23 : (fun v W => TR B0 sN v sB N (EE ++ [((ra : Int), (rb : Int), 1 + (rc : Int))]) [] W ∧ B0 ≤ W.heap.size) (vs 23) W := hF 23 (by decide) (by decide)
                have d24 : vs 24 = .pointer (some ⟨p, 1, none⟩) := hF 24 (by decide) (by decide)
                clear hF
                simp only [putAll, Nat.zero_add, Nat.reduceAdd, Act.put, List.setIfInBounds_toArray, List.set_cons_succ, List.set_cons_zero]
                generalize vs 23 = v23 at d23 ⊢
                generalize vs 24 = v24 at d24 ⊢
                subst v24
                obtain ⟨ax, cx, rfl⟩ := own_form d23.1.o2
                have hpb := HC.out W hR
                have k0 := hpb.cell 1 rfl
                have k1 := hpb.free 1
                have hsz := HSZ.out
                have HTN := Lib.hid (TL.put 1 hpb (HCQ.out W hR) d23.1 (HMO.out W hR) d23.2 hsz.2.2 (by omega) (by omega) rfl)
                obtain ⟨nn, hnn⟩ : ∃ nn, (EE ++ [((ra : Int), (rb : Int), 1 + (rc : Int))]).length = nn := ⟨_, rfl⟩
                rw [hnn] at HTN ⊢
                clear d23 hpb hR hT0 hsz hnn
                go_wp2_with fail
                go_roundw
                case rel => exact ⟨t + 1, .slice ax nn cx, hlt2, by go_num, by rw [HEE.out, HSB.out]; exact HTN.out⟩
                case measure => simp [intOf]; omega
            · obtain rfl : t = x3 := by omega
              have HTX : Hid (E1 ++ tXs l t = tEx l) := Lib.hid (by unfold tEx; rw [HPP.out, HX3.out])
              go_wp2_with fail
              refine (at_q wr a0 m c0 l hlm.out hr3 (i := 3) (n := 4) (by simp) (by simp) (by omega) (by omega) (by omega) HX3.out).mono ?_
              rintro e w3 ⟨rfl, hm3⟩
              have hTL := HTL.out.keep hm3
              rw [HTX.out] at hTL
              obtain ⟨EX, hEX⟩ : ∃ E, tEx l = E := ⟨_, rfl⟩
              rw [hEX] at hTL
              have HEX := Lib.hid hEX
              obtain ⟨z2a, z2c, rfl⟩ := own_form hTL.tr.o2
              have HTL3 := Lib.hid hTL
              have c1 := hTL.pb.cell 1 rfl
              have f1 := hTL.pb.free 1
              have hpz := hTL.pb.lt
              clear hr3 hm3 HTL hTL hEX
              go_upto_if 160 with fail
              go_cut [160] (fun _ wx => ∃ zE, TL w p q B0 sN zE (.slice none 0 0) N (tE l) [] wx)
              case first =>
                by_cases h0 : EX.length = 0
                · have HH0 := Lib.hid h0
                  have d0 : ((EX.length : Int) == 0) = true := by simp [h0]
                  have hTN : TL w p q B0 sN (.slice (some ⟨w3.heap.size, 0, none⟩) 1 1) (.slice none 0 0) N [(0, 0, 3)] [] ((w3.setCell ⟨p, 1, none⟩ (.slice (some ⟨w3.heap.size, 0, none⟩) 1 1)).alloc (.cells #[.int .i64 0, .int .i64 0, .int .i64 3] 43)) := by
                    have h := HTL3.out
                    have hz := h.sz
                    have hs := HSZ.out
                    have hm1 := Mod.setCell (F := fun k => k = p) w3 ⟨p, 1, none⟩ (.slice (some ⟨w3.heap.size, 0, none⟩) 1 1) rfl
                    refine ⟨(h.pb.set 1 _).alloc _, (h.qb.setOther _ _ (by show q ≠ p; omega)).alloc _, ⟨Own.keep (Own.keep h.tr.o1 hm1 (fun k hk e => by have := h.tr.low1 k hk; omega)) (Mod.alloc (fun _ => False) _ _) (fun _ _ e => e), ?_, World.ownsRow_nil _ _ _ _, fun x hx e => ?_, fun x hx e => (by cases e), fun x hx e => (by cases e)⟩, (h.md.thenSet _ _ (fun e => by simp only at e; omega)).thenAlloc _, by simp; omega⟩
                    · refine ⟨rfl, .inr ⟨w3.heap.size, 1, #[.int .i64 0, .int .i64 0, .int .i64 3], rfl, hz, ?_, Nat.le_refl _, by decide, rfl, rfl⟩⟩
                      have := heap_alloc_new (w3.setCell ⟨p, 1, none⟩ (.slice (some ⟨w3.heap.size, 0, none⟩) 1 1)) (.cells #[.int .i64 0, .int .i64 0, .int .i64 3] 43)
                      simpa using this
                    · have := (h.tr.o1.lt x hx).2; simp [Value.ownBlock] at e; omega
                  have HTN := Lib.hid hTN
                  clear hTN h0
                  go_wp2_with fail
                  go_meet
                  exact ⟨_, by unfold tE; rw [HEX.out, if_pos HH0.out]; exact HTN.out⟩
                · have d0 : ((EX.length : Int) == 0) = false := by rw [beq_eq_false_iff_ne]; omega
                  have HH0 := Lib.hid h0
                  clear h0
                  go_wp2_with fail
                  go_meet
                  exact ⟨_, by unfold tE; rw [HEX.out, if_neg (by have := HH0.out; omega)]; exact HTL3.out⟩
              case rest =>
                obtain ⟨zE, hTL⟩ := hcut
                obtain ⟨ea, ec, rfl⟩ := own_form hTL.tr.o2
                obtain ⟨EE, hEE⟩ : ∃ E, tE l = E := ⟨_, rfl⟩
                have hEl := tE_len l
                rw [hEE] at hTL hEl
                obtain ⟨ne, hne⟩ : ∃ n, EE.length = n := ⟨_, rfl⟩
                rw [hne] at hTL hEl
                have HEE := Lib.hid hEE
                have HNE := Lib.hid hne
                have HT6 := Lib.hid hTL
                clear c1 f1 hpz HTL3 hTL hEE hne
                go_wp2_with fail
                go_loopw [12] (fun i wr => ∃ (a : Nat) (zB : Value), a ≤ ne ∧ i = .int .i64 a ∧ TL w p q B0 sN (.slice ea ne ec) zB N EE (tB l EE a) wr) (fun i _ => ne - (intOf i).toNat)
                case atStart => exact ⟨0, _, by omega, rfl, by have := HT6.out; simpa [tB] using this⟩
                case round =>
                  obtain ⟨a, zB, ha, rfl, hTL⟩ := hrel
                  have HTL := Lib.hid hTL
                  have c1 := hTL.pb.cell 1 rfl
                  clear hTL
                  by_cases hlt3 : a < ne
                  · have d0 : decide ((a : Int) < (ne : Int)) = true := by simp; omega
                    go_wp2_with fail
                    go_loopw [13] (fun i wr => ∃ (b : Nat) (zC : Value), b ≤ ne ∧ i = .int .i64 b ∧ TL w p q B0 sN (.slice ea ne ec) zC N EE (tB l EE a ++ tBi l EE a b) wr) (fun i _ => ne - (intOf i).toNat)
                    case atStart => exact ⟨0, zB, by omega, rfl, by have := HTL.out; simpa [tBi] using this⟩
                    case round =>
                      obtain ⟨b, zC, hb, rfl, hTL⟩ := hrel
                      clear c1
                      have c1 := hTL.pb.cell 1 rfl
                      by_cases hlt4 : b < ne
                      · have d1 : decide ((b : Int) < (ne : Int)) = true := by simp; omega
                        have hal : a < EE.length := by rw [HNE.out]; exact hlt3
                        have hbl : b < EE.length := by rw [HNE.out]; exact hlt4
                        have hre : Rd wr 3 (.slice ea ne ec) ne (EE.flatMap c3) := by have := Rd.ofOwn hTL.tr.o2; rwa [HNE.out] at this
                        obtain ⟨ba, oa, hpa, _, xa, _⟩ := rd3 hre a hal
                        obtain ⟨bb, ob, hpb, xb, _, _⟩ := rd3 hre b hbl
                        have hixa := fun wx => run_indexS (P := Try.prog) wx 25 43 iE 3 Try.underlying25 hiE hsE ea ne ec a hlt3 (hre.some_ (by omega))
                        have hixb := fun wx => run_indexS (P := Try.prog) wx 25 43 iE 3 Try.underlying25 hiE hsE ea ne ec b hlt4 (hre.some_ (by omega))
                        rw [hpa] at hixa
                        rw [hpb] at hixb
                        have hk : Hid (tBk l EE a b = if EE[a].2.1 = EE[b].1 ∧ atL l (7 * a + b) 9 = 0 then [((a : Int), (b : Int))] else []) := Lib.hid (by unfold tBk; rw [e3_eq EE hal, e3_eq EE hbl])
                        have hks : Hid (tB l EE a ++ tBi l EE a (b + 1) = (tB l EE a ++ tBi l EE a b) ++ tBk l EE a b) := Lib.hid (by rw [List.append_assoc]; simp [tBi, List.range_succ])
                        obtain ⟨u, hu⟩ : ∃ u, EE[a].2.1 = u := ⟨_, rfl⟩
                        obtain ⟨v, hv⟩ : ∃ v, EE[b].1 = v := ⟨_, rfl⟩
                        rw [hu, hv] at hk
                        rw [hu] at xa
                        rw [hv] at xb
                        obtain ⟨r, hr9⟩ : ∃ r, atL l (7 * a + b) 9 = r := ⟨_, rfl⟩
                        rw [hr9] at hk
                        have HR9 := Lib.hid hr9
                        have HTL := Lib.hid hTL
                        have hrq : Hid (∀ n, Rd (wr.drewN n) 1 (.slice a0 m c0) m (l.map (Value.int .i64))) := Lib.hid fun n => HR.out _ (hTL.md.trans (Mod.drewN (fun _ => False) wr n) (fun _ _ e => e) (fun _ _ e => e))
                        clear hu hv hpa hpb hr9 hre hTL d0
                        by_cases huv : u = v
                        · have q3 : (u == v) = true := by simpa using huv
                          have HUV := Lib.hid huv
                          clear huv
                          by_cases hr0 : r = 0
                          · have q4 : ((r : Int) == 0) = true := by simp [hr0]
                            have HR0 := Lib.hid hr0
                            clear hr0
                            go_wp2_with fail
                            go_quiet ((go_at_call 36; exact Calls.quiet_of (at_qq _ a0 m c0 l hlm.out (hrq.out _) (i := 7 * a + b) (n := 9) (by omega) (by simp) (by omega) (by omega) (by omega) HR9.out)))
                            have hTL := HTL.out.keep (Mod.drewN (fun _ => False) wr nq)
                            clear HTL c1 xa xb hixa hixb hrq
                            obtain ⟨BB, hBB⟩ : ∃ B, tB l EE a ++ tBi l EE a b = B := ⟨_, rfl⟩
                            have hBl : BB.length ≤ 5000 := by rw [← hBB, List.length_append]; have h1 := tBi_crude l EE a b; have h2 := tB_crude l EE a; rw [HNE.out] at h2; have := Nat.mul_le_mul (show a ≤ 67 by omega) (show ne ≤ 67 by omega); omega
                            rw [hBB] at hTL
                            have HBB := Lib.hid hBB
                            obtain ⟨wq, hwq⟩ : ∃ wq, wr.drewN nq = wq := ⟨_, rfl⟩
                            rw [hwq] at hTL ⊢
                            clear hwq hBB
                            have k2 := hTL.pb.cell 2 rfl
                            have HTL := Lib.hid hTL
                            have hps := hTL.pb.lt
                            clear hTL
                            go_wp2_with (at_builtin; refine wpList_append_any rfl (.tmp 201) (.tmp 205) 26 rfl 81 iB (.agg #[.int .i64 0, .int .i64 0]) 2 16 Try.underlying26 hiB hzB hsB hbB rfl (by decide) zC BB.length (BB.flatMap c2) rfl (Own.base (HTL.out.keep (Mod.alloc (fun _ => False) wq _)).tr.o3 (Nat.zero_le _)) _ 1 (c2 ((a : Int), (b : Int))) rfl (by exact Rd.litN _ _ _ _ _ 1 rfl rfl (by decide)) (by intro x hx; simp [c2] at hx; rcases hx with rfl | rfl <;> rfl) (by unfold maxLen; omega) (by omega) ?_; intro v' w' hap; have hTA := HTL.out.keep (Mod.alloc (fun _ => False) wq (.cells #[.int .i64 (a : Int), .int .i64 (b : Int)] 81)); have hsz := HSZ.out; have hlow : ∀ x, zC.ownBlock = some x → B0 ≤ x := hTA.tr.low3; have hpb := hTA.pb.keep hap.mod (fun e => by have := hlow p e; omega); have hqb := hTA.qb.keep hap.mod (fun e => by have := hlow q e; omega); have hmd := hTA.md.trans hap.mod (H := fun _ => False) (fun _ _ e => e) (fun i hi e => by have := hlow i e; show False; omega); have hTR := TR.pushB (x := ((a : Int), (b : Int))) hTA.tr hTA.sz (by rw [c2_snoc]; exact hap); have hzz := Nat.le_trans hTA.sz hap.mod.size; obtain ⟨ax, cx, rfl⟩ := hap.form; have HTN := Lib.hid (TL.put 2 hpb hqb hTR hmd hzz hsz.2.2 (by omega) (by omega) rfl); have k2' := hpb.cell 2 rfl; have f2' := hpb.free 2; clear hap hTA hlow hpb hqb hmd hTR hzz hsz k2 hps HTL)
                            go_roundw
                            case rel => exact ⟨b + 1, _, hlt4, by go_num, by rw [hks.out, hk.out, if_pos ⟨HUV.out, HR0.out⟩, HBB.out]; exact HTN.out⟩
                            case measure => simp [intOf]; omega
                          · have q4 : ((r : Int) == 0) = false := by rw [beq_eq_false_iff_ne]; omega
                            have HR0 := Lib.hid hr0
                            clear hr0
                            go_wp2_with fail
                            go_quiet ((go_at_call 36; exact Calls.quiet_of (at_qq _ a0 m c0 l hlm.out (hrq.out _) (i := 7 * a + b) (n := 9) (by omega) (by simp) (by omega) (by omega) (by omega) HR9.out)))
                            go_wp2_with fail
                            go_roundw
                            case rel => exact ⟨b + 1, zC, hlt4, by go_num, by rw [hks.out, hk.out, if_neg (fun h => HR0.out h.2), List.append_nil]; exact HTL.out.keep (Mod.drewN (fun _ => False) wr nq)⟩
                            case measure => simp [intOf]; omega
                        · have q3 : (u == v) = false := by rw [beq_eq_false_iff_ne]; exact huv
                          have HUV := Lib.hid huv
                          clear huv
                          go_wp2_with fail
                          go_quiet (fail)
                          go_wp2_with fail
                          go_roundw
                          case rel => exact ⟨b + 1, zC, hlt4, by go_num, by rw [hks.out, hk.out, if_neg (fun h => HUV.out h.1), List.append_nil]; exact HTL.out.keep (Mod.drewN (fun _ => False) wr nq)⟩
                          case measure => simp [intOf]; omega
                      · obtain rfl : b = ne := by omega
                        have HTLb := Lib.hid hTL
                        clear hTL
                        go_wp2_with fail
                        go_roundw
                        case rel => exact ⟨a + 1, zC, hlt3, by go_num, by rw [tB_succ, HNE.out]; exact HTLb.out⟩
                        case measure => simp [intOf]; omega
                  · obtain rfl : a = ne := by omega
                    have hTL := HTL.out
                    obtain ⟨na, nc, rfl⟩ := own_form hTL.tr.o1
                    obtain ⟨ba, bc, rfl⟩ := own_form hTL.tr.o3
                    have hNN : Hid (N = (townG l).N) := Lib.hid (by rw [← HN.out]; show _ = tN l (tw l * th l); rw [HWV.out, HHV.out, HP.out])
                    have hEE' : Hid (EE = (townG l).E) := Lib.hid HEE.out.symm
                    have hBB' : Hid (tB l EE a = (townG l).B) := Lib.hid (by rw [← HNE.out, ← HEE.out]; rfl)
                    have k0 := hTL.pb.cell 0 rfl
                    have k2 := hTL.pb.cell 2 rfl
                    have g0 := hTL.qb.cell 0 rfl
                    have g1 := hTL.qb.cell 1 rfl
                    have g2 := hTL.qb.cell 2 rfl
                    have f0 := hTL.qb.free 0
                    have f1 := hTL.qb.free 1
                    have f2 := hTL.qb.free 2
                    have hql := hTL.qb.lt
                    have hpq : p ≠ q := by have := HSZ.out; omega
                    obtain ⟨nn, hnn⟩ : ∃ x, N.length = x := ⟨_, rfl⟩
                    obtain ⟨bn, hbn⟩ : ∃ x, (tB l EE a).length = x := ⟨_, rfl⟩
                    rw [hnn] at k0
                    rw [hbn] at k2
                    have HNN := Lib.hid hnn
                    have HBN := Lib.hid hbn
                    clear hTL hnn hbn
                    go_wp2_with fail
                    have hTL := HTL.out
                    rw [HNN.out, HBN.out] at hTL
                    have hS : Mod (fun k => k = q) wr (((wr.setCell ⟨q, 0, none⟩ (.slice na nn nc)).setCell ⟨q, 1, none⟩ (.slice ea a ec)).setCell ⟨q, 2, none⟩ (.slice ba bn bc)) :=
                      ((Mod.setCell (F := fun k => k = q) wr ⟨q, 0, none⟩ _ rfl).thenSet ⟨q, 1, none⟩ _ (fun _ => rfl)).thenSet ⟨q, 2, none⟩ _ (fun _ => rfl)
                    have hTR := hTL.tr.keepF hS (fun x e => by have := HSZ.out; omega)
                    have hM := hTL.md.trans hS (H := fun _ => False) (fun _ _ e => e) (fun i hi e => by have := HSZ.out; show False; omega)
                    have b2 := ((hTL.qb.set 0 (.slice na nn nc)).set 1 (.slice ea a ec)).set 2 (.slice ba bn bc)
                    (try simp only [Exit.inBlock, Exit.then])
                    refine bodyPost_ret (results_cell_row rfl _ _ q 28 #[.slice na nn nc, .slice ea a ec, .slice ba bn bc] (0, 0) _ rfl b2 Try.underlying28 rfl (by kernel_rfl)) rfl ?_
                    have hB := HSZ.out
                    rw [hNN.out, hBB'.out, hEE'.out] at hTR
                    exact ⟨na, nn, nc, ea, a, ec, ba, bn, bc, rfl, by rw [← hNN.out]; exact HNN.out, by rw [← hEE'.out]; exact HNE.out, by rw [← hBB'.out]; exact HBN.out, ⟨Own.base hTR.o1 (by omega), Own.base hTR.o2 (by omega), Own.base hTR.o3 (by omega), hTR.d12, hTR.d13, hTR.d23⟩, hM⟩
end Go.Proofs.Ytbjdjafkpldbnaa
