/- milepostref24's Round and at (of town.go) by contract. -/
import Derived.Test.YtbjdjafkpldbnaaRows
import Derived.Test.YtbjdjafkpldbnaaBase2
import Derived.Deep.QuietTactic
import Derived.BigQuiet
import Derived.Lib.Hide
import Derived.Test.YtbjdjafkpldbnaaKGr
namespace Mile
/-- The i-th of some numbers, from 0 to ahead of n. -/
def atL (l : List Int) (i n : Nat) : Nat := if l = [] then 0 else (((l.getD (i % l.length) 0).tmod 1000003 + ((i / l.length : Nat) : Int)) % (n : Int)).toNat
theorem atL_lt (l : List Int) (i n : Nat) (h : 0 < n) : atL l i n < n := by
  unfold atL
  split
  · exact h
  · have h1 := Int.emod_nonneg ((l.getD (i % l.length) 0).tmod 1000003 + ((i / l.length : Nat) : Int)) (show (n : Int) ≠ 0 by omega)
    have h2 := Int.emod_lt_of_pos ((l.getD (i % l.length) 0).tmod 1000003 + ((i / l.length : Nat) : Int)) (show (0 : Int) < n by omega)
    omega
end Mile
namespace Go.Proofs.Ytbjdjafkpldbnaa
open Go.RowKit Mile
set_option maxRecDepth 100000
theorem T1.info : (Try.prog.info? 3).map (fun i => (i.zero, i.size, i.bytes)) = some (some (.int .i64 0), 1, 8) := by kernel_rfl

theorem round24_any (k n : Int) (w : World) (h1 : 0 < n) (h2 : n ≤ 4611686018427387904) : Calls Try.prog 22 #[.int .i64 k, .int .i64 n] w fun e w' => e = .returned (.int .i64 (k % n)) ∧ w' = w := by
  have t1 : -n < k.tmod n := by have := Int.tmod_lt_of_pos (-k) h1; rw [Int.neg_tmod] at this; omega
  have t2 : k.tmod n < n := Int.tmod_lt_of_pos k h1
  have t3 : k % n = if k.tmod n < 0 then k.tmod n + n else k.tmod n := by
    rw [Int.tmod_eq_emod]
    have e1 := Int.emod_nonneg k (show n ≠ 0 by omega)
    have e2 := Int.emod_lt_of_pos k h1
    split <;> split <;> first | omega | (rw [Int.natAbs_of_nonneg (by omega)] at *; omega)
  have hn0 : (n == 0) = false := by simp; omega
  by_cases hz : k.tmod n < 0
  · rw [if_pos hz] at t3
    have T3 := Lib.hid t3
    clear t3
    go_enter Try.func22, Try.ntmps22
    go_wp2
    go_ret
    exact ⟨by rw [T3.out]; rfl, rfl⟩
  · rw [if_neg hz] at t3
    have T3 := Lib.hid t3
    clear t3
    go_enter Try.func22, Try.ntmps22
    go_wp2
    go_ret
    exact ⟨by rw [T3.out]; rfl, rfl⟩
theorem round24_q {k n r : Int} (h : k % n = r) (w : World) (h1 : 0 < n) (h2 : n ≤ 4611686018427387904) : Calls Try.prog 22 #[.int .i64 k, .int .i64 n] w fun e w' => e = .returned (.int .i64 r) ∧ w' = w := by
  rw [← h]; exact round24_any k n w h1 h2

set_option maxHeartbeats 2000000 in
set_option maxRecDepth 100000 in
/-- at: what it tells, by atL; of memory nothing is turned. -/
theorem at_quiet (w : World) (a : Option Addr) (m c : Nat) (l : List Int) (hm : l.length = m) (hr : Rd w 1 (.slice a m c) m (l.map (Value.int .i64))) (i n : Nat) (hi : i ≤ 1000000000) (hn : 0 < n) (hn2 : n ≤ 1000000000) :
    Calls Try.prog 36 #[.slice a m c, .int .i64 i, .int .i64 n] w fun e w' => e = .returned (.int .i64 (atL l i n : Nat)) ∧ ∃ k, w' = w.drewN k := by
  obtain ⟨i3, hi3, hz3, hs3, hb3⟩ := info_parts T1.info
  obtain ⟨res, hres⟩ : ∃ r : Nat, atL l i n = r := ⟨_, rfl⟩
  rw [hres]
  have HRES := Lib.hid hres
  clear hres
  by_cases hz : m = 0
  · subst hz
    have h0 : l = [] := List.length_eq_zero_iff.1 hm
    subst h0
    have h9 : res = 0 := by have := HRES.out; unfold atL at this; simpa using this.symm
    clear HRES
    subst h9
    clear hm hr
    go_enter Try.func36, Try.ntmps36
    go_wp2
    go_ret
    exact ⟨rfl, 0, rfl⟩
  · have hmi : i % m < m := Nat.mod_lt _ (by omega)
    have hil : i % m < l.length := by omega
    have e1 : ((i : Int)).tmod (m : Int) = ((i % m : Nat) : Int) := by rw [Int.tmod_eq_emod_of_nonneg (by omega)]; rfl
    have e2 : ((i : Int)).tdiv (m : Int) = ((i / m : Nat) : Int) := by rw [Int.tdiv_eq_ediv_of_nonneg (by omega)]; rfl
    have hix := fun wx => run_indexS (P := Try.prog) wx 22 3 i3 1 Try.underlying22 hi3 hs3 a m c (i % m) hmi (hr.some_ (by omega))
    have cx : w.cell? (elemA a (i % m) 1) = some (.int .i64 l[i % m]) := hr.elem (by simp [hil])
    have hres2 : ((l[i % m].tmod 1000003 + ((i / m : Nat) : Int)) % (n : Int)) = (res : Int) := by
      have := HRES.out
      unfold atL at this
      rw [if_neg (by intro e; rw [e] at hm; simp at hm; omega), hm] at this
      simp only [List.getD, List.getElem?_eq_getElem hil, Option.getD_some] at this
      have h1 := Int.emod_nonneg (l[i % m].tmod 1000003 + ((i / m : Nat) : Int)) (show (n : Int) ≠ 0 by omega)
      omega
    obtain ⟨x, hx⟩ : ∃ x, l[i % m] = x := ⟨_, rfl⟩
    rw [hx] at cx hres2
    have u1 : x.tmod 1000003 < 1000003 := Int.tmod_lt_of_pos x (by omega)
    have u2 : -1000003 < x.tmod 1000003 := by have := Int.tmod_lt_of_pos (-x) (show (0 : Int) < 1000003 by omega); rw [Int.neg_tmod] at this; omega
    obtain ⟨u, hu⟩ : ∃ u, x.tmod 1000003 = u := ⟨_, rfl⟩
    rw [hu] at u1 u2 hres2
    have hq : i / m ≤ i := Nat.div_le_self _ _
    have hq2 : i % m ≤ i := Nat.mod_le _ _
    obtain ⟨im, him⟩ : ∃ y, i % m = y := ⟨_, rfl⟩
    obtain ⟨iq, hiq⟩ : ∃ y, i / m = y := ⟨_, rfl⟩
    rw [him] at e1 hix cx hq2
    rw [hiq] at e2 hres2 hq
    have hw : IntKind.i64.wrap (u + (iq : Int)) = u + (iq : Int) := IntWalk.i64_in _ (by omega)
    have m0 : ¬ (m : Int) = 0 := by omega
    have n1 : (0 : Int) < n := by omega
    have n2 : (n : Int) ≤ 4611686018427387904 := by omega
    clear hm hr hx HRES him hiq hmi hil hn hn2
    go_enter Try.func36, Try.ntmps36
    go_wp2_with fail
    go_quiet ((go_at_call 22; exact Calls.quiet_of_same (round24_q hres2 _ n1 n2)))
    go_wp2_with fail
    go_ret
    exact ⟨rfl, _, rfl⟩
theorem at_any (w : World) (a : Option Addr) (m c : Nat) (l : List Int) (hm : l.length = m) (hr : Rd w 1 (.slice a m c) m (l.map (Value.int .i64))) (i n : Nat) (hi : i ≤ 1000000000) (hn : 0 < n) (hn2 : n ≤ 1000000000) :
    Calls Try.prog 36 #[.slice a m c, .int .i64 i, .int .i64 n] w fun e w' => e = .returned (.int .i64 (atL l i n : Nat)) ∧ Mod (fun _ => False) w w' :=
  (at_quiet w a m c l hm hr i n hi hn hn2).mono fun _ _ ⟨h, _, hk⟩ => ⟨h, hk ▸ Mod.drewN _ _ _⟩
end Go.Proofs.Ytbjdjafkpldbnaa
namespace Mile
def tw (l : List Int) : Nat := 1 + atL l 0 4
def th (l : List Int) : Nat := 1 + atL l 1 4
def tNode (l : List Int) (i : Nat) : P2 := (((100 * (i % tw l) : Nat) : Int), ((100 * (i / tw l) + atL l (2 + i) 30 : Nat) : Int))
def tN (l : List Int) (n : Nat) : List P2 := (List.range n).map (tNode l)
def nxt (w h i k : Nat) : Int := if k = 0 then (if i % w < w - 1 then ((i + 1 : Nat) : Int) else -1) else (if i / w < h - 1 then ((i + w : Nat) : Int) else -1)
def tE1 (l : List Int) (i k : Nat) (x : Int) : List P3 := if atL l (20 + 3 * i + k) 8 = 1 then [] else [((i : Int), x, ((1 + atL l (60 + i + k) 9 : Nat) : Int))]
def tE2 (l : List Int) (i k : Nat) (x : Int) : List P3 := if atL l (20 + 3 * i + k) 8 = 2 then [] else [(x, (i : Int), ((1 + atL l (90 + i + k) 9 : Nat) : Int))]
def tEk (l : List Int) (i k : Nat) : List P3 := if nxt (tw l) (th l) i k < 0 then [] else tE1 l i k (nxt (tw l) (th l) i k) ++ tE2 l i k (nxt (tw l) (th l) i k)
def tEi (l : List Int) (i : Nat) : List P3 := tEk l i 0 ++ tEk l i 1
def tEs (l : List Int) (n : Nat) : List P3 := (List.range n).flatMap (tEi l)
def tX (l : List Int) (i : Nat) : P3 := (((atL l (4 + i) (tw l * th l) : Nat) : Int), ((atL l (8 + i) (tw l * th l) : Nat) : Int), ((1 + atL l (12 + i) 40 : Nat) : Int))
def tXs (l : List Int) (n : Nat) : List P3 := (List.range n).map (tX l)
def tEx (l : List Int) : List P3 := tEs l (tw l * th l) ++ tXs l (atL l 3 4)
def tE (l : List Int) : List P3 := if (tEx l).length = 0 then [(0, 0, 3)] else tEx l
def e3 (E : List P3) (a : Nat) : P3 := E.getD a (0, 0, 0)
def tBk (l : List Int) (E : List P3) (a b : Nat) : List P2 := if (e3 E a).2.1 = (e3 E b).1 ∧ atL l (7 * a + b) 9 = 0 then [((a : Int), (b : Int))] else []
def tBi (l : List Int) (E : List P3) (a n : Nat) : List P2 := (List.range n).flatMap (tBk l E a)
def tB (l : List Int) (E : List P3) (n : Nat) : List P2 := (List.range n).flatMap fun a => tBi l E a E.length
def townG (l : List Int) : GD := ⟨tN l (tw l * th l), tE l, tB l (tE l) (tE l).length⟩

theorem tw_le (l : List Int) : 1 ≤ tw l ∧ tw l ≤ 4 := by have := atL_lt l 0 4 (by omega); unfold tw; omega
theorem th_le (l : List Int) : 1 ≤ th l ∧ th l ≤ 4 := by have := atL_lt l 1 4 (by omega); unfold th; omega
theorem twh_le (l : List Int) : 1 ≤ tw l * th l ∧ tw l * th l ≤ 16 := by
  obtain ⟨a, b⟩ := tw_le l
  obtain ⟨c, d⟩ := th_le l
  exact ⟨Nat.mul_le_mul a c, Nat.mul_le_mul b d⟩
theorem twh_fin : ∀ w h : Fin 5, ∀ i : Fin 16, i.1 < w.1 * h.1 → (i.1 % w.1 < w.1 - 1 → i.1 + 1 < w.1 * h.1) ∧ (i.1 / w.1 < h.1 - 1 → i.1 + w.1 < w.1 * h.1) ∧ i.1 % w.1 ≤ 3 ∧ i.1 / w.1 ≤ 3 := by decide +kernel
theorem twh_all (w : Nat) (hw : w < 5) (h : Nat) (hh : h < 5) (i : Nat) (hi : i < 16) (hl : i < w * h) : (i % w < w - 1 → i + 1 < w * h) ∧ (i / w < h - 1 → i + w < w * h) ∧ i % w ≤ 3 ∧ i / w ≤ 3 := twh_fin ⟨w, hw⟩ ⟨h, hh⟩ ⟨i, hi⟩ hl
theorem twh_at (l : List Int) {i : Nat} (hi : i < tw l * th l) : (i % tw l < tw l - 1 → i + 1 < tw l * th l) ∧ (i / tw l < th l - 1 → i + tw l < tw l * th l) ∧ i % tw l ≤ 3 ∧ i / tw l ≤ 3 :=
  twh_all (tw l) (by have := tw_le l; omega) (th l) (by have := th_le l; omega) i (by have := twh_le l; omega) hi

theorem nxt_lt (l : List Int) {i k : Nat} (hi : i < tw l * th l) : nxt (tw l) (th l) i k < ((tw l * th l : Nat) : Int) := by
  obtain ⟨h1, h2, _⟩ := twh_at l hi
  unfold nxt
  split <;> split <;> rename_i h <;> first | (have := h1 h; omega) | (have := h2 h; omega) | omega

theorem tE1_ok (l : List Int) {i k N : Nat} {x : Int} (hi : i < N) (h0 : 0 ≤ x) (hx : x < N) : ∀ e ∈ tE1 l i k x, EdgeOk N e := by
  intro e he
  unfold tE1 at he
  split at he
  · cases he
  · rw [List.mem_singleton] at he
    subst he
    have := atL_lt l (60 + i + k) 9 (by omega)
    refine ⟨⟨?_, ?_⟩, ⟨?_, ?_⟩, ?_, ?_⟩ <;> simp only <;> omega
theorem tE2_ok (l : List Int) {i k N : Nat} {x : Int} (hi : i < N) (h0 : 0 ≤ x) (hx : x < N) : ∀ e ∈ tE2 l i k x, EdgeOk N e := by
  intro e he
  unfold tE2 at he
  split at he
  · cases he
  · rw [List.mem_singleton] at he
    subst he
    have := atL_lt l (90 + i + k) 9 (by omega)
    refine ⟨⟨?_, ?_⟩, ⟨?_, ?_⟩, ?_, ?_⟩ <;> simp only <;> omega
theorem tEk_ok (l : List Int) {i k : Nat} (hi : i < tw l * th l) : ∀ e ∈ tEk l i k, EdgeOk (tw l * th l) e := by
  intro e he
  unfold tEk at he
  have hn := nxt_lt l (k := k) hi
  split at he
  · cases he
  · rw [List.mem_append] at he
    rcases he with he | he
    · exact tE1_ok l hi (by omega) hn e he
    · exact tE2_ok l hi (by omega) hn e he
theorem tX_ok (l : List Int) (i : Nat) : EdgeOk (tw l * th l) (tX l i) := by
  have h0 := (twh_le l).1
  have h1 := atL_lt l (4 + i) (tw l * th l) (by omega)
  have h2 := atL_lt l (8 + i) (tw l * th l) (by omega)
  have h3 := atL_lt l (12 + i) 40 (by omega)
  unfold tX
  refine ⟨⟨?_, ?_⟩, ⟨?_, ?_⟩, ?_, ?_⟩ <;> simp only <;> omega
theorem tE_ok (l : List Int) : ∀ e ∈ tE l, EdgeOk (tw l * th l) e := by
  intro e he
  unfold tE at he
  split at he
  · rw [List.mem_singleton] at he
    subst he
    have := (twh_le l).1
    refine ⟨⟨?_, ?_⟩, ⟨?_, ?_⟩, ?_, ?_⟩ <;> simp only <;> omega
  · unfold tEx tEs tXs at he
    rw [List.mem_append, List.mem_flatMap, List.mem_map] at he
    rcases he with ⟨i, hi, he⟩ | ⟨i, _, rfl⟩
    · rw [List.mem_range] at hi
      unfold tEi at he
      rw [List.mem_append] at he
      rcases he with he | he <;> exact tEk_ok l hi e he
    · exact tX_ok l i

theorem tE1_len (l : List Int) (i k : Nat) (x : Int) : (tE1 l i k x).length ≤ 1 := by unfold tE1; split <;> simp
theorem tE2_len (l : List Int) (i k : Nat) (x : Int) : (tE2 l i k x).length ≤ 1 := by unfold tE2; split <;> simp
theorem tEk_len (l : List Int) (i k : Nat) : (tEk l i k).length ≤ 2 := by
  unfold tEk
  split
  · simp
  · rw [List.length_append]
    have := tE1_len l i k (nxt (tw l) (th l) i k)
    have := tE2_len l i k (nxt (tw l) (th l) i k)
    omega
theorem tEi_len (l : List Int) (i : Nat) : (tEi l i).length ≤ 4 := by
  unfold tEi
  rw [List.length_append]
  have := tEk_len l i 0
  have := tEk_len l i 1
  omega
theorem tEs_len (l : List Int) : ∀ n, (tEs l n).length ≤ 4 * n
  | 0 => by simp [tEs]
  | n + 1 => by
    have := tEs_len l n
    have := tEi_len l n
    unfold tEs at *
    rw [List.range_succ, List.flatMap_append, List.length_append, List.flatMap_singleton]
    omega
theorem tXs_len (l : List Int) (n : Nat) : (tXs l n).length = n := by simp [tXs]
theorem tE_len (l : List Int) : 1 ≤ (tE l).length ∧ (tE l).length ≤ 67 := by
  unfold tE
  split
  · simp
  · rename_i h
    refine ⟨by omega, ?_⟩
    unfold tEx
    rw [List.length_append, tXs_len]
    have := tEs_len l (tw l * th l)
    have := (twh_le l).2
    have := atL_lt l 3 4 (by omega)
    omega

/-- How many begin at a node. -/
def outs (v : Int) (E : List P3) : Nat := (E.filter fun e => e.1 == v).length
theorem outs_append (v : Int) (A B : List P3) : outs v (A ++ B) = outs v A + outs v B := by unfold outs; rw [List.filter_append, List.length_append]
theorem outs_le (v : Int) (A : List P3) : outs v A ≤ A.length := by unfold outs; exact List.length_filter_le _ _
theorem outs_tEk (l : List Int) (i k : Nat) (v : Int) : outs v (tEk l i k) ≤ (if v = i then 1 else 0) + (if v = nxt (tw l) (th l) i k then 1 else 0) := by
  unfold tEk
  split
  · simp [outs]
  · rw [outs_append]
    have h1 : outs v (tE1 l i k (nxt (tw l) (th l) i k)) ≤ if v = i then 1 else 0 := by
      unfold tE1 outs
      split
      · simp
      · by_cases e : v = i
        · rw [if_pos e, ← e]; simp
        · rw [if_neg e]; simp; exact fun h => e h.symm
    have h2 : outs v (tE2 l i k (nxt (tw l) (th l) i k)) ≤ if v = nxt (tw l) (th l) i k then 1 else 0 := by
      unfold tE2 outs
      split
      · simp
      · by_cases e : v = nxt (tw l) (th l) i k
        · rw [if_pos e, ← e]; simp
        · rw [if_neg e]; simp; exact fun h => e h.symm
    omega
/-- How many of the first ones come just so far behind. -/
theorem outs_tEs (l : List Int) (v : Nat) : ∀ n, outs v (tEs l n) ≤ 2 * (if v < n then 1 else 0) + (if v < n + 1 then 1 else 0) + (if v < n + tw l then 1 else 0)
  | 0 => by simp [tEs, outs]
  | n + 1 => by
    have ih := outs_tEs l v n
    have h0 := outs_tEk l n 0 v
    have h1 := outs_tEk l n 1 v
    have e0 : (if (v : Int) = nxt (tw l) (th l) n 0 then 1 else 0) ≤ if v = n + 1 then 1 else 0 := by
      unfold nxt
      simp only [if_true]
      split <;> split <;> (try split at *) <;> first | omega | (split <;> omega)
    have e1 : (if (v : Int) = nxt (tw l) (th l) n 1 then 1 else 0) ≤ if v = n + tw l then 1 else 0 := by
      unfold nxt
      simp only [show (1 : Nat) = 0 ↔ False by simp, if_false]
      split <;> split <;> (try split at *) <;> first | omega | (split <;> omega)
    have es : outs v (tEs l (n + 1)) = outs v (tEs l n) + (outs v (tEk l n 0) + outs v (tEk l n 1)) := by
      unfold tEs
      rw [List.range_succ, List.flatMap_append, outs_append, List.flatMap_singleton, tEi, outs_append]
    have tw1 := (tw_le l).1
    rw [es]
    have q : (if (v : Int) = (n : Int) then 1 else 0) = if v = n then 1 else 0 := by split <;> split <;> omega
    rw [q] at h0 h1
    have a1 : (if v < n + 1 then 1 else 0) = (if v < n then 1 else 0) + (if v = n then 1 else 0) := by repeat' split
                                                                                                       all_goals omega
    have a2 : (if v < n + 1 + 1 then 1 else 0) = (if v < n + 1 then 1 else 0) + (if v = n + 1 then 1 else 0) := by repeat' split
                                                                                                                   all_goals omega
    have a3 : (if v < n + 1 + tw l then 1 else 0) = (if v < n + tw l then 1 else 0) + (if v = n + tw l then 1 else 0) := by repeat' split
                                                                                                                            all_goals omega
    omega
theorem outs_tE (l : List Int) (v : Int) (hv : 0 ≤ v) : outs v (tE l) ≤ 7 := by
  obtain ⟨n, rfl⟩ := Int.eq_ofNat_of_zero_le hv
  unfold tE
  split
  · have := outs_le n [(0, 0, 3)]
    simp at this; omega
  · unfold tEx
    rw [outs_append]
    have h1 := outs_tEs l n (tw l * th l)
    have h2 := outs_le n (tXs l (atL l 3 4))
    rw [tXs_len] at h2
    have h3 := atL_lt l 3 4 (by omega)
    have : ∀ (c : Prop) [Decidable c], (if c then 1 else 0) ≤ 1 := fun c _ => by split <;> omega
    have := this (n < tw l * th l)
    have : (if n < tw l * th l + 1 then 1 else 0) ≤ 1 := by split <;> omega
    have : (if n < tw l * th l + tw l then 1 else 0) ≤ 1 := by split <;> omega
    omega

theorem e3_eq (E : List P3) {a : Nat} (h : a < E.length) : e3 E a = E[a] := by unfold e3; simp [List.getD, h]
theorem tBk_len (l : List Int) (E : List P3) (a b : Nat) : (tBk l E a b).length ≤ if (e3 E b).1 = (e3 E a).2.1 then 1 else 0 := by
  unfold tBk
  split
  · rename_i h; rw [if_pos h.1.symm]; simp
  · simp
theorem tBi_len (l : List Int) (E : List P3) (a : Nat) : ∀ n, n ≤ E.length → (tBi l E a n).length ≤ outs (e3 E a).2.1 (E.take n)
  | 0, _ => by simp [tBi]
  | n + 1, h => by
    have ih := tBi_len l E a n (by omega)
    have hk := tBk_len l E a n
    unfold tBi at *
    rw [List.range_succ, List.flatMap_append, List.length_append, List.flatMap_singleton, List.take_succ_eq_append_getElem (by omega), outs_append]
    have : outs (e3 E a).2.1 [E[n]] = if (e3 E n).1 = (e3 E a).2.1 then 1 else 0 := by
      rw [e3_eq E (show n < E.length by omega)]
      unfold outs
      split
      · rename_i h; simp [h]
      · rename_i h; simp [h]
    omega
theorem tB_len (l : List Int) (E : List P3) (hE : ∀ v, 0 ≤ v → outs v E ≤ 7) (h0 : ∀ e ∈ E, 0 ≤ e.2.1) : ∀ n, n ≤ E.length → (tB l E n).length ≤ 7 * n
  | 0, _ => by simp [tB]
  | n + 1, h => by
    have ih := tB_len l E hE h0 n (by omega)
    have hk := tBi_len l E n E.length (Nat.le_refl _)
    rw [List.take_length] at hk
    have hv : 0 ≤ (e3 E n).2.1 := by rw [e3_eq E (show n < E.length by omega)]; exact h0 _ (List.getElem_mem _)
    have := hE _ hv
    unfold tB at *
    rw [List.range_succ, List.flatMap_append, List.length_append, List.flatMap_singleton]
    omega

theorem mem_tBi {l : List Int} {E : List P3} {a n : Nat} {x : P2} (h : x ∈ tBi l E a n) : ∃ b, b < n ∧ x = ((a : Int), (b : Int)) ∧ (e3 E a).2.1 = (e3 E b).1 ∧ atL l (7 * a + b) 9 = 0 := by
  unfold tBi at h
  rw [List.mem_flatMap] at h
  obtain ⟨b, hb, h⟩ := h
  unfold tBk at h
  split at h
  · rename_i hc
    rw [List.mem_singleton] at h
    exact ⟨b, List.mem_range.1 hb, h, hc⟩
  · cases h
theorem mem_tB {l : List Int} {E : List P3} {n : Nat} {x : P2} (h : x ∈ tB l E n) : ∃ a b, a < n ∧ b < E.length ∧ x = ((a : Int), (b : Int)) ∧ (e3 E a).2.1 = (e3 E b).1 := by
  unfold tB at h
  rw [List.mem_flatMap] at h
  obtain ⟨a, ha, h⟩ := h
  obtain ⟨b, hb, h1, h2, _⟩ := mem_tBi h
  exact ⟨a, b, List.mem_range.1 ha, hb, h1, h2⟩
theorem tBi_rise (l : List Int) (E : List P3) (a : Nat) : ∀ n, (tBi l E a n).Pairwise blt
  | 0 => by simp [tBi]
  | n + 1 => by
    have ih := tBi_rise l E a n
    have hm : ∀ x ∈ tBi l E a n, ∃ b, b < n ∧ x = ((a : Int), (b : Int)) := fun x hx => by obtain ⟨b, h1, h2, _⟩ := mem_tBi hx; exact ⟨b, h1, h2⟩
    unfold tBi at *
    rw [List.range_succ, List.flatMap_append, List.flatMap_singleton, List.pairwise_append]
    refine ⟨ih, ?_, fun x hx y hy => ?_⟩
    · unfold tBk; split <;> simp
    · obtain ⟨b, hb, rfl⟩ := hm x hx
      unfold tBk at hy
      split at hy
      · rw [List.mem_singleton] at hy; subst hy
        exact .inr ⟨rfl, by simp only; omega⟩
      · cases hy
theorem tB_rise (l : List Int) (E : List P3) : ∀ n, (tB l E n).Pairwise blt
  | 0 => by simp [tB]
  | n + 1 => by
    have ih := tB_rise l E n
    have hm : ∀ x ∈ tB l E n, ∃ a b : Nat, a < n ∧ x = ((a : Int), (b : Int)) := fun x hx => by obtain ⟨a, b, h1, _, h2, _⟩ := mem_tB hx; exact ⟨a, b, h1, h2⟩
    unfold tB at *
    rw [List.range_succ, List.flatMap_append, List.flatMap_singleton, List.pairwise_append]
    refine ⟨ih, tBi_rise l E n _, fun x hx y hy => ?_⟩
    obtain ⟨a, b, hb, rfl⟩ := hm x hx
    obtain ⟨c, _, rfl, _⟩ := mem_tBi hy
    exact .inl (by simp only; omega)

theorem town_len (l : List Int) : (townG l).N.length = tw l * th l := by simp [townG, tN]
theorem town_few (l : List Int) : (1 ≤ (townG l).N.length ∧ (townG l).N.length ≤ 16) ∧ (1 ≤ (townG l).E.length ∧ (townG l).E.length ≤ 67) ∧ (townG l).B.length ≤ 469 := by
  refine ⟨by rw [town_len]; exact twh_le l, tE_len l, ?_⟩
  have h := tB_len l (tE l) (fun v hv => outs_tE l v hv) (fun e he => (tE_ok l e he).2.1.1) (tE l).length (Nat.le_refl _)
  have := (tE_len l).2
  show (tB l (tE l) (tE l).length).length ≤ 469
  omega
theorem town_may (l : List Int) : May (townG l) := by
  obtain ⟨h1, h2, h3⟩ := town_few l
  refine ⟨⟨⟨h1.1, by omega⟩, by omega, by omega⟩, fun x hx => ?_, fun x hx => ?_, fun i hi => ⟨?_, fun h0 => ?_⟩⟩
  · change x ∈ (List.range (tw l * th l)).map (tNode l) at hx
    rw [List.mem_map] at hx
    obtain ⟨i, hi, rfl⟩ := hx
    obtain ⟨_, _, h4, h5⟩ := twh_at l (List.mem_range.1 hi)
    have := atL_lt l (2 + i) 30 (by omega)
    unfold tNode
    refine ⟨⟨?_, ?_⟩, ?_, ?_⟩ <;> simp only <;> omega
  · rw [town_len]; exact tE_ok l x hx
  · obtain ⟨a, b, ha, hb, he, hc⟩ := mem_tB (List.getElem_mem hi : (townG l).B[i] ∈ tB l (tE l) (tE l).length)
    rw [he]
    refine ⟨⟨?_, ?_⟩, ⟨?_, ?_⟩, ?_⟩
    · simp only; omega
    · simp only; show (a : Int) < ((tE l).length : Int); omega
    · simp only; omega
    · simp only; show (b : Int) < ((tE l).length : Int); omega
    · unfold eAt
      simp only [Int.toNat_natCast]
      exact hc
  · have h := tB_rise l (tE l) (tE l).length
    rw [List.pairwise_iff_getElem] at h
    have hi' : i < (tB l (tE l) (tE l).length).length := hi
    exact h (i - 1) i (by omega) hi' (by omega)
end Mile
