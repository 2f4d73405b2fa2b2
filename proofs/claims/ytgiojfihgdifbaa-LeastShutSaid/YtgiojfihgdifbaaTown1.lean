/- milepostref24's Round and at (of town.go) by contract. -/
import Derived.Test.YtgiojfihgdifbaaRows
import Derived.Test.YtgiojfihgdifbaaBase2
import Derived.Deep.QuietTactic
import Derived.BigQuiet
import Derived.Lib.Hide
namespace Mile
/-- The i-th of some numbers, from 0 to ahead of n. -/
def atL (l : List Int) (i n : Nat) : Nat := if l = [] then 0 else (((l.getD (i % l.length) 0).tmod 1000003 + ((i / l.length : Nat) : Int)) % (n : Int)).toNat
theorem atL_lt (l : List Int) (i n : Nat) (h : 0 < n) : atL l i n < n := by
  unfold atL
  split
  · exact h
  · have h1 := Int.emod_nonneg ((l.getD (i % l.length) 0).tmod 1000003 + ((i / l.length : Nat) : Int)) (show (n : Int) ≠ 0 by omega)
    have h2 := Int.emod_lt_of_pos ((l.getD (i % l.length) 0).tmod 1000003 + ((i / l.length : Nat) : Int)) (show (0 : Int) < n by omega)
    omega
end Mile
namespace Go.Proofs.Ytgiojfihgdifbaa
open Go.RowKit Mile
set_option maxRecDepth 100000
theorem T1.info : (Try.prog.info? 3).map (fun i => (i.zero, i.size, i.bytes)) = some (some (.int .i64 0), 1, 8) := by kernel_rfl

theorem round24_any (k n : Int) (w : World) (h1 : 0 < n) (h2 : n ≤ 4611686018427387904) : Calls Try.prog 36 #[.int .i64 k, .int .i64 n] w fun e w' => e = .returned (.int .i64 (k % n)) ∧ w' = w := by
  have t1 : -n < k.tmod n := by have := Int.tmod_lt_of_pos (-k) h1; rw [Int.neg_tmod] at this; omega
  have t2 : k.tmod n < n := Int.tmod_lt_of_pos k h1
  have t3 : k % n = if k.tmod n < 0 then k.tmod n + n else k.tmod n := by
    rw [Int.tmod_eq_emod]
    have e1 := Int.emod_nonneg k (show n ≠ 0 by omega)
    have e2 := Int.emod_lt_of_pos k h1
    split <;> split <;> first | omega | (rw [Int.natAbs_of_nonneg (by omega)] at *; omega)
  have hn0 : (n == 0) = false := by simp; omega
  by_cases hz : k.tmod n < 0
  · rw [if_pos hz] at t3
    have T3 := Lib.hid t3
    clear t3
    go_enter Try.func36, Try.ntmps36
    go_wp2
    go_ret
    exact ⟨by rw [T3.out]; rfl, rfl⟩
  · rw [if_neg hz] at t3
    have T3 := Lib.hid t3
    clear t3
    go_enter Try.func36, Try.ntmps36
    go_wp2
    go_ret
    exact ⟨by rw [T3.out]; rfl, rfl⟩
theorem round24_q {k n r : Int} (h : k % n = r) (w : World) (h1 : 0 < n) (h2 : n ≤ 4611686018427387904) : Calls Try.prog 36 #[.int .i64 k, .int .i64 n] w fun e w' => e = .returned (.int .i64 r) ∧ w' = w := by
  rw [← h]; exact round24_any k n w h1 h2

set_option maxHeartbeats 2000000 in
set_option maxRecDepth 100000 in
/-- at: what it tells, by atL; of memory nothing is turned. -/
theorem at_quiet (w : World) (a : Option Addr) (m c : Nat) (l : List Int) (hm : l.length = m) (hr : Rd w 1 (.slice a m c) m (l.map (Value.int .i64))) (i n : Nat) (hi : i ≤ 1000000000) (hn : 0 < n) (hn2 : n ≤ 1000000000) :
    Calls Try.prog 55 #[.slice a m c, .int .i64 i, .int .i64 n] w fun e w' => e = .returned (.int .i64 (atL l i n : Nat)) ∧ ∃ k, w' = w.drewN k := by
  obtain ⟨i3, hi3, hz3, hs3, hb3⟩ := info_parts T1.info
  obtain ⟨res, hres⟩ : ∃ r : Nat, atL l i n = r := ⟨_, rfl⟩
  rw [hres]
  have HRES := Lib.hid hres
  clear hres
  by_cases hz : m = 0
  · subst hz
    have h0 : l = [] := List.length_eq_zero_iff.1 hm
    subst h0
    have h9 : res = 0 := by have := HRES.out; unfold atL at this; simpa using this.symm
    clear HRES
    subst h9
    clear hm hr
    go_enter Try.func55, Try.ntmps55
    go_wp2
    go_ret
    exact ⟨rfl, 0, rfl⟩
  · have hmi : i % m < m := Nat.mod_lt _ (by omega)
    have hil : i % m < l.length := by omega
    have e1 : ((i : Int)).tmod (m : Int) = ((i % m : Nat) : Int) := by rw [Int.tmod_eq_emod_of_nonneg (by omega)]; rfl
    have e2 : ((i : Int)).tdiv (m : Int) = ((i / m : Nat) : Int) := by rw [Int.tdiv_eq_ediv_of_nonneg (by omega)]; rfl
    have hix := fun wx => run_indexS (P := Try.prog) wx 22 3 i3 1 Try.underlying22 hi3 hs3 a m c (i % m) hmi (hr.some_ (by omega))
    have cx : w.cell? (elemA a (i % m) 1) = some (.int .i64 l[i % m]) := hr.elem (by simp [hil])
    have hres2 : ((l[i % m].tmod 1000003 + ((i / m : Nat) : Int)) % (n : Int)) = (res : Int) := by
      have := HRES.out
      unfold atL at this
      rw [if_neg (by intro e; rw [e] at hm; simp at hm; omega), hm] at this
      simp only [List.getD, List.getElem?_eq_getElem hil, Option.getD_some] at this
      have h1 := Int.emod_nonneg (l[i % m].tmod 1000003 + ((i / m : Nat) : Int)) (show (n : Int) ≠ 0 by omega)
      omega
    obtain ⟨x, hx⟩ : ∃ x, l[i % m] = x := ⟨_, rfl⟩
    rw [hx] at cx hres2
    have u1 : x.tmod 1000003 < 1000003 := Int.tmod_lt_of_pos x (by omega)
    have u2 : -1000003 < x.tmod 1000003 := by have := Int.tmod_lt_of_pos (-x) (show (0 : Int) < 1000003 by omega); rw [Int.neg_tmod] at this; omega
    obtain ⟨u, hu⟩ : ∃ u, x.tmod 1000003 = u := ⟨_, rfl⟩
    rw [hu] at u1 u2 hres2
    have hq : i / m ≤ i := Nat.div_le_self _ _
    have hq2 : i % m ≤ i := Nat.mod_le _ _
    obtain ⟨im, him⟩ : ∃ y, i % m = y := ⟨_, rfl⟩
    obtain ⟨iq, hiq⟩ : ∃ y, i / m = y := ⟨_, rfl⟩
    rw [him] at e1 hix cx hq2
    rw [hiq] at e2 hres2 hq
    have hw : IntKind.i64.wrap (u + (iq : Int)) = u + (iq : Int) := IntWalk.i64_in _ (by omega)
    have m0 : ¬ (m : Int) = 0 := by omega
    have n1 : (0 : Int) < n := by omega
    have n2 : (n : Int) ≤ 4611686018427387904 := by omega
    clear hm hr hx HRES him hiq hmi hil hn hn2
    go_enter Try.func55, Try.ntmps55
    go_wp2_with fail
    go_quiet ((go_at_call 36; exact Calls.quiet_of_same (round24_q hres2 _ n1 n2)))
    go_wp2_with fail
    go_ret
    exact ⟨rfl, _, rfl⟩
theorem at_any (w : World) (a : Option Addr) (m c : Nat) (l : List Int) (hm : l.length = m) (hr : Rd w 1 (.slice a m c) m (l.map (Value.int .i64))) (i n : Nat) (hi : i ≤ 1000000000) (hn : 0 < n) (hn2 : n ≤ 1000000000) :
    Calls Try.prog 55 #[.slice a m c, .int .i64 i, .int .i64 n] w fun e w' => e = .returned (.int .i64 (atL l i n : Nat)) ∧ Mod (fun _ => False) w w' :=
  (at_quiet w a m c l hm hr i n hi hn hn2).mono fun _ _ ⟨h, _, hk⟩ => ⟨h, hk ▸ Mod.drewN _ _ _⟩
end Go.Proofs.Ytgiojfihgdifbaa
