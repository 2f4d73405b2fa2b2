/- milepostalike.Ints: are two rows of numbers one? -/
import Derived.Test.YtjjedebjbgpimaaGreatRows
import Derived.Test.YtjjedebjbgpimaaGreatKBase
import Derived.Deep.QuietTactic
import Derived.BigQuiet
import Derived.Lib.Hide
namespace Go.Proofs.YtjjedebjbgpimaaGreat
open Go.RowKit Mile
set_option maxRecDepth 100000
theorem In.info3 : (Tryz.prog.info? 3).map (fun i => (i.zero, i.size, i.bytes)) = some (some (.int .i64 0), 1, 8) := by kernel_rfl

set_option maxHeartbeats 2000000 in
theorem ints_any (w : World) (a : Option Addr) (n c : Nat) (xs : List Int) (hn : xs.length = n) (hr : Rd w 1 (.slice a n c) n (xs.map (Value.int .i64)))
    (b : Option Addr) (m d : Nat) (ys : List Int) (hm : ys.length = m) (hs : Rd w 1 (.slice b m d) m (ys.map (Value.int .i64))) (hb : n ≤ 1000000000) :
    Calls Tryz.prog 28 #[.slice a n c, .slice b m d] w fun e w' => e = .returned (.bool (decide (xs = ys))) ∧ ∃ k, w' = w.drewN k := by
  obtain ⟨i3, hi3, hz3, hs3, hb3⟩ := info_parts In.info3
  obtain ⟨res, hres⟩ : ∃ r, decide (xs = ys) = r := ⟨_, rfl⟩
  rw [hres]
  have HRES := Lib.hid hres
  have HN := Lib.hid hn
  have HM := Lib.hid hm
  clear hn hm hres
  by_cases hl : n = m
  · subst hl
    go_enter Tryz.func28, Tryz.ntmps28
    go_wp2_with fail
    go_loopw [5] (fun i wr => ∃ (j k : Nat), j ≤ n ∧ i = .int .i64 j ∧ wr = w.drewN k ∧ ∀ t, t < j → xs.getD t 0 = ys.getD t 0) (fun i _ => n - (intOf i).toNat)
    case atStart => exact ⟨0, 0, by omega, rfl, rfl, fun t h => by omega⟩
    case round =>
      obtain ⟨j, k, hj, rfl, hwr, hall⟩ := hrel
      have HA := Lib.hid hall
      have HW := Lib.hid hwr
      have hMk : Mod (fun _ => False) w wr := by rw [hwr]; exact Mod.drewN _ _ _
      clear hall hwr
      by_cases hlt : j < n
      · have hxl : j < xs.length := by rw [HN.out]; exact hlt
        have hyl : j < ys.length := by rw [HM.out]; exact hlt
        have hix := fun wx => run_indexS (P := Tryz.prog) wx 40 3 i3 1 Tryz.underlying40 hi3 hs3 a n c j hlt (hr.some_ (by omega))
        have hiy := fun wx => run_indexS (P := Tryz.prog) wx 40 3 i3 1 Tryz.underlying40 hi3 hs3 b n d j hlt (hs.some_ (by omega))
        have cx : wr.cell? (elemA a j 1) = some (.int .i64 xs[j]) := (hr.keepA hMk (fun _ _ e => e.elim)).elem (by simp [hxl])
        have cy : wr.cell? (elemA b j 1) = some (.int .i64 ys[j]) := (hs.keepA hMk (fun _ _ e => e.elim)).elem (by simp [hyl])
        have hx : xs.getD j 0 = xs[j] := by simp [List.getD, hxl]
        have hy : ys.getD j 0 = ys[j] := by simp [List.getD, hyl]
        obtain ⟨u, hu⟩ : ∃ u, xs[j] = u := ⟨_, rfl⟩
        obtain ⟨v, hv⟩ : ∃ v, ys[j] = v := ⟨_, rfl⟩
        rw [hu] at cx hx
        rw [hv] at cy hy
        have HX := Lib.hid hx
        have HY := Lib.hid hy
        clear hx hy hu hv
        by_cases e : u = v
        · subst e
          go_wp2_with fail
          go_quiet (fail)
          go_wp2_with fail
          go_roundw
          case rel =>
            refine ⟨j + 1, k + nq, hlt, by go_num, by rw [HW.out, World.drewN_drewN], fun t ht => ?_⟩
            by_cases e : t = j
            · subst e; rw [HX.out, HY.out]
            · exact HA.out t (by omega)
          case measure => simp [intOf]; omega
        · have g1 : (u != v) = true := by simpa using e
          have g2 : (u == v) = false := by simpa using e
          have hr0 : res = false := by
            rw [← HRES.out]
            exact decide_eq_false fun h => e (by rw [← HX.out, ← HY.out, h])
          subst hr0
          go_wp2_with fail
          go_quiet (fail)
          go_wp2_with fail
          go_ret
          exact ⟨rfl, k + nq, by rw [HW.out, World.drewN_drewN]⟩
      · obtain rfl : j = n := by omega
        have hr1 : res = true := by
          rw [← HRES.out]
          refine decide_eq_true (List.ext_getElem (by rw [HN.out, HM.out]) fun t h1 h2 => ?_)
          have := HA.out t (by rw [← HN.out]; exact h1)
          simpa [List.getD, h1, h2] using this
        subst hr1
        go_wp2_with fail
        go_ret
        exact ⟨rfl, k, HW.out⟩
  · have g1 : ((n : Int) != (m : Int)) = true := by simp; omega
    have g2 : ((n : Int) == (m : Int)) = false := by simp; omega
    have hr0 : res = false := by rw [← HRES.out]; exact decide_eq_false fun e => hl (by rw [← HN.out, ← HM.out, e])
    subst hr0
    go_enter Tryz.func28, Tryz.ntmps28
    go_wp2_with fail
    go_ret
    exact ⟨rfl, 0, rfl⟩
end Go.Proofs.YtjjedebjbgpimaaGreat
