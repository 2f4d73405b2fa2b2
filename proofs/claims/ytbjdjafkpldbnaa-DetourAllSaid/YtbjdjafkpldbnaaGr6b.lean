/- Contract of package graph's rows: one row told. -/
import Derived.Test.YtbjdjafkpldbnaaKGr
import Derived.StillTailTactics
namespace Go.Proofs.Ytbjdjafkpldbnaa
open Go.RowKit Mile
set_option maxRecDepth 100000

set_option maxHeartbeats 2000000 in
theorem row_any (w : World) (a : Option Addr) (n c : Nat) (es : List Int) (he : es.length = n) (hre : Rd w 1 (.slice a n c) n (es.map (Value.int .i64)))
    (b : Option Addr) (m d : Nat) (fs : List Int) (hf : fs.length = m) (hrf : Rd w 1 (.slice b m d) m (fs.map (Value.int .i64))) (hb : n ≤ 1000000)
    (k lo hi : Nat) (hk : k + 1 < m) (hlo : fs[k]'(by omega) = lo) (hhi : fs[k + 1]'(by omega) = hi) (h1 : lo ≤ hi) (h2 : hi ≤ n) :
    Calls Try.prog 51 #[.agg #[.slice a n c, .slice b m d], .int .i64 k] w (CloneP 3 1 (hi - lo) (((es.take hi).drop lo).map (Value.int .i64)) w) := by
  obtain ⟨iN, hiN, hzN, hsN, hbN⟩ := info_parts GR.infoI
  have k0 : w.cell? (elemA b k 1) = some (.int .i64 lo) := hrf.elem (by simp [show k < fs.length by omega, hlo])
  have k1 : w.cell? (elemA b (k + 1) 1) = some (.int .i64 hi) := hrf.elem (by simp [show k + 1 < fs.length by omega, hhi])
  have hix0 := fun wx => run_indexS (P := Try.prog) wx 22 3 iN 1 Try.underlying22 hiN hsN b m d k (by omega) (hrf.some_ (by omega))
  have hix1 : ∀ wx, (Instr.indexAt 22 (.slice b m d) (.int .i64 ((k : Int) + 1))).run Try.prog wx = .ok (.pointer (some (elemA b (k + 1) 1))) wx := fun wx => by
    have := run_indexS (P := Try.prog) wx 22 3 iN 1 Try.underlying22 hiN hsN b m d (k + 1) (by omega) (hrf.some_ (by omega))
    rwa [show ((k + 1 : Nat) : Int) = (k : Int) + 1 by omega] at this
  have hc : n ≤ c := by obtain ⟨_, a', c', he, h, _⟩ := hre; cases he; exact h
  have hsl := fun wx => run_midS (P := Try.prog) wx 22 3 iN 1 Try.underlying22 hiN hsN a n c lo hi h1 (by omega)
  have hrd := (hre.take h2).drop h1
  rw [Nat.mul_one, Nat.mul_one, ← List.map_take, ← List.map_drop] at hrd
  have hw : IntKind.i64.wrap ((k : Int) + 1) = (k : Int) + 1 := IntWalk.i64_in _ (by have : m ≤ maxLen := (by obtain ⟨_, a', c', he, h3, h4, _⟩ := hrf; cases he; exact Nat.le_trans h3 h4); unfold maxLen at this; omega)
  have HE := Lib.hid he
  clear hlo hhi he hf
  go_enter Try.func51, Try.ntmps51
  go_wp2_with fail
  have hA0 := Mod.alloc (fun _ => False) w (.cells #[.slice a n c, .slice b m d] 85)
  have hB0 := Blk.new w 85 [.slice a n c, .slice b m d]
  obtain ⟨W0, hW0⟩ : ∃ W0, w.alloc (.cells #[.slice a n c, .slice b m d] 85) = W0 := ⟨_, rfl⟩
  obtain ⟨q, hq⟩ : ∃ q, w.heap.size = q := ⟨_, rfl⟩
  rw [hq] at hB0
  have hB1 : Blk W0 q 85 [.slice a n c, .slice b m d] := by rw [← hW0]; exact hB0
  rw [hW0] at hA0
  rw [hW0, hq]
  have e0 := hB1.cell 0 rfl
  have e1 := hB1.cell 1 rfl
  have j0 := hA0.cell k0 (fun e => e)
  have j1 := hA0.cell k1 (fun e => e)
  have hrd2 := (hrd.keepA hA0 (fun _ _ e => e.elim)).drew
  have hsz := hA0.size
  have HSZ := Lib.hid hsz
  have HQ := Lib.hid hq
  clear hW0 hB0 k0 k1 hre hrf hrd hq hsz
  go_still_tail 14, (by kernel_rfl)
  change wpList _ _ _ _ _ (World.drew W0)
  go_wp2_with fail
  refine (cloneI_any _ _ _ _ ((es.take hi).drop lo) (by rw [List.length_drop, List.length_take, HE.out]; omega) hrd2 (by omega)).mono ?_
  rintro e w1 ⟨ax, cx, rfl, hox, hmx⟩
  go_wp2_with fail
  go_ret
  exact ⟨ax, cx, rfl, Own.base hox HSZ.out, (hA0.thenDrew).trans hmx (fun _ _ e => e) (fun _ _ e => e)⟩
end Go.Proofs.Ytbjdjafkpldbnaa
