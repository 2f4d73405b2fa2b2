/- shuts.Set: what stands for it; New by contract. -/
import Derived.Test.YthlpednakhjmhaaRows
import Derived.Test.YthlpednakhjmhaaBase2
import Derived.Test.YthlpednakhjmhaaEv
import Derived.Deep.DeepCutAuto
import Derived.Deep.CutBlock
namespace Go.Proofs.Ythlpednakhjmhaa
open Go.RowKit Mile
set_option maxRecDepth 100000
theorem infoI : (Try.prog.info? 3).map (fun i => (i.zero, i.size, i.bytes)) = some (some (.int .i64 0), 1, 8) := by kernel_rfl
/-- The Set at block p: so many edges, of each till when it is closed (0: it is not). -/
structure SO (w : World) (p n : Nat) (us : List Int) : Prop where
  blk : Blk w p 58 (.int .i64 n :: us.map (Value.int .i64))
  len : us.length = 512
  le : n ≤ 512
theorem SO.keep {F : Nat → Prop} {w w' : World} {p n : Nat} {us : List Int} (h : SO w p n us) (hm : Mod F w w') (hp : ¬ F p) : SO w' p n us := ⟨h.blk.keep hm hp, h.len, h.le⟩
theorem Ev.so {w : World} {p n : Nat} {us : List Int} (h : SO w p n us) : Ev (fun W => SO W p n us) w := fun _ m => h.keep m (fun e => e)
theorem SO.edges {w : World} {p n : Nat} {us : List Int} (h : SO w p n us) : w.cell? ⟨p, 0, none⟩ = some (.int .i64 n) := h.blk.cell 0 rfl
theorem SO.at_ {w : World} {p n : Nat} {us : List Int} (h : SO w p n us) (k : Nat) (hk : k < us.length) : w.cell? ⟨p, 1 + k, none⟩ = some (.int .i64 us[k]) := by rw [Nat.add_comm]; exact h.blk.cell (k + 1) (by simp [hk])
theorem SO.free {w : World} {p n : Nat} {us : List Int} (h : SO w p n us) (k : Nat) : w.frozen? ⟨p, k, none⟩ = false := h.blk.free k
theorem SO.set {w : World} {p n : Nat} {us : List Int} (h : SO w p n us) (k : Nat) (u : Int) : SO (w.setCell ⟨p, 1 + k, none⟩ (.int .i64 u)) p n (us.set k u) := by
  rw [Nat.add_comm]
  refine ⟨?_, by simpa using h.len, h.le⟩
  have := h.blk.set (k + 1) (.int .i64 u)
  rwa [List.set_cons_succ, ← List.map_set] at this
theorem run_zero0 (w : World) : (zeroValue 58).run Try.prog w = .ok (.agg (List.replicate 513 (Value.int .i64 0)).toArray) w := by kernel_rfl
set_option maxHeartbeats 400000 in
theorem snew_any (n : Nat) (hn : n ≤ 512) (w : World) : Calls Try.prog 8 #[.int .i64 n] w fun e w' => ∃ p, e = .returned (.pointer (some ⟨p, 0, none⟩)) ∧ w.heap.size ≤ p ∧ SO w' p n (List.replicate 512 0) ∧ Mod (fun _ => False) w w' := by
  have z0 : decide ((n : Int) < 0) = false := by simp
  have z1 : decide ((512 : Int) < (n : Int)) = false := by simp; omega
  have hb := run_zero0
  obtain ⟨ZS, hZS⟩ : ∃ ZS, (List.replicate 513 (Value.int .i64 0)).toArray = ZS := ⟨_, rfl⟩
  rw [hZS] at hb
  have hne : ¬ ZS = #[] := by rw [← hZS]; simp [List.replicate_succ]
  obtain ⟨CS, hCS⟩ : ∃ CS, ZS.setIfInBounds 0 (.int .i64 (n : Int)) = CS := ⟨_, rfl⟩
  have HCS : Hid ((Value.int .i64 (n : Int) :: (List.replicate 512 (0 : Int)).map (Value.int .i64)).toArray = CS) := Lib.hid (by rw [← hCS, ← hZS]; simp [List.replicate_succ (n := 512)])
  clear hZS
  go_enter Try.func8, Try.ntmps8
  go_wp2_with fail
  go_ret
  refine ⟨w.heap.size, rfl, Nat.le_refl _, ⟨?_, by simp, hn⟩, Mod.alloc _ _ _⟩
  rw [← HCS.out]
  exact Blk.new w 58 _
theorem snew_no (v : Int) (hv : v < 0 ∨ 512 < v) (w : World) : Calls Try.prog 8 #[.int .i64 v] w fun e w' => e = .returned (.pointer none) ∧ w = w' := by
  by_cases h : v < 0
  · have z0 : decide (v < 0) = true := by simpa using h
    go_enter Try.func8, Try.ntmps8
    go_wp2_with fail
    go_ret
    exact ⟨rfl, rfl⟩
  · have z0 : decide (v < 0) = false := by simpa using h
    have z1 : decide (512 < v) = true := by simp; omega
    go_enter Try.func8, Try.ntmps8
    go_wp2_with fail
    go_ret
    exact ⟨rfl, rfl⟩
end Go.Proofs.Ythlpednakhjmhaa
