/- What becomes of a Taker when a body comes: plain; law 26's awake by contract. -/
import Derived.Test.YtdahoecejnnjkaaTk2
import Derived.Test.YtdahoecejnnjkaaTk3
import Derived.Test.YtdahoecejnnjkaaInts
import Derived.Deep.DeepCutAuto
import Derived.Deep.CutBlock
namespace Go.Proofs.Ytdahoecejnnjkaa
open Go.RowKit Mile
set_option maxRecDepth 100000
theorem runL_at (f : Hld) : ∀ (n N i : Nat) (h : i < (runL f n N).length), f (N + i) = some (runL f n N)[i]
  | 0, N, i, h => by simp [runL] at h
  | n + 1, N, i, h => by
    cases hf : f N with
    | none => rw [runL_stop hf] at h; simp at h
    | some b =>
      have hs := runL_step (n := n) hf
      cases i with
      | zero => simp [hs]; exact hf
      | succ i =>
        have h2 : i < (runL f n (N + 1)).length := by rw [hs] at h; simpa using h
        have := runL_at f n (N + 1) i h2
        rw [show N + (i + 1) = N + 1 + i by omega, this]
        simp [hs]
theorem runL_end (f : Hld) : ∀ (n N : Nat), (∀ s, f s ≠ none → s < N + n) → f (N + (runL f n N).length) = none
  | 0, N, hs => by
    by_cases e : f N = none
    · simpa [runL] using e
    · have := hs N e; omega
  | n + 1, N, hs => by
    cases hf : f N with
    | none => rw [runL_stop hf]; exact hf
    | some b =>
      rw [runL_step hf]
      have := runL_end f n (N + 1) (fun s h => by have := hs s h; omega)
      rw [List.length_cons, show N + ((runL f n (N + 1)).length + 1) = N + 1 + (runL f n (N + 1)).length by omega]
      exact this
theorem runL_more (f : Hld) (n N : Nat) (b : List Int) (h : f N = some b) : 1 ≤ (runL f (n + 1) N).length := by rw [runL_step h]; simp
theorem heldT_one {f : Hld} {N M : Nat} (h : f N = none) (hM : 0 < M) : (heldT f N M).length + 1 ≤ M := by
  obtain ⟨m, rfl⟩ : ∃ m, M = m + 1 := ⟨M - 1, by omega⟩
  unfold heldT
  rw [List.length_map, List.range_succ_eq_map, List.filter_cons]
  rw [if_neg (by simp [h])]
  have := List.length_filter_le (fun i : Nat => (f (N + i)).isSome) ((List.range m).map Nat.succ)
  rw [List.length_map, List.length_range] at this
  omega
theorem heldT_all {f : Hld} {N M : Nat} (h : ∀ s, f s = none) : heldT f N M = [] := by
  unfold heldT
  rw [List.filter_eq_nil_iff.2 (fun i _ => by simp [h])]
  rfl
theorem fromH_some {f : Hld} {N s : Nat} {b : List Int} (h : fromH f N s = some b) : N ≤ s ∧ f s = some b := by
  unfold fromH at h
  by_cases c : s < N
  · rw [if_pos c] at h; cases h
  · rw [if_neg c] at h; exact ⟨by omega, h⟩
theorem tktake_nil (w : World) (v : Int) (a : Option Addr) (n c : Nat) : Calls Try.prog 39 #[.pointer none, .int .i64 v, .slice a n c] w fun e w' => e = .returned (.tuple #[.slice none 0 0, .bool false]) ∧ Mod (fun _ => False) w w' := by
  go_enter Try.func39, Try.ntmps39
  go_upto_region 1 with fail
  go_quiet (fail)
  go_wp2_with fail
  go_ret2
  exact ⟨rfl, Mod.drewN _ _ _⟩
end Go.Proofs.Ytdahoecejnnjkaa
