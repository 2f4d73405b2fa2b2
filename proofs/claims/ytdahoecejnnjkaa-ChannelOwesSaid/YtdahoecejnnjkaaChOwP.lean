/- ChannelOwes: lists. -/
import Derived.Test.YtdahoecejnnjkaaCh1L
import Derived.Test.YtdahoecejnnjkaaOpens
namespace Go.Proofs.Ytdahoecejnnjkaa
open Go.RowKit Mile Go.Maps
set_option maxRecDepth 100000
theorem opens_il27 : Opens Try.prog 70 (encSlice (encInt .i64)) := opens_slice Try.underlying70 (by kernel_rfl) (opens_int Try.underlying3) (by decide)
/-- Bodies of one byte each, from a on. -/
def rng (a n : Nat) : List (List Int) := (List.range' a n).map fun (i : Nat) => [(i : Int)]
theorem rng_len (a n : Nat) : (rng a n).length = n := by unfold rng; simp
theorem rng_app (a n k : Nat) : rng a n ++ rng (a + n) k = rng a (n + k) := by
  unfold rng
  rw [← List.map_append]
  congr 1
  rw [← List.range'_append (s := a) (m := n) (n := k) (step := 1), Nat.one_mul]
theorem rng_one (a : Nat) : rng a 1 = [[(a : Int)]] := rfl
theorem rng_take (a n k : Nat) (h : k ≤ n) : (rng a n).take k = rng a k := by
  rw [show n = k + (n - k) by omega, ← rng_app, List.take_append_of_le_length (by rw [rng_len]; exact Nat.le_refl _), List.take_of_length_le (by rw [rng_len]; exact Nat.le_refl _)]
theorem rng_drop (a n k : Nat) (h : k ≤ n) : (rng a n).drop k = rng (a + k) (n - k) := by
  have h1 : rng a n = rng a k ++ rng (a + k) (n - k) := by rw [rng_app, show k + (n - k) = n by omega]
  rw [h1, List.drop_left' (rng_len _ _)]
theorem rng_mem {a n : Nat} {b : List Int} (h : b ∈ rng a n) : b.length = 1 := by
  unfold rng at h
  obtain ⟨i, _, rfl⟩ := List.mem_map.1 h
  rfl
theorem dgD_at (ak : Int) : ∀ (n a k : Nat), k < n → (dgD ak a (rng a n))[k]? = some ⟨1, ((a + k : Nat) : Int), ak, [((a + k : Nat) : Int)]⟩
  | 0, _, _, h => by omega
  | n + 1, a, 0, _ => rfl
  | n + 1, a, k + 1, h => by
    have h1 : rng a (n + 1) = [(a : Int)] :: rng (a + 1) n := rfl
    rw [h1]
    show (dgD ak (a + 1) (rng (a + 1) n))[k]? = _
    rw [dgD_at ak n (a + 1) k (by omega), show a + 1 + k = a + (k + 1) by omega]
structure OwX (x : ChS) (W a s q : Nat) : Prop where
  F : x.F = a
  o : x.o = false
  bs : x.bs = rng a (s - a)
  os : x.os = rng s (q - s)
  N : x.N = 0
  L : x.L.length ≤ s
  la : a ≤ s
  sq : s ≤ q
  sw : s - a ≤ W
theorem OwX.b {x : ChS} {W a s q : Nat} (h : OwX x W a s q) (h64 : q - s ≤ 64) (hq : q ≤ 100) : ChB x := by
  have h1 := h.sq
  have h2 := h.la
  refine ⟨by rw [h.os, rng_len]; exact h64, by rw [h.F, h.bs, rng_len]; omega, by rw [h.N]; omega, by have := h.L; omega, fun b hb => ?_, fun b hb => ?_⟩
  · rw [h.os] at hb; rw [rng_mem hb]; omega
  · rw [h.bs] at hb; rw [rng_mem hb]; omega
theorem OwX.pay {x : ChS} {W a s q : Nat} (h : OwX x W a s q) (B : Nat) (now : Int) (m : Nat) (hm : min (W - (s - a)) (q - s) = m) :
    payD W x = dgD 0 s (rng s m) ∧ OwX (payC W B now x) W a (s + m) q ∧ (s + m < q → s + m - a = W) ∧ s + m ≤ q := by
  have h1 := h.sq
  have h2 := h.la
  have h3 := h.sw
  have hn : payN W x = m := by unfold payN; rw [h.o, h.bs, h.os, rng_len, rng_len]; simpa using hm
  have hsa : a + (s - a) = s := by omega
  refine ⟨?_, ⟨h.F, h.o, ?_, ?_, h.N, ?_, by omega, by omega, by omega⟩, by omega, by omega⟩
  · unfold payD; rw [hn, h.F, h.bs, h.os, rng_len, hsa, rng_take _ _ _ (by omega), h.N]; rfl
  · show x.bs ++ x.os.take (payN W x) = _
    rw [hn, h.bs, h.os, rng_take _ _ _ (by omega)]
    have := rng_app a (s - a) m
    rw [hsa] at this
    rw [this, show s + m - a = s - a + m by omega]
  · show x.os.drop (payN W x) = _
    rw [hn, h.os, rng_drop _ _ _ (by omega), show q - (s + m) = q - s - m by omega]
  · show (putsW x.L _ _ (payN W x)).length ≤ _
    rw [hn]
    exact Nat.le_trans (putsW_len _ _ _ _) (by have := h.L; omega)
theorem OwX.owe {x : ChS} {W a s q : Nat} (h : OwX x W a s q) : OwX (oweS x [(q : Int)]) W a s (q + 1) := by
  have h1 := h.sq
  refine ⟨h.F, h.o, h.bs, ?_, h.N, h.L, h.la, by omega, h.sw⟩
  show x.os ++ [[(q : Int)]] = _
  rw [h.os, ← rng_one]
  have := rng_app s (q - s) 1
  rw [show s + (q - s) = q by omega] at this
  rw [this, show q + 1 - s = q - s + 1 by omega]
theorem OwX.ack {x : ChS} {W a s q : Nat} (h : OwX x W a s q) (k : Nat) (h1 : a ≤ k) (h2 : k ≤ s) : ackN x (k : Int) = k - a ∧ OwX (ackC x (k - a)) W k s q := by
  have h3 := h.la
  have h4 := h.sw
  refine ⟨?_, ⟨?_, h.o, ?_, h.os, h.N, Nat.le_trans (stopN_le _ _ _) h.L, h2, h.sq, by omega⟩⟩
  · unfold ackN
    rw [h.F, h.bs, rng_len]
    by_cases hk : a = k
    · rw [if_neg (by omega)]; omega
    · rw [if_pos (by omega)]; omega
  · show x.F + (k - a) = k
    rw [h.F]; omega
  · show x.bs.drop (k - a) = _
    rw [h.bs, rng_drop _ _ _ (by omega), show a + (k - a) = k by omega, show s - k = s - a - (k - a) by omega]
theorem owx0 (W : Nat) : OwX ⟨0, false, [], [], 0, fun _ => none, []⟩ W 0 0 0 := ⟨rfl, rfl, rfl, rfl, rfl, Nat.zero_le _, Nat.le_refl _, Nat.le_refl _, Nat.zero_le _⟩
end Go.Proofs.Ytdahoecejnnjkaa
