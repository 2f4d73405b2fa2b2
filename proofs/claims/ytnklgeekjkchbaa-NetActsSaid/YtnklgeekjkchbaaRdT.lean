/- Parts of rows of numbers. -/
import Derived.Test.YtnklgeekjkchbaaBase2
namespace Mile
open Go Go.RowKit
theorem rd_cap {w : World} {s n c : Nat} {a : Option Addr} {xs : List Value} (h : Rd w s (.slice a n c) n xs) : n ≤ c := by
  obtain ⟨_, a', c', he, h1, _⟩ := h; cases he; exact h1
theorem rd_take {w : World} {n c : Nat} {a : Option Addr} {xs : List Int} (h : Rd w 1 (.slice a n c) n (xs.map (Value.int .i64))) {k : Nat} (hk : k ≤ n) : Rd w 1 (.slice a k c) k ((xs.take k).map (Value.int .i64)) := by
  have := h.take hk; rwa [Nat.mul_one, ← List.map_take] at this
theorem rd_drop {w : World} {n c : Nat} {a : Option Addr} {xs : List Int} (h : Rd w 1 (.slice a n c) n (xs.map (Value.int .i64))) {k : Nat} (hk : k ≤ n) : Rd w 1 (.slice (dropA a c k 1) (n - k) (c - k)) (n - k) ((xs.drop k).map (Value.int .i64)) := by
  have := h.drop hk; rwa [Nat.mul_one, ← List.map_drop] at this
end Mile
