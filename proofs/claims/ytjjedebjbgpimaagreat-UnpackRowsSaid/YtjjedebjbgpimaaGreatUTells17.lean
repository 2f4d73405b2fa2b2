/- UnpackTells by contract. -/
import Derived.Test.YtjjedebjbgpimaaGreatAw17
import Derived.Test.YtjjedebjbgpimaaGreatIRowP
namespace Go.Proofs.YtjjedebjbgpimaaGreat
open Go.RowKit Mile
set_option maxRecDepth 100000
theorem ok_il17 {w : World} {a : Option Addr} {n c : Nat} {bs : List Int} (ok : (encSlice (encInt .i64)).ok w (.slice a n c, bs)) : bs.length = n ∧ Rd w 1 (.slice a n c) n (bs.map (Value.int .i64)) ∧ ∀ x ∈ bs, (Lit.int .i64 x).wf = true := ok_ints ok

structure Lv17 (n : Nat) (L T : List Ar) (V : List Nat) : Prop where
  hL : NetOk n L
  hT : NetOk n T
  hD : UnOk T (depA V) n
  hin : ∀ a ∈ T, a.m < 0 → a ∈ L
  few : T.length ≤ 400
theorem lv17 {P : List Ar → Nat → Int → List Int} {n : Nat} (h20 : n ≤ 20) (T0 : List T3) : Lv17 n (net17 n T0) (bAt n P (net17 n T0) n).T (bAt n P (net17 n T0) n).V := by
  have hok := net17_ok n T0
  have htok := (bAt_ok P hok n (Nat.le_refl _)).tok
  have hnn : n * n ≤ 20 * 20 := Nat.mul_le_mul h20 h20
  exact ⟨hok, htok, un_ok hok (net17_m n T0), bAt_in17 hok, by have := net_len htok; omega⟩
end Go.Proofs.YtjjedebjbgpimaaGreat
