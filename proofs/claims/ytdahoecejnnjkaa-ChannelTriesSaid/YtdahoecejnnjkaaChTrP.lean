/- ChannelTries: lists. -/
import Derived.Test.YtdahoecejnnjkaaCh1L
import Derived.Test.YtdahoecejnnjkaaTk4
namespace Go.Proofs.Ytdahoecejnnjkaa
open Go.RowKit Mile Go.Maps
set_option maxRecDepth 100000
/-- The Channel of the law: one body under way, due at D, tried n times. -/
def trX (D : Int) (n : Nat) (b : List Int) (a : Nat) (f : Hld) (o : Bool) : ChS := ⟨0, o, [⟨0, D, n⟩], [b], a, f, []⟩
theorem trX_b {D : Int} {n : Nat} {b : List Int} {a : Nat} {f : Hld} {o : Bool} (hb : b.length ≤ 100000) (ha : a ≤ 1000000) : ChB (trX D n b a f o) :=
  ⟨by simp [trX], by simp [trX], ha, by simp [trX], by simp [trX], by simp [trX]; exact hb⟩
theorem trX_0 (B : Nat) (b : List Int) : payC 2 B 0 (oweS ⟨0, false, [], [], 0, fun _ => none, []⟩ b) = trX (B : Int) 0 b 0 (fun _ => none) false := by
  unfold payC payS oweS payN trX; simp [putsW, putW, insW, stopW]
theorem trX_0d (b : List Int) : payD 2 (oweS ⟨0, false, [], [], 0, fun _ => none, []⟩ b) = [⟨1, 0, 0, b⟩] := by
  unfold payD oweS payN; simp [dgD]
theorem trX_payC {D : Int} {n B : Nat} {b : List Int} {a : Nat} {f : Hld} {o : Bool} (now : Int) : payC 2 B now (trX D n b a f o) = trX D n b a f o := by
  unfold payC payS payN trX; cases o <;> simp [putsW]
theorem trX_payD {D : Int} {n : Nat} {b : List Int} {a : Nat} {f : Hld} {o : Bool} : payD 2 (trX D n b a f o) = [] := by
  unfold payD payN trX; cases o <;> simp [dgD]
theorem trX_ack {D : Int} {n : Nat} {b : List Int} {a : Nat} {f : Hld} {o : Bool} : ackC (trX D n b a f o) (ackN (trX D n b a f o) 0) = trX D n b a f o := by
  have : ackN (trX D n b a f o) 0 = 0 := by unfold ackN trX; simp
  rw [this, ackC_zero]
theorem trX_ok {D : Int} {n : Nat} {b : List Int} {a : Nat} {f : Hld} {o : Bool} (hf : ∀ s, f s = none) : takeOk (trX D n b a f o) 2 (a : Int) := by
  unfold takeOk trX
  exact ⟨Int.le_refl _, by show (a : Int) < (a : Int) + 2; omega, hf _⟩
theorem trX_L {D : Int} {n : Nat} {b : List Int} {a : Nat} {f : Hld} {o : Bool} (hf : ∀ s, f s = none) : takeL (trX D n b a f o) 2 (a : Int) [1] = [[1]] := by
  unfold takeL
  rw [if_pos (trX_ok hf)]
  show runL (putH f (a : Int).toNat [1]) 2 a = _
  rw [Int.toNat_natCast, runL_step (f := putH f a [1]) (n := 1) (b := [1]) (by unfold putH; rw [if_pos rfl]), runL_stop (by unfold putH; rw [if_neg (by omega)]; exact hf _)]
theorem trX_C {D : Int} {n : Nat} {b : List Int} {a : Nat} {f : Hld} {o : Bool} (hf : ∀ s, f s = none) : ∃ f', takeC (trX D n b a f o) 2 (a : Int) [1] = trX D n b (a + 1) f' o ∧ ∀ s, f' s = none := by
  refine ⟨fromH (putH f a [1]) (a + 1), ?_, fun s => ?_⟩
  · unfold takeC
    rw [if_pos (trX_ok hf), trX_L hf, Int.toNat_natCast]; rfl
  · unfold fromH putH
    by_cases h : s < a + 1
    · rw [if_pos h]
    · rw [if_neg h, if_neg (by omega)]; exact hf s
theorem trX_ids {D : Int} {n : Nat} {b : List Int} {a : Nat} {f : Hld} {o : Bool} : ∀ e ∈ (trX D n b a f o).L, ((trX D n b a f o).F : Int) ≤ e.id ∧ e.id < (((trX D n b a f o).F + (trX D n b a f o).bs.length : Nat) : Int) := fun e he => by
  simp [trX] at he
  rw [he]; show (0 : Int) ≤ 0 ∧ (0 : Int) < 1; omega
theorem trX_due {D now : Int} {n : Nat} {b : List Int} {a : Nat} {f : Hld} {o : Bool} (h : D ≤ now) : dueE (trX D n b a f o).L now = [⟨0, D, n⟩] := by
  unfold dueE trX; simp [h]
theorem trX_over {D now : Int} {n R : Nat} {b : List Int} {a : Nat} {f : Hld} {o : Bool} (h : D ≤ now) (hn : n < R) : overE R (dueE (trX D n b a f o).L now) = [] := by
  rw [trX_due h]; unfold overE; simp [hn]
theorem trX_gone {D now : Int} {n R : Nat} {b : List Int} {a : Nat} {f : Hld} {o : Bool} (h : D ≤ now) (hn : R ≤ n) : overE R (dueE (trX D n b a f o).L now) ≠ [] := by
  rw [trX_due h]; unfold overE; simp; omega
theorem trX_D {D now : Int} {n R : Nat} {b : List Int} {a : Nat} {f : Hld} {o : Bool} (h : D ≤ now) (hn : n < R) : againD (trX D n b a f o) R now = [⟨1, 0, (a : Int), b⟩] := by
  unfold againD
  rw [trX_due h]; unfold againE
  simp [hn, trX]
theorem waitN_same (B k : Nat) (h : 1 ≤ B) : waitN B B k = B := by
  have h1 := waitN_le B B k
  have h2 := waitN_ge (Nat.le_refl B) k
  omega
theorem trX_S {D now : Int} {n R B : Nat} {b : List Int} {a : Nat} {f : Hld} (h : D ≤ now) (hn : n < R) (hB : 1 ≤ B) : agS (trX D n b a f false) B B R now false = trX (now + (B : Int)) (n + 1) b a f false := by
  unfold agS trX
  simp only [List.filterMap_cons, List.filterMap_nil, dueW]
  rw [if_neg (by omega), if_pos hn]
  simp [waitN_same B (n + 1) hB]
end Go.Proofs.Ytdahoecejnnjkaa
