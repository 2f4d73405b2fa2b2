/- The table: its memory; who is there, as plain functions of the peer. -/
import Derived.Test.YtfdmjnhhgcidbaaRows
import Derived.Test.YtfdmjnhhgcidbaaBase2
import Derived.Test.YtfdmjnhhgcidbaaEv
import Derived.Test.YtfdmjnhhgcidbaaShp
namespace Go.Proofs.Ytfdmjnhhgcidbaa
open Go.RowKit Mile
set_option maxRecDepth 100000
/-- One who is there: its block, and its Channel. -/
abbrev TbE := Option (Nat × Value)
def tbV : TbE → Value
  | none => .pointer none
  | some e => .pointer (some ⟨e.1, 0, none⟩)
def updT {α : Type} (f : Nat → α) (i : Nat) (x : α) : Nat → α := fun j => if j = i then x else f j
theorem updT_at {α : Type} (f : Nat → α) (i : Nat) (x : α) : updT f i x i = x := if_pos rfl
theorem updT_ne {α : Type} (f : Nat → α) {i j : Nat} (x : α) (h : j ≠ i) : updT f i x j = f j := if_neg h
/-- The sixteen numbers below 16. -/
theorem below16 {i : Nat} (h : i < 16) : i = 0 ∨ i = 1 ∨ i = 2 ∨ i = 3 ∨ i = 4 ∨ i = 5 ∨ i = 6 ∨ i = 7 ∨ i = 8 ∨ i = 9 ∨ i = 10 ∨ i = 11 ∨ i = 12 ∨ i = 13 ∨ i = 14 ∨ i = 15 := by omega
abbrev row16 {α : Type} (f : Nat → α) : List α := [f 0, f 1, f 2, f 3, f 4, f 5, f 6, f 7, f 8, f 9, f 10, f 11, f 12, f 13, f 14, f 15]
theorem row16_at {α : Type} (f : Nat → α) {i : Nat} (h : i < 16) : (row16 f)[i]? = some (f i) := by
  rcases below16 h with rfl | rfl | rfl | rfl | rfl | rfl | rfl | rfl | rfl | rfl | rfl | rfl | rfl | rfl | rfl | rfl <;> rfl
theorem row16_set {α : Type} (f : Nat → α) {i : Nat} (h : i < 16) (x : α) : (row16 f).set i x = row16 (updT f i x) := by
  rcases below16 h with rfl | rfl | rfl | rfl | rfl | rfl | rfl | rfl | rfl | rfl | rfl | rfl | rfl | rfl | rfl | rfl <;> rfl
theorem row16_map {α β : Type} (f : Nat → α) (g : α → β) : (row16 f).map g = row16 (fun i => g (f i)) := rfl
/-- The table's cells. -/
def tbC (M : Nat) (es : Nat → TbE) (gr : Nat → Int) : List Value := .int .i64 (M : Int) :: (row16 (fun i => tbV (es i)) ++ row16 (fun i => Value.int .i64 (gr i)))
theorem tbC_e (M : Nat) (es : Nat → TbE) (gr : Nat → Int) {i : Nat} (h : i < 16) : (tbC M es gr)[1 + i]? = some (tbV (es i)) := by
  rcases below16 h with rfl | rfl | rfl | rfl | rfl | rfl | rfl | rfl | rfl | rfl | rfl | rfl | rfl | rfl | rfl | rfl <;> rfl
theorem tbC_g (M : Nat) (es : Nat → TbE) (gr : Nat → Int) {i : Nat} (h : i < 16) : (tbC M es gr)[17 + i]? = some (.int .i64 (gr i)) := by
  rcases below16 h with rfl | rfl | rfl | rfl | rfl | rfl | rfl | rfl | rfl | rfl | rfl | rfl | rfl | rfl | rfl | rfl <;> rfl
theorem tbC_setE (M : Nat) (es : Nat → TbE) (gr : Nat → Int) {i : Nat} (h : i < 16) (x : TbE) : (tbC M es gr).set (1 + i) (tbV x) = tbC M (updT es i x) gr := by
  rcases below16 h with rfl | rfl | rfl | rfl | rfl | rfl | rfl | rfl | rfl | rfl | rfl | rfl | rfl | rfl | rfl | rfl <;> rfl
theorem tbC_setG (M : Nat) (es : Nat → TbE) (gr : Nat → Int) {i : Nat} (h : i < 16) (x : Int) : (tbC M es gr).set (17 + i) (.int .i64 x) = tbC M es (updT gr i x) := by
  rcases below16 h with rfl | rfl | rfl | rfl | rfl | rfl | rfl | rfl | rfl | rfl | rfl | rfl | rfl | rfl | rfl | rfl <;> rfl
/-- A Table at block p: es who is there, gr the greatest connection of each peer. -/
structure TB (w : World) (p M : Nat) (es : Nat → TbE) (gr : Nat → Int) : Prop where
  m1 : 1 ≤ M
  m16 : M ≤ 16
  blk : Blk w p 151 (tbC M es gr)
  ent : ∀ i, i < 16 → ∀ b ch, es i = some (b, ch) → Blk w b 98 [.int .i64 (i : Int), .int .i64 (gr i), ch, .pointer none, .int .i64 0] ∧ b ≠ p
  grb : ∀ i, i < 16 → 0 ≤ gr i ∧ gr i ≤ 2147483648
section
variable {w : World} {p M : Nat} {es : Nat → TbE} {gr : Nat → Int}
theorem TB.keep {w' : World} {G : Nat → Prop} (h : TB w p M es gr) (hm : Mod G w w') (hp : ¬ G p) (he : ∀ i, i < 16 → ∀ b ch, es i = some (b, ch) → ¬ G b) : TB w' p M es gr :=
  ⟨h.m1, h.m16, h.blk.keep hm hp, fun i hi b ch e => ⟨(h.ent i hi b ch e).1.keep hm (he i hi b ch e), (h.ent i hi b ch e).2⟩, h.grb⟩
theorem TB.later {w' : World} (h : TB w p M es gr) (hm : Mod (fun _ => False) w w') : TB w' p M es gr := h.keep hm (fun e => e) (fun _ _ _ _ _ e => e)
theorem Ev.tb (h : TB w p M es gr) : Ev (fun W => TB W p M es gr) w := fun _ m => h.later m
theorem TB.cellE (h : TB w p M es gr) {i : Nat} (hi : i < 16) : w.cell? ⟨p, 1 + i, none⟩ = some (tbV (es i)) := h.blk.cell (1 + i) (tbC_e M es gr hi)
theorem TB.cellG (h : TB w p M es gr) {i : Nat} (hi : i < 16) : w.cell? ⟨p, 17 + i, none⟩ = some (.int .i64 (gr i)) := h.blk.cell (17 + i) (tbC_g M es gr hi)
end
/-- Who is there, below a number, rising. -/
def liveN (es : Nat → TbE) (k : Nat) : List Nat := (List.range k).filter fun i => (es i).isSome
theorem liveN_zero (es : Nat → TbE) : liveN es 0 = [] := rfl
theorem liveN_succ (es : Nat → TbE) (k : Nat) : liveN es (k + 1) = liveN es k ++ if (es k).isSome then [k] else [] := by
  unfold liveN
  rw [List.range_succ, List.filter_append]
  congr 1
  by_cases h : (es k).isSome
  · simp [h]
  · simp [h]
theorem liveN_len (es : Nat → TbE) (k : Nat) : (liveN es k).length ≤ k := by
  unfold liveN
  have := List.length_filter_le (fun i => (es i).isSome) (List.range k)
  simpa using this
theorem mem_liveN {es : Nat → TbE} {k i : Nat} : i ∈ liveN es k ↔ i < k ∧ (es i).isSome := by
  unfold liveN
  rw [List.mem_filter, List.mem_range]
theorem liveN_rise (es : Nat → TbE) (k : Nat) : (liveN es k).Pairwise (· < ·) := List.Pairwise.filter _ List.pairwise_lt_range
/-- What May tells: 0, if it may come. -/
def mayC (M : Nat) (es : Nat → TbE) (gr : Nat → Int) (peer conn : Int) : Int :=
  if peer < 0 ∨ 16 ≤ peer ∨ conn < 1 ∨ 2147483648 < conn then 1
  else if conn ≤ gr peer.toNat then 6
  else if M ≤ (liveN es 16).length ∧ es peer.toNat = none then 5 else 0
end Go.Proofs.Ytfdmjnhhgcidbaa
