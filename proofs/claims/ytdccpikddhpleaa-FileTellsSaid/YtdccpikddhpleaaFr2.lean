/- Package frame's Unwrap, by contract. -/
import Derived.Test.YtdccpikddhpleaaFr1
namespace Mile
open Go Go.RowKit
def bodyN (b : List Int) : Int := b.getD 3 0 * 256 + b.getD 4 0
/-- Are bytes a frame, but for the version, and how long it may be? -/
def framed (b : List Int) : Prop := (9 ≤ b.length ∧ (b.length : Int) = bodyN b + 9) ∧ b.getD 0 0 = 77 ∧ undigs 0 (b.drop (b.length - 4)) = (csum (b.take (b.length - 4))).toNat
instance (b : List Int) : Decidable (framed b) := by unfold framed; infer_instance
def unS (b : List Int) : (Int × List Int) × Int :=
  if framed b then (if b.getD 1 0 = 3 then (if bodyN b ≤ 2000 then ((b.getD 2 0, (b.drop 5).take (b.length - 9)), 0) else ((0, []), 2)) else ((0, []), 3)) else ((0, []), 2)
end Mile
namespace Go.Proofs.Ytdccpikddhpleaa
open Go.RowKit Mile
set_option maxRecDepth 100000

/-- The reads of Unwrap, one after the other. -/
def rd1 (b : List Int) := numR 1 (some b)
def rd2 (b : List Int) := numR 1 (rd1 b).2
def rd3 (b : List Int) := numR 1 (rd2 b).2
def rd4 (b : List Int) := numR 2 (rd3 b).2
def rd5 (b : List Int) := takeS (rd4 b).1 (rd4 b).2
def rd6 (b : List Int) := numR 4 (rd5 b).2

theorem numR_some (size : Nat) (h : sizeOk (size : Int) = true) (l : List Int) : numR (size : Int) (some l) = if size ≤ l.length then (undigs 0 (l.take size), some (l.drop size)) else (0, none) := by
  unfold numR
  rw [if_pos h]
  unfold takeS
  simp only [Option.getD_some]
  by_cases hl : size ≤ l.length
  · rw [if_pos ⟨by omega, by omega⟩, if_pos hl]; simp
  · rw [if_neg (by omega), if_neg hl]; rfl
theorem numR_none (size : Nat) (h : 1 ≤ size) : numR (size : Int) none = (0, none) := by
  unfold numR
  by_cases hs : sizeOk (size : Int) = true
  · rw [if_pos hs]; unfold takeS; simp only [Option.getD_none, List.length_nil]; rw [if_neg (by omega)]; rfl
  · rw [if_neg hs]
theorem takeS_none' (n : Int) : (takeS n none).2 = none := by
  unfold takeS; split <;> rfl
/-- What was read is all just if the length is right; then each part is where it is said to be. -/
theorem reads (b : List Int) (hb : ∀ x ∈ b, 0 ≤ x ∧ x < 256) :
    ((rd6 b).2 = some [] ↔ (9 ≤ b.length ∧ (b.length : Int) = bodyN b + 9)) ∧
    ((9 ≤ b.length ∧ (b.length : Int) = bodyN b + 9) → (rd1 b).1 = b.getD 0 0 ∧ (rd2 b).1 = b.getD 1 0 ∧ (rd3 b).1 = b.getD 2 0 ∧ (rd5 b).1 = (b.drop 5).take (b.length - 9) ∧ (rd6 b).1 = undigs 0 (b.drop (b.length - 4))) := by
  have h0 : ∀ l : List Int, numR 1 (some l) = if 1 ≤ l.length then (undigs 0 (l.take 1), some (l.drop 1)) else (0, none) := fun l => numR_some 1 (by decide) l
  have h2 : ∀ l : List Int, numR 2 (some l) = if 2 ≤ l.length then (undigs 0 (l.take 2), some (l.drop 2)) else (0, none) := fun l => numR_some 2 (by decide) l
  have h4 : ∀ l : List Int, numR 4 (some l) = if 4 ≤ l.length then (undigs 0 (l.take 4), some (l.drop 4)) else (0, none) := fun l => numR_some 4 (by decide) l
  have n1 : numR 1 none = (0, none) := numR_none 1 (by omega)
  have n2 : numR 2 none = (0, none) := numR_none 2 (by omega)
  have n4 : numR 4 none = (0, none) := numR_none 4 (by omega)
  match b with
  | [] => simp [rd6, rd5, rd4, rd3, rd2, rd1, h0, n1, n2, n4, takeS_none']
  | [x0] => simp [rd6, rd5, rd4, rd3, rd2, rd1, h0, n1, n2, n4, takeS_none']
  | [x0, x1] => simp [rd6, rd5, rd4, rd3, rd2, rd1, h0, n1, n2, n4, takeS_none']
  | [x0, x1, x2] => simp [rd6, rd5, rd4, rd3, rd2, rd1, h0, h2, n1, n2, n4, takeS_none']
  | [x0, x1, x2, x3] => simp [rd6, rd5, rd4, rd3, rd2, rd1, h0, h2, n1, n2, n4, takeS_none']
  | x0 :: x1 :: x2 :: x3 :: x4 :: r =>
    have e1 : rd1 (x0 :: x1 :: x2 :: x3 :: x4 :: r) = (x0, some (x1 :: x2 :: x3 :: x4 :: r)) := by simp [rd1, h0, undigs]
    have e2 : rd2 (x0 :: x1 :: x2 :: x3 :: x4 :: r) = (x1, some (x2 :: x3 :: x4 :: r)) := by simp [rd2, e1, h0, undigs]
    have e3 : rd3 (x0 :: x1 :: x2 :: x3 :: x4 :: r) = (x2, some (x3 :: x4 :: r)) := by simp [rd3, e2, h0, undigs]
    have e4 : rd4 (x0 :: x1 :: x2 :: x3 :: x4 :: r) = (x3 * 256 + x4, some r) := by simp [rd4, e3, h2, undigs]
    have hn : bodyN (x0 :: x1 :: x2 :: x3 :: x4 :: r) = x3 * 256 + x4 := rfl
    have b3 := hb x3 (by simp)
    have b4 := hb x4 (by simp)
    have hlen : ((x0 :: x1 :: x2 :: x3 :: x4 :: r).length : Int) = r.length + 5 := by simp only [List.length_cons]; omega
    rw [hn]
    obtain ⟨N, hN⟩ := Int.eq_ofNat_of_zero_le (show 0 ≤ x3 * 256 + x4 by omega)
    rw [hN] at e4 ⊢
    by_cases hl : N ≤ r.length
    · have e5 : rd5 (x0 :: x1 :: x2 :: x3 :: x4 :: r) = (r.take N, some (r.drop N)) := by
        unfold rd5
        rw [e4]
        unfold takeS
        simp only [Option.getD_some]
        rw [if_pos ⟨by omega, by omega⟩]; simp
      by_cases h4' : 4 ≤ (r.drop N).length
      · have e6 : rd6 (x0 :: x1 :: x2 :: x3 :: x4 :: r) = (undigs 0 ((r.drop N).take 4), some ((r.drop N).drop 4)) := by unfold rd6; rw [e5, h4, if_pos h4']
        rw [e6, e1, e2, e3, e5]
        rw [List.length_drop] at h4'
        refine ⟨?_, fun ⟨_, hh⟩ => ⟨rfl, rfl, rfl, ?_, ?_⟩⟩
        · simp only [Option.some.injEq, List.drop_eq_nil_iff, List.length_drop, List.length_cons]; omega
        · have : (x0 :: x1 :: x2 :: x3 :: x4 :: r).length - 9 = N := by omega
          rw [this]; rfl
        · have h9 : (x0 :: x1 :: x2 :: x3 :: x4 :: r).length - 4 = N + 5 := by omega
          rw [h9]
          have : (r.drop N).length = 4 := by rw [List.length_drop]; omega
          show undigs 0 ((r.drop N).take 4) = undigs 0 ((x0 :: x1 :: x2 :: x3 :: x4 :: r).drop (N + 5))
          rw [List.take_of_length_le (by omega)]
          rfl
      · have e6 : (rd6 (x0 :: x1 :: x2 :: x3 :: x4 :: r)).2 = none := by unfold rd6; rw [e5, h4, if_neg h4']
        rw [e6]
        rw [List.length_drop] at h4'
        exact ⟨⟨fun h => (by cases h), fun h => (by omega)⟩, fun h => (by omega)⟩
    · have e5 : (rd5 (x0 :: x1 :: x2 :: x3 :: x4 :: r)).2 = none := by
        unfold rd5
        rw [e4]
        unfold takeS
        simp only [Option.getD_some]
        rw [if_neg (by omega)]
      have e6 : (rd6 (x0 :: x1 :: x2 :: x3 :: x4 :: r)).2 = none := by unfold rd6; rw [e5, n4]
      rw [e6]
      exact ⟨⟨fun h => (by cases h), fun h => (by omega)⟩, fun h => (by omega)⟩

theorem numR_sub {size : Int} {s : Option (List Int)} : ∀ x ∈ (numR size s).2.getD [], x ∈ s.getD [] := by
  intro x hx
  unfold numR takeS at hx
  split at hx
  · split at hx
    · cases s with
      | none => simp at hx
      | some l => simp at hx; exact List.mem_of_mem_drop hx
    · simp at hx
  · simp at hx
theorem takeS_sub {n : Int} {s : Option (List Int)} : ∀ x ∈ (takeS n s).2.getD [], x ∈ s.getD [] := by
  intro x hx
  unfold takeS at hx
  split at hx
  · cases s with
    | none => simp at hx
    | some l => simp at hx; exact List.mem_of_mem_drop hx
  · simp at hx
theorem numR_len {size : Int} {s : Option (List Int)} : ((numR size s).2.getD []).length ≤ (s.getD []).length := by
  unfold numR takeS
  split
  · split
    · cases s with
      | none => simp
      | some l => simp
    · simp
  · simp
/-- What Unwrap tells. -/
def UnwrapP (b : List Int) (w : World) (e : Ending) (w' : World) : Prop :=
  ∃ a c, e = .returned (.tuple #[.int .i64 (unS b).1.1, .slice a (unS b).1.2.length c, .int .i64 (unS b).2]) ∧ Fresh w' w.heap.size (.slice a (unS b).1.2.length c) (unS b).1.2 ∧ Mod (fun _ => False) w w'
/-- A Reader of the call's own; nothing that was there has turned. -/
structure RdSt (w W : World) (p : Nat) (s : Option (List Int)) (F : Nat → Prop) : Prop where
  r : Rdr W p s F
  low : ∀ k, F k → w.heap.size ≤ k
  self : F p
  mod : Mod (fun _ => False) w W
theorem RdSt.aft {w W W' : World} {p : Nat} {s s' : Option (List Int)} {F : Nat → Prop} (h : RdSt w W p s F) (hO : Rdr W' p s' F) (ha : Mod (fun k => k = p) W W') : RdSt w W' p s' F :=
  ⟨hO, h.low, h.self, h.mod.trans ha (fun _ _ e => e) (fun i hi e => by have := h.low p h.self; omega)⟩
theorem rdr_self {w : World} {p : Nat} {s : Option (List Int)} {F : Nat → Prop} (h : Rdr w p s F) : F p := by obtain ⟨_, _, _, h3, _⟩ := h; exact h3

end Go.Proofs.Ytdccpikddhpleaa
