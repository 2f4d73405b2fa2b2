/- Contracts of package octets: Nums at every Writer and every numbers; Raw; bytes.Clone; Bytes. -/
import Derived.Test.YtabfmnlpipbegaaNums
namespace Go.Proofs.Ytabfmnlpipbegaa
open Go.RowKit Mile
set_option maxRecDepth 100000

theorem nums_none (p : Nat) (w : World) (F : Nat → Prop) (h : Wr w p none F) (size : Int) (nv : Value) :
    Calls Try.prog 25 #[.pointer (some ⟨p, 0, none⟩), .int .i64 size, nv] w fun e w' => e = .returned (.pointer (some ⟨p, 0, none⟩)) ∧ w = w' := by
  have f1 : w.cell? ⟨p, 1, none⟩ = some (.bool true) := by obtain ⟨v, h1, _⟩ := h; exact h1.cell 1 rfl
  go_enter Try.func25, Try.ntmps25
  go_wp2
  go_ret
  exact ⟨rfl, rfl⟩

theorem nums_nil (w : World) (size : Int) (nv : Value) :
    Calls Try.prog 25 #[.pointer none, .int .i64 size, nv] w fun e w' => e = .returned (.pointer none) ∧ w = w' := by
  go_enter Try.func25, Try.ntmps25
  go_wp2
  go_ret
  exact ⟨rfl, rfl⟩

theorem nums_bad (p : Nat) (w : World) (bs : List Int) (F : Nat → Prop) (h : Wr w p (some bs) F) (size : Int) (nv : Value) (hb : sizeOk size = false) :
    Calls Try.prog 25 #[.pointer (some ⟨p, 0, none⟩), .int .i64 size, nv] w fun e w' => e = .returned (.pointer (some ⟨p, 0, none⟩)) ∧ Wr w' p none F ∧ After w w' F F := by
  have f1 : w.cell? ⟨p, 1, none⟩ = some (.bool false) := by obtain ⟨v, h1, _⟩ := h; exact h1.cell 1 rfl
  go_enter Try.func25, Try.ntmps25
  go_wp2_with (first | (go_at_call 41; refine (sizeFits_any _ _).mono ?_; rintro e w' ⟨rfl, rfl⟩) | (go_at_call 42; refine (spoil_any p _ _ _ h).mono ?_; rintro e w' ⟨rfl, hW', hA'⟩))
  go_ret
  exact ⟨rfl, hW', hA'⟩

theorem nums_empty (p : Nat) (w : World) (bs : List Int) (F : Nat → Prop) (h : Wr w p (some bs) F) (size : Int) (hok : sizeOk size = true) (a : Option Addr) (c : Nat) :
    Calls Try.prog 25 #[.pointer (some ⟨p, 0, none⟩), .int .i64 size, .slice a 0 c] w fun e w' => e = .returned (.pointer (some ⟨p, 0, none⟩)) ∧ w = w' := by
  have f1 : w.cell? ⟨p, 1, none⟩ = some (.bool false) := by obtain ⟨v, h1, _⟩ := h; exact h1.cell 1 rfl
  go_enter Try.func25, Try.ntmps25
  go_wp2_with (first | (go_at_call 41; refine (sizeFits_any _ _).mono ?_; rintro e w' ⟨rfl, rfl⟩))
  refine wp_loop_rounds 1 ?_
  rw [rounds_succ]
  go_wp2
  go_ret
  exact ⟨rfl, rfl⟩

/-- Nums, whatever the Writer and the numbers. -/
theorem nums_any (p : Nat) (w : World) (s : Option (List Int)) (F : Nat → Prop) (h : Wr w p s F) (size : Int) (nv : Value) (ns : List Int)
    (hrd : Rd w 1 nv ns.length (ns.map (Value.int .i64))) (hb : ∀ k, nv.ownBlock = some k → F k → ns = []) (hbd : (s.getD []).length + 7 * ns.length ≤ 1000000000) :
    Calls Try.prog 25 #[.pointer (some ⟨p, 0, none⟩), .int .i64 size, nv] w fun e w' =>
      e = .returned (.pointer (some ⟨p, 0, none⟩)) ∧ ∃ F', Wr w' p (numsS size ns s) F' ∧ After w w' F F' := by
  cases s with
  | none => exact (nums_none p w F h size nv).mono (by rintro e w' ⟨rfl, rfl⟩; exact ⟨rfl, F, h, After.refl _ _⟩)
  | some bs =>
    by_cases hok : sizeOk size = true
    · have e0 : numsS size ns (some bs) = numsL size.toNat bs ns := by simp [numsS, hok]
      rw [e0]
      rcases hrd.shape with ⟨hn, _, a, c, rfl⟩ | ⟨_, b, off, c, rfl, _, _⟩
      · obtain rfl : ns = [] := List.eq_nil_of_length_eq_zero hn
        exact (nums_empty p w bs F h size hok a c).mono (by rintro e w' ⟨rfl, rfl⟩; exact ⟨rfl, F, h, After.refl _ _⟩)
      · have hs : 1 ≤ size ∧ size ≤ 7 := by simpa [sizeOk] using hok
        exact nums_go p w bs F h size hs.1 hs.2 b off c ns hrd (hb b (by simp [Value.ownBlock])) (by simpa using hbd)
    · simp only [Bool.not_eq_true] at hok
      have e0 : numsS size ns (some bs) = none := by simp [numsS, hok]
      rw [e0]
      exact (nums_bad p w bs F h size nv hok).mono (by rintro e w' ⟨rfl, hW, hA⟩; exact ⟨rfl, F, hW, hA⟩)

end Go.Proofs.Ytabfmnlpipbegaa
