/- bytes.Equal by contract; a frame that is read is that of its kind and body. -/
import Derived.Test.YtabfmnlpipbegaaFr5
import Derived.Test.YtabfmnlpipbegaaFr3
namespace Go.Proofs.Ytabfmnlpipbegaa
open Go.RowKit Mile
set_option maxRecDepth 100000
theorem equal_any (w : World) (a : Option Addr) (n c : Nat) (xs : List Int) (_ : xs.length = n) (hr : Rd w 1 (.slice a n c) n (xs.map (Value.int .u8))) (hx : ∀ x ∈ xs, 0 ≤ x ∧ x < 256)
    (a2 : Option Addr) (n2 d2 : Nat) (ys : List Int) (hn2 : ys.length = n2) (hr2 : Rd w 1 (.slice a2 n2 d2) n2 (ys.map (Value.int .u8))) (hy : ∀ x ∈ ys, 0 ≤ x ∧ x < 256) :
    Calls Try.prog 29 #[.slice a n c, .slice a2 n2 d2] w fun e w' => e = .returned (.bool (decide (xs = ys))) ∧ w = w' := by
  have k1 := run_strS w 27 9 5 Try.underlying27 Try.underlying5 Try.underlying9 hr
  have k2 := run_strS w 27 9 5 Try.underlying27 Try.underlying5 Try.underlying9 hr2
  obtain ⟨r, hres⟩ : ∃ r, decide (xs = ys) = r := ⟨_, rfl⟩
  rw [hres]
  have hxy : ((strOf xs).toList == (strOf ys).toList) = r := by
    rw [← beq_toListBytes, ← hres]
    by_cases h : xs = ys
    · subst h
      simp
      cases strOf xs with | mk x => show (x == x) = true; simp
    · rw [decide_eq_false h]; exact bytes_beq_ne3 (fun e => h (strOf_inj3 hx hy e))
  obtain ⟨X, hX⟩ : ∃ X, strOf xs = X := ⟨_, rfl⟩
  obtain ⟨Y, hY⟩ : ∃ Y, strOf ys = Y := ⟨_, rfl⟩
  rw [hX] at k1 hxy
  rw [hY] at k2 hxy
  clear hX hY hres hr hr2
  go_enter Try.func29, Try.ntmps29
  go_wp2_with fail
  go_ret
  exact ⟨by rw [← hxy]; rfl, rfl⟩
theorem unS_frame {b : List Int} (hb : ∀ x ∈ b, 0 ≤ x ∧ x < 256) (h : (unS b).2 = 0) : b = frL (hdL (unS b).1.1 (unS b).1.2) ∧ (unS b).1.2.length ≤ 2000 ∧ (0 ≤ (unS b).1.1 ∧ (unS b).1.1 < 256) := by
  unfold unS at h ⊢
  by_cases hf : framed b
  · rw [if_pos hf] at h ⊢
    by_cases h3 : b.getD 1 0 = 3
    · rw [if_pos h3] at h ⊢
      by_cases h2 : bodyN b ≤ 2000
      · rw [if_pos h2]
        have hff := hf
        obtain ⟨⟨h9, hl⟩, h77, _⟩ := hff
        have hfr := (framed_iff (b := b) (m := b.length - 4) (by omega) (by omega) (by omega) hb h77).1 hf
        match b, hb, h3, h2, h9, hl, h77, hfr with
        | x0 :: x1 :: x2 :: x3 :: x4 :: r, hb, h3, h2, h9, hl, h77, hfr =>
          have b2 := hb x2 (by simp)
          have b3 := hb x3 (by simp)
          have b4 := hb x4 (by simp)
          have e0 : x0 = 77 := h77
          have e1 : x1 = 3 := h3
          have hn : bodyN (x0 :: x1 :: x2 :: x3 :: x4 :: r) = x3 * 256 + x4 := rfl
          rw [hn] at hl h2
          simp only [List.length_cons] at h9 hl
          have hbl : (r.take (r.length - 4)).length = r.length - 4 := by rw [List.length_take]; omega
          have ed : (((x0 :: x1 :: x2 :: x3 :: x4 :: r).drop 5).take ((x0 :: x1 :: x2 :: x3 :: x4 :: r).length - 9)) = r.take (r.length - 4) := by
            show r.take (r.length + 1 + 1 + 1 + 1 + 1 - 9) = _
            rw [show r.length + 1 + 1 + 1 + 1 + 1 - 9 = r.length - 4 by omega]
          have ek : (x0 :: x1 :: x2 :: x3 :: x4 :: r).getD 2 0 = x2 := rfl
          have et : (x0 :: x1 :: x2 :: x3 :: x4 :: r).take ((x0 :: x1 :: x2 :: x3 :: x4 :: r).length - 4) = x0 :: x1 :: x2 :: x3 :: x4 :: r.take (r.length - 4) := by
            show (x0 :: x1 :: x2 :: x3 :: x4 :: r).take (r.length + 1 + 1 + 1 + 1 + 1 - 4) = _
            rw [show r.length + 1 + 1 + 1 + 1 + 1 - 4 = (r.length - 4) + 1 + 1 + 1 + 1 + 1 by omega]
            rfl
          simp only [ed, ek]
          rw [et] at hfr
          refine ⟨?_, by rw [hbl]; omega, b2⟩
          rw [← hfr]
          congr 1
          rw [hd_form, hbl, e0, e1]
          have q : ((r.length - 4 : Nat) : Int) = x3 * 256 + x4 := by omega
          rw [q]
          have q1 : (x3 * 256 + x4) / 256 % 256 = x3 := by omega
          have q2 : (x3 * 256 + x4) % 256 = x4 := by omega
          rw [q1, q2]
      · rw [if_neg h2] at h; exact absurd h (by decide)
    · rw [if_neg h3] at h; exact absurd h (by decide)
  · rw [if_neg hf] at h; exact absurd h (by decide)
end Go.Proofs.Ytabfmnlpipbegaa
