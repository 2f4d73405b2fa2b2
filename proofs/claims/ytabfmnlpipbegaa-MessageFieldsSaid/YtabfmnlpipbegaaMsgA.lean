/- A message that came in. -/
import Derived.Test.YtabfmnlpipbegaaMsg5
import Derived.Test.YtabfmnlpipbegaaGramA
namespace Go.Proofs.Ytabfmnlpipbegaa
open Go.RowKit Mile
set_option maxRecDepth 100000
abbrev HintD := Int × Int × Int × Int × Unit
def encHint : Enc HintD := encPair (encInt .i64) (encPair (encInt .i64) (encPair (encInt .i64) (encPair (encInt .i64) encUnit)))
theorem opens_hint : Opens Try.prog 24 encHint :=
  opens_struct Try.underlying24 (by kernel_rfl) (opens_cons rfl (by kernel_rfl) (opens_int Try.underlying3) (opens_cons rfl (by kernel_rfl) (opens_int Try.underlying3) (opens_cons rfl (by kernel_rfl) (opens_int Try.underlying3) (opens_cons rfl (by kernel_rfl) (opens_int Try.underlying3) (opens_nil _ _)))))
abbrev MsgD := Int × Int × Int × (Value × List Int) × Int × HintD × Unit
def encMsg : Enc MsgD := encPair (encInt .i64) (encPair (encInt .i64) (encPair (encInt .i64) (encPair (encSlice (encInt .i64)) (encPair (encInt .i64) (encPair encHint encUnit)))))
theorem opens_msg : Opens Try.prog 26 encMsg :=
  opens_struct Try.underlying26 (by kernel_rfl) (opens_cons rfl (by kernel_rfl) (opens_int Try.underlying3) (opens_cons rfl (by kernel_rfl) (opens_int Try.underlying3) (opens_cons rfl (by kernel_rfl) (opens_int Try.underlying3)
    (opens_cons rfl (by kernel_rfl) (opens_slice Try.underlying22 (by kernel_rfl) (opens_int Try.underlying3) (by decide)) (opens_cons rfl (by kernel_rfl) (opens_int Try.underlying3) (opens_cons rfl (by kernel_rfl) opens_hint (opens_nil _ _)))))))
theorem i64_wfM (n : Int) (h : (Lit.int .i64 n).wf = true) : -9223372036854775808 ≤ n ∧ n ≤ 9223372036854775807 := by
  simpa [Lit.wf, IntKind.min, IntKind.max, IntKind.signed, IntKind.bits] using h
/-- What came in reads as a message. -/
theorem msg_in {w : World} {cs : Array Value} {x : MsgD} (hcs : cs.toList = encMsg.img x) (ok : encMsg.ok w x) :
    ∃ (m : MsD) (a : Option Addr) (n c : Nat), .agg cs = msgV m a n c ∧ m.edges.length = n ∧ Rd w 1 (.slice a n c) n (m.edges.map (Value.int .i64)) ∧ -9223372036854775808 ≤ m.he ∧ m.he ≤ 9223372036854775807 := by
  obtain ⟨x1, x2, x3, ⟨v, l⟩, x5, ⟨h1, h2, h3, h4, u1⟩, u⟩ := x
  obtain ⟨_, _, _, ok4, _, ⟨_, okh, _⟩, _⟩ := ok
  have r := ok4.1
  obtain ⟨_, a, c, e1, _⟩ := r
  simp only at e1
  subst e1
  obtain ⟨hn, hr, hb⟩ := ok_ints ok4
  have hh := i64_wfM h2 okh
  exact ⟨⟨x1, x2, x3, l, x5, h1, h2, h3, h4⟩, a, l.length, c, by rw [← Array.toArray_toList (xs := cs), hcs]; rfl, rfl, hr, hh.1, hh.2⟩
theorem numsS_length {s : Nat} {l bs cs : List Int} (h : numsS (s : Int) l (some bs) = some cs) : cs.length = bs.length + s * l.length := by
  replace h : (if sizeOk (s : Int) then numsL (s : Int).toNat bs l else none) = some cs := h
  split at h
  · exact numsL_length _ _ _ _ h
  · cases h
/-- How long a message's bytes are. -/
theorem mBytes_le {m : MsD} {bs : List Int} (h : mBytes m = some bs) : bs.length ≤ 1040 := by
  unfold mBytes at h
  have k1 : ∀ {b1 : List Int}, numsS 1 [m.kind] (some []) = some b1 → b1.length = 1 := fun hh => by
    have := numsS_length (s := 1) hh; simpa using this
  split at h
  · obtain ⟨b1, e1⟩ := numsS_some h
    have l1 := k1 e1
    rw [e1] at h
    have l2 := numsS_length (s := 2) h
    simp at l2; omega
  · split at h
    · obtain ⟨b1, e1⟩ := numsS_some h
      have l1 := k1 e1
      rw [e1] at h
      have l2 := numsS_length (s := 2) h
      simp at l2; omega
    · split at h
      · split at h
        · cases h
        · rename_i hle
          obtain ⟨b4, e4⟩ := numsS_some h
          rw [e4] at h
          obtain ⟨b3, e3⟩ := numsS_some e4
          rw [e3] at e4
          obtain ⟨b1, e1⟩ := numsS_some e3
          have l1 := k1 e1
          rw [e1] at e3
          have l3 := numsS_length (s := 5) e3
          have l4 := numsS_length (s := 2) e4
          have l5 := numsS_length (s := 2) h
          simp at l3 l4 l5; omega
      · split at h
        · obtain ⟨b4, e4⟩ := numsS_some h
          rw [e4] at h
          obtain ⟨b3, e3⟩ := numsS_some e4
          rw [e3] at e4
          obtain ⟨b1, e1⟩ := numsS_some e3
          have l1 := k1 e1
          rw [e1] at e3
          have l3 := numsS_length (s := 1) e3
          have l4 := numsS_length (s := 2) e4
          have l5 := numsS_length (s := 5) h
          simp at l3 l4 l5; omega
        · split at h
          · have l1 := k1 h
            omega
          · cases h
theorem normM_len (m : MsD) : (normM m).edges.length ≤ m.edges.length := by
  unfold normM
  split
  · simp
  · split
    · simp
    · split
      · exact Nat.le_refl _
      · split <;> simp
theorem normM_he (m : MsD) (h : -9223372036854775808 ≤ m.he ∧ m.he ≤ 9223372036854775807) : -9223372036854775808 ≤ (normM m).he ∧ (normM m).he ≤ 9223372036854775807 := by
  have h0 : (-9223372036854775808 : Int) ≤ 0 ∧ (0 : Int) ≤ 9223372036854775807 := by decide
  unfold normM
  split
  · exact h0
  · split
    · exact h0
    · split
      · exact h0
      · split
        · exact h
        · exact h0
end Go.Proofs.Ytabfmnlpipbegaa
