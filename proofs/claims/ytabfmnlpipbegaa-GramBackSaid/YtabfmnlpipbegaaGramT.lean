/- A datagram with one to three bits turned; what one is read as, written again: plain. -/
import Derived.Test.YtabfmnlpipbegaaGramN
import Derived.Test.YtabfmnlpipbegaaTurn3
namespace Go.Proofs.Ytabfmnlpipbegaa
open Go.RowKit Mile
set_option maxRecDepth 100000
/-- A datagram that was read is written as it was. -/
theorem norm_form {gc gk gs ga gd : Int} {bo X : List Int} (h : encG ⟨gc, gk, gs, ga, gd, bo⟩ = some X) (hb : ∀ x ∈ bo, 0 ≤ x ∧ x < 256) :
    ∃ ns na nd nb, normG ⟨gc, gk, gs, ga, gd, bo⟩ = ⟨gc, gk, ns, na, nd, nb⟩ ∧ nb.length ≤ bo.length ∧ (∀ x ∈ nb, 0 ≤ x ∧ x < 256) ∧ encG ⟨gc, gk, ns, na, nd, nb⟩ = some X := by
  rcases (dec_enc h).2.1 with hk | hk | hk
  · replace hk : gk = 1 := hk
    subst hk
    exact ⟨gs, ga, 0, bo, rfl, Nat.le_refl _, hb, h⟩
  · replace hk : gk = 2 := hk
    subst hk
    exact ⟨0, ga, 0, [], rfl, Nat.zero_le _, fun x hx => by (cases hx), h⟩
  · replace hk : gk = 3 := hk
    subst hk
    exact ⟨0, 0, gd, [], rfl, Nat.zero_le _, fun x hx => by (cases hx), h⟩
theorem gram_turned {g : GrD} {X : List Int} (h : encG g = some X) (hb : ∀ x ∈ g.body, 0 ≤ x ∧ x < 256) (hn : g.body.length ≤ 300) (ps : List (Nat × Nat)) (hps : ps.length ≤ 3) (hok : ∀ p ∈ ps, (p.1 < X.length ∧ p.2 < 8) ∧ p.1 ≠ 3 ∧ p.1 ≠ 4) :
    ps.foldl flipL X = X ∨ (decG (ps.foldl flipL X)).2 = 2 := by
  unfold encG at h
  cases hg : gBody g with
  | none => rw [hg] at h; cases h
  | some y =>
    rw [hg] at h
    replace h : wrapS g.kind y = some X := h
    unfold wrapS at h
    split at h
    · rename_i hc
      have e := Option.some.inj h
      have hy := gBody_len0 g
      rw [hg] at hy
      replace hy : y.length ≤ 30 + g.body.length := hy
      have hl : X.length = y.length + 9 := by rw [← e, fr_len, hd_len]
      rcases turned hc.1 (gBody_range hb hg) (by omega) e ps hps (fun p hp => by rw [← hl]; exact hok p hp) with h1 | h1
      · exact .inl h1
      · refine .inr ?_
        unfold decG
        rw [h1]
        rfl
    · cases h
end Go.Proofs.Ytabfmnlpipbegaa
