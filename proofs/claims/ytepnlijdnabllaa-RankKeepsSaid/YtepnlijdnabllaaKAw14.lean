/- Law 14's arcs and made, by contract. -/
import Derived.Test.YtepnlijdnabllaaKMd
import Derived.Test.YtepnlijdnabllaaWit4
namespace Go.Proofs.Ytepnlijdnabllaa
open Go.RowKit Mile
set_option maxRecDepth 100000
end Go.Proofs.Ytepnlijdnabllaa
namespace Go.Proofs.Ytepnlijdnabllaa
open Go.RowKit Mile
set_option maxRecDepth 100000
def fixB (n : Nat) (L : List Ar) (fr wo : Int) (d : List Int) : Bool :=
  decide (d.length = n) && d.all (fun x => decide (-1 ≤ x)) && (List.range n).all (fun e => decide (¬ ((e : Int) = fr ∧ fr ≠ wo) ∨ dAt d e = 0)) &&
  (List.range n).all (fun e => decide (dAt d e < 0 ∨ ((e : Int) = fr ∧ fr ≠ wo ∧ dAt d e = 0)) || L.any (fun a => decide (a.t = e ∧ a.t ≠ wo ∧ 0 ≤ dAt d a.f.toNat ∧ dAt d e = dAt d a.f.toNat + a.w))) &&
  L.all (fun a => decide (a.t = wo ∨ dAt d a.f.toNat < 0 ∨ (0 ≤ dAt d a.t.toNat ∧ dAt d a.t.toNat ≤ dAt d a.f.toNat + a.w)))
theorem fix_of {n : Nat} {L : List Ar} {fr wo : Int} {d : List Int} (hok : NetOk n L) (hw : ∀ a ∈ L, a.w ≤ 65535) (h : fixB n L fr wo d = true) : Fix (netW n L fr wo) d := by
  unfold fixB at h
  simp only [Bool.and_eq_true, Bool.or_eq_true, List.all_eq_true, List.any_eq_true, decide_eq_true_eq, List.mem_range] at h
  obtain ⟨⟨⟨⟨h1, h2⟩, h3⟩, h4⟩, h5⟩ := h
  refine ⟨h1, fun e => ?_, fun e he hm => ?_, fun e h0 => ?_, fun e b hr hb => ?_⟩
  · by_cases he : e < d.length
    · rw [dAt_eq d e he]; exact h2 _ (List.getElem_mem he)
    · rw [dAt_out d e (by omega)]; omega
  · exact (h3 e hm).elim (fun x => absurd he x) id
  · have he : e < n := by rw [← h1]; exact dAt_in h0
    rcases h4 e he with (h6 | h6) | ⟨a, ha, h6, h7, h8, h9⟩
    · omega
    · exact .inl ⟨⟨h6.1, h6.2.1⟩, h6.2.2⟩
    · have hm := hok.may a ha
      unfold mayA at hm
      have hf : a.f = (a.f.toNat : Nat) := by omega
      exact .inr ⟨a.f.toNat, netW_rl hok hw ha h6 hf h7, h8, by rw [netW_wt hok.sort ha h6 hf]; exact h9⟩
  · obtain ⟨a, ha, ht, hf, hwo, hwt⟩ := netW_inv hr
    rw [hwt]
    have e1 : a.f.toNat = b := by omega
    have e2 : a.t.toNat = e := by omega
    rcases h5 a ha with h6 | h6 | h6
    · exact absurd h6 hwo
    · rw [e1] at h6; omega
    · rw [e1, e2] at h6; exact h6
theorem aw14_l : putAllN (arcsR ((4 : Nat) : Int) [(0, 1, 0), (1, 2, 0), (0, 3, 4), (3, 2, 4)]) = [⟨0, 1, 1, -1⟩, ⟨0, 3, 5, -1⟩, ⟨1, 2, 1, -1⟩, ⟨3, 2, 5, -1⟩] := by kernel_rfl
theorem aw14_w : ∀ a ∈ ([⟨0, 1, 1, -1⟩, ⟨0, 3, 5, -1⟩, ⟨1, 2, 1, -1⟩, ⟨3, 2, 5, -1⟩] : List Ar), a.w ≤ 65535 := by decide
theorem aw14_f0 : fixB 4 [⟨0, 1, 1, -1⟩, ⟨0, 3, 5, -1⟩, ⟨1, 2, 1, -1⟩, ⟨3, 2, 5, -1⟩] 0 (-1) [0, 1, 2, 5] = true := by decide
theorem aw14_f2 : fixB 4 [⟨0, 1, 1, -1⟩, ⟨0, 3, 5, -1⟩, ⟨1, 2, 1, -1⟩, ⟨3, 2, 5, -1⟩] 2 (-1) [-1, -1, 0, -1] = true := by decide
theorem aw14_f1 : fixB 4 [⟨0, 1, 1, -1⟩, ⟨0, 3, 5, -1⟩, ⟨1, 2, 1, -1⟩, ⟨3, 2, 5, -1⟩] 0 1 [0, -1, 10, 5] = true := by decide
theorem aw14_a : foundB [0, -1, 10, 5] 2 10 30 = true := by decide
theorem aw14_b : foundB [0, -1, 10, 5] 2 9 30 = false := by decide
theorem aw14_c : foundB [0, -1, 10, 5] 2 10 2 = false := by decide
theorem aw14_d : foundB [0, -1, 10, 5] 0 0 1 = true := by decide
end Go.Proofs.Ytepnlijdnabllaa
