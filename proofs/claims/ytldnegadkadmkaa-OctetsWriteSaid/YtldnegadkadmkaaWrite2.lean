/- The law OctetsWrite at every argument: what few lets by, and what it does not. -/
import Derived.Test.YtldnegadkadmkaaWrite
namespace Go.Proofs.Ytldnegadkadmkaa
open Go.RowKit Mile

theorem Rd.len_eqW {w : World} {size n m c : Nat} {a : Option Addr} {xs : List Value} (h : Rd w size (.slice a n c) m xs) : n = m ∧ n ≤ maxLen := by
  obtain ⟨_, a', c', he, h1, h2, _⟩ := h
  cases he; exact ⟨rfl, Nat.le_trans h1 h2⟩

theorem write_all (w : World) (a : Option Addr) (n c : Nat) (l : List PartD) (ok : (encSlice encPart).ok w (.slice a n c, l)) :
    Calls Try.prog 3 #[.slice a n c] w fun e w' => e = .returned (.bool true) ∧ Below w.heap.size w w' := by
  obtain ⟨hr, hp⟩ := ok
  obtain ⟨hn, hm⟩ := Rd.len_eqW hr
  have hr' : Rd w 4 (.slice a n c) n (l.flatMap encPart.img) := by rw [hn] at hr ⊢; exact hr
  refine (write_walk w a n c l hn hr' (fun x hx => PartOk.of (hp x hx))).mono fun e w' h => ⟨h.1, h.2.below (Nat.le_refl _) (fun _ e => e.elim)⟩

end Go.Proofs.Ytldnegadkadmkaa
