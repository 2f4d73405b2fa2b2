/- A row of what is closed; rows of how far, told at once. -/
import Derived.Test.YtgiojfihgdifbaaAwake11
import Derived.Test.YtgiojfihgdifbaaLaw11
namespace Go.Proofs.Ytgiojfihgdifbaa
open Go.RowKit Mile
set_option maxRecDepth 100000
/-- A row of which edges are closed. -/
def BRow (cl : List Bool) : Value → World → Prop := fun v W => ∃ a n c, v = .slice a n c ∧ cl.length = n ∧ Rd W 1 (.slice a n c) n (cl.map Value.bool)
theorem BRow.st {cl : List Bool} : ∀ v w w', BRow cl v w → Mod (fun _ => False) w w' → BRow cl v w' := fun _ _ _ ⟨a, n, c, h1, h2, h3⟩ m => ⟨a, n, c, h1, h2, h3.keep m (fun _ _ e => e)⟩
theorem shut_row (G : GD) (hm1 : 1 ≤ G.E.length) (w : World) (a1 : Option Addr) (n1 d1 : Nat) (a2 : Option Addr) (n2 d2 : Nat) (a3 : Option Addr) (n3 d3 : Nat) (h : GV w a1 n1 d1 a2 n2 d2 a3 n3 d3 G) (hes : n2 ≤ 512) (a : Option Addr) (n c : Nat) (l : List Int) (hn : l.length = n) (hr : Rd w 1 (.slice a n c) n (l.map (Value.int .i64))) (hnb : n ≤ 100000) :
    Calls Try.prog 13 #[.agg #[.slice a1 n1 d1, .slice a2 n2 d2, .slice a3 n3 d3], .slice a n c] w fun e w' => ∃ x, e = .returned x ∧ BRow (shutL n2 l) x w' ∧ Mod (fun _ => False) w w' := by
  refine (shut_any G hm1 w a1 n1 d1 a2 n2 d2 a3 n3 d3 h hes a n c l hn hr hnb).mono ?_
  rintro e w' ⟨rb, rfl, ho, hm⟩
  exact ⟨_, rfl, ⟨_, _, _, rfl, shutL_len n2 l, Rd.ofOwn ho⟩, hm⟩
/-- A row of how far, of which P holds. -/
def FixV (Z : Web) : Value → World → Prop := fun v W => ∃ a c xs, v = .slice a Z.m c ∧ xs.length = Z.m ∧ Rd W 1 (.slice a Z.m c) Z.m (xs.map (Value.int .i64)) ∧ Fix Z xs
theorem dto_fix (t p B C : Nat) (G : GD) (hm : May G) (w : World) (h : TO w t p B C G) (v : Int) (hv : 0 ≤ v ∧ v < (G.N.length : Int)) (m2 : Nat) (he : G.E.length = m2) (a : Option Addr) (n c : Nat) (cl : List Bool) (hn : cl.length = n) (hr : Rd w 1 (.slice a n c) n (cl.map Value.bool)) :
    Calls Try.prog 15 #[.pointer (some ⟨t, 0, none⟩), .int .i64 v, .slice a n c] w fun e w' => ∃ x c xs, e = .returned (.slice x m2 c) ∧ xs.length = m2 ∧ Rd w' 1 (.slice x m2 c) m2 (xs.map (Value.int .i64)) ∧ Fix (webTo G hm v cl) xs ∧ Mod (fun _ => False) w w' := by
  subst he
  refine (dto_far t p B C G hm w h v a n c cl hn hr).mono ?_
  rintro e w' ⟨x, rfl, ⟨a2, nf, c2, xs, rfl, h1, h2, h3, ⟨_, h4⟩ | ⟨h4, _⟩⟩, h5⟩
  · have hl : xs.length = G.E.length := h4.len
    obtain rfl : G.E.length = nf := by omega
    exact ⟨a2, c2, xs, rfl, hl, h3, h4, h5⟩
  · exact absurd hv h4
end Go.Proofs.Ytgiojfihgdifbaa
