/- witness.settled, search, Find and Far, by contract. -/
import Derived.Test.YtjjedebjbgpimaaGreatWit3
namespace Go.Proofs.YtjjedebjbgpimaaGreat
open Go.RowKit Mile
set_option maxRecDepth 100000
attribute [local go_sem] Oper.semAt_some
def FinS (c1 c2 l : Nat) (x : RndS) (W : World) : Prop := Mod (fun k => (k = c1 ∨ k = c2) ∨ k = l) x.1 W ∧ Blk W c1 3 [.int .i64 x.2.2.1] ∧ Blk W c2 4 [.bool true]
theorem FinS.put {c1 c2 l : Nat} {x : RndS} {W : World} (h : FinS c1 c2 l x W) (h1 : c1 ≠ l) (h2 : c2 ≠ l) (o : Obj) : FinS c1 c2 l x (W.putObj l o) :=
  ⟨h.1.trans (Mod.putObj W l o) (fun _ _ e => e) (fun _ _ e => .inr e), h.2.1.keep (Mod.putObj W l o) h1, h.2.2.keep (Mod.putObj W l o) h2⟩
end Go.Proofs.YtjjedebjbgpimaaGreat
