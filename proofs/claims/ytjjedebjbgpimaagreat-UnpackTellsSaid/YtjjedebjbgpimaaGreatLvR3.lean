/- The reference's Levels: Rank, Up, Down, Cuts, by contract. -/
import Derived.Test.YtjjedebjbgpimaaGreatLvR2
import Derived.Test.YtjjedebjbgpimaaGreatLv6
namespace Go.Proofs.YtjjedebjbgpimaaGreat
open Go.RowKit Mile
set_option maxRecDepth 100000
attribute [local go_sem] Oper.semAt_some
theorem Ev.lo {w : World} {p n : Nat} {T : List Ar} {V : List Nat} {F : Nat → Prop} (h : LO w p n T V F) : Ev (fun w' => LO w' p n T V F) w := fun _ m => h.later m
theorem Ev.rl {w : World} {p tq rd n : Nat} {T : List Ar} {V : List Nat} (h : RL w p tq rd n T V) : Ev (fun w' => RL w' p tq rd n T V) w := fun _ m => h.later m
def PtrP : Value → World → Prop := fun v _ => ∃ p, v = .pointer (some ⟨p, 0, none⟩)
theorem PtrP.st : ∀ v w w', PtrP v w → Mod (fun _ => False) w w' → PtrP v w' := fun _ _ _ h _ => h
def ArP16 (L : List Ar) : Value → World → Prop := fun v W => ∃ a c, v = .slice a L.length c ∧ Rd W 4 (.slice a L.length c) L.length (L.flatMap c4)
theorem ArP16.st (L : List Ar) : ∀ v w w', ArP16 L v w → Mod (fun _ => False) w w' → ArP16 L v w' := fun _ _ _ ⟨a, c, h, r⟩ m => ⟨a, c, h, r.keep m (fun _ _ e => e)⟩
end Go.Proofs.YtjjedebjbgpimaaGreat
