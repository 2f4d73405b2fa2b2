/- Rows of whatever elements that a statement makes in a drawn order: empty ones, literals, appends. -/
import Derived.Test.YtjjedebjbgpimaaGreatKBase
namespace Mile
open Go Go.RowKit
def OwnT (T : TypeId) (size B0 n : Nat) (xs : List Value) : Value → World → Prop := fun v W => ∃ a c, v = .slice a n c ∧ W.ownsRow B0 T size v n xs
def EmpT (T : TypeId) (size B0 : Nat) : Value → World → Prop := fun v W => ∃ a, v = .slice a 0 0 ∧ W.ownsRow B0 T size v 0 []
def LitT (size : Nat) (xs : List Value) : Value → World → Prop := fun v W => ∃ p, v = .slice (some ⟨p, 0, none⟩) 1 1 ∧ Rd W size v 1 xs
theorem OwnT.st {T : TypeId} {size B0 n : Nat} {xs : List Value} : ∀ v w w', OwnT T size B0 n xs v w → Mod (fun _ => False) w w' → OwnT T size B0 n xs v w' := fun _ _ _ ⟨a, c, h, o⟩ m => ⟨a, c, h, Own.keep o m (fun _ _ e => e)⟩
theorem EmpT.st {T : TypeId} {size B0 : Nat} : ∀ v w w', EmpT T size B0 v w → Mod (fun _ => False) w w' → EmpT T size B0 v w' := fun _ _ _ ⟨a, h, o⟩ m => ⟨a, h, Own.keep o m (fun _ _ e => e)⟩
theorem LitT.st {size : Nat} {xs : List Value} : ∀ v w w', LitT size xs v w → Mod (fun _ => False) w w' → LitT size xs v w' := fun _ _ _ ⟨p, h, r⟩ m => ⟨p, h, r.keep m (fun _ _ e => e)⟩
end Mile
namespace Mile
open Go Go.RowKit
theorem Appended.others {w w' : World} {e : TypeId} {size : Nat} {v v' : Value} {n' : Nat} {ys : List Value} (hap : Appended w w' e size v v' n' ys) {base : Nat} {e2 : TypeId} {s2 : Nat} {u : Value} {n : Nat} {xs : List Value} (ho : w.ownsRow base e2 s2 u n xs) (hd : ∀ k, v.ownBlock = some k → u.ownBlock ≠ some k) :
    w'.ownsRow base e2 s2 u n xs ∧ ∀ k, v'.ownBlock = some k → u.ownBlock ≠ some k :=
  ⟨Own.keep ho hap.mod (fun k hk e => hd k e hk), fun k hk e => by
    rcases hap.row k hk with h | h
    · exact hd k h e
    · have := Own.lt ho e; omega⟩
end Mile
namespace Mile
open Go Go.RowKit
structure RelK (P : Value → Value → World → Prop) (k : Nat) (vs : Nat → Value) (v : Value) (w : World) : Prop where
  out : P (vs k) v w
end Mile
