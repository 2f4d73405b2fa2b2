/- Rows of whatever elements that a statement makes in a drawn order: empty ones, literals, appends. -/
import Derived.Test.YtjjedebjbgpimaaGreatKBase
namespace Mile
open Go Go.RowKit
def OwnT (T : TypeId) (size B0 n : Nat) (xs : List Value) : Value → World → Prop := fun v W => ∃ a c, v = .slice a n c ∧ W.ownsRow B0 T size v n xs
def EmpT (T : TypeId) (size B0 : Nat) : Value → World → Prop := fun v W => ∃ a, v = .slice a 0 0 ∧ W.ownsRow B0 T size v 0 []
def LitT (size : Nat) (xs : List Value) : Value → World → Prop := fun v W => ∃ p, v = .slice (some ⟨p, 0, none⟩) 1 1 ∧ Rd W size v 1 xs
theorem OwnT.st {T : TypeId} {size B0 n : Nat} {xs : List Value} : ∀ v w w', OwnT T size B0 n xs v w → Mod (fun _ => False) w w' → OwnT T size B0 n xs v w' := fun _ _ _ ⟨a, c, h, o⟩ m => ⟨a, c, h, Own.keep o m (fun _ _ e => e)⟩
theorem EmpT.st {T : TypeId} {size B0 : Nat} : ∀ v w w', EmpT T size B0 v w → Mod (fun _ => False) w w' → EmpT T size B0 v w' := fun _ _ _ ⟨a, h, o⟩ m => ⟨a, h, Own.keep o m (fun _ _ e => e)⟩
theorem LitT.st {size : Nat} {xs : List Value} : ∀ v w w', LitT size xs v w → Mod (fun _ => False) w w' → LitT size xs v w' := fun _ _ _ ⟨p, h, r⟩ m => ⟨p, h, r.keep m (fun _ _ e => e)⟩
end Mile
namespace Mile
open Go Go.RowKit
/-- Another row, apart, stays behind an append, and is apart from what it made. -/
theorem Appended.others {w w' : World} {e : TypeId} {size : Nat} {v v' : Value} {n' : Nat} {ys : List Value} (hap : Appended w w' e size v v' n' ys) {base : Nat} {e2 : TypeId} {s2 : Nat} {u : Value} {n : Nat} {xs : List Value} (ho : w.ownsRow base e2 s2 u n xs) (hd : ∀ k, v.ownBlock = some k → u.ownBlock ≠ some k) :
    w'.ownsRow base e2 s2 u n xs ∧ ∀ k, v'.ownBlock = some k → u.ownBlock ≠ some k :=
  ⟨Own.keep ho hap.mod (fun k hk e => hd k e hk), fun k hk e => by
    rcases hap.row k hk with h | h
    · exact hd k h e
    · have := Own.lt ho e; omega⟩
end Mile
namespace Mile
open Go Go.RowKit
/-- Rows of different types lie in different blocks. -/
theorem own_types {w : World} {B1 B2 : Nat} {e1 e2 : TypeId} {s1 s2 : Nat} {v1 v2 : Value} {n1 n2 : Nat} {xs1 xs2 : List Value} (h1 : w.ownsRow B1 e1 s1 v1 n1 xs1) (h2 : w.ownsRow B2 e2 s2 v2 n2 xs2) (hne : e1 ≠ e2) : ∀ k, v1.ownBlock = some k → v2.ownBlock ≠ some k := fun k hk1 hk2 => by
  rcases h1.2 with ⟨rfl, _⟩ | ⟨g1, c1, u1, rfl, _, hg1, _⟩
  · cases hk1
  · rcases h2.2 with ⟨rfl, _⟩ | ⟨g2, c2, u2, rfl, _, hg2, _⟩
    · cases hk2
    · have e1' : g1 = k := Option.some.inj hk1
      have e2' : g2 = k := Option.some.inj hk2
      subst e1'
      subst e2'
      rw [hg1] at hg2
      injection hg2 with hg2
      injection hg2 with _ ht _
      exact hne ht
/-- A fact that speaks of another operation's value. -/
structure RelK (P : Value → Value → World → Prop) (k : Nat) (vs : Nat → Value) (v : Value) (w : World) : Prop where
  out : P (vs k) v w
end Mile
