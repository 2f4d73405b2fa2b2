/- What holds from a world on, whatever memory is made and whatever becomes of some blocks. -/
import Derived.Test.YtnklgeekjkchbaaEv
namespace Mile
open Go Go.RowKit
/-- From w on, whatever memory is made, and whatever becomes of the blocks of F: P. -/
def EvF (F : Nat → Prop) (P : World → Prop) (w : World) : Prop := ∀ W, Mod F w W → P W
theorem Mod.ofF {F : Nat → Prop} {a b c : World} (h : Mod F a b) (k : Mod F b c) : Mod F a c := h.trans k (fun _ _ e => e) (fun _ _ e => e)
theorem Mod.upF {F : Nat → Prop} {a b : World} (h : Mod (fun _ => False) a b) : Mod F a b := h.mono (fun _ _ e => e.elim)
theorem EvF.now {F : Nat → Prop} {P : World → Prop} {w : World} (h : EvF F P w) : P w := h w (Mod.refl _ _)
theorem EvF.at {F : Nat → Prop} {P : World → Prop} {w W : World} (h : EvF F P w) (m : Mod F w W) : P W := h W m
theorem EvF.step {F : Nat → Prop} {P : World → Prop} {w w' : World} (h : EvF F P w) (m : Mod F w w') : EvF F P w' := fun W k => h W (m.ofF k)
theorem EvF.drew {F : Nat → Prop} {P : World → Prop} {w : World} (h : EvF F P w) : EvF F P (World.drew w) := h.step (Mod.drew _ _)
theorem EvF.and {F : Nat → Prop} {P Q : World → Prop} {w : World} (k : EvF F Q w) (h : EvF F P w) : EvF F (fun W => Q W ∧ P W) w := fun W m => ⟨k W m, h W m⟩
theorem EvF.mod (F : Nat → Prop) (w : World) : EvF F (Mod F w) w := fun _ m => m
theorem EvF.blk {F : Nat → Prop} {w : World} {b : Nat} {T : TypeId} {cs : List Value} (h : Blk w b T cs) (hp : ¬ F b) : EvF F (fun W => Blk W b T cs) w := fun _ m => h.keep m hp
theorem EvF.rdA {F : Nat → Prop} {w : World} {size : Nat} {v : Value} {n : Nat} {xs : List Value} (h : Rd w size v n xs) (hb : ∀ k, v.ownBlock = some k → F k → xs = []) : EvF F (fun W => Rd W size v n xs) w := fun _ m => h.keepA m hb
theorem EvF.size {F : Nat → Prop} {w : World} {n : Nat} (h : n ≤ w.heap.size) : EvF F (fun W => n ≤ W.heap.size) w := fun _ m => Nat.le_trans h m.size
end Mile
