/- What holds from a world on, whatever memory is made. -/
import Derived.Test.YtbjdjafkpldbnaaBase2
namespace Mile
open Go Go.RowKit

theorem heap_size_alloc (w : World) (o : Obj) : (World.alloc w o).heap.size = w.heap.size + 1 := by simp

/-- From w on, whatever memory is made: P. -/
def Ev (P : World → Prop) (w : World) : Prop := ∀ W, Mod (fun _ => False) w W → P W
theorem Mod.of2 {a b c : World} (h : Mod (fun _ => False) a b) (k : Mod (fun _ => False) b c) : Mod (fun _ => False) a c := h.trans k (fun _ _ e => e) (fun _ _ e => e)
theorem Ev.at {P : World → Prop} {w W : World} (h : Ev P w) (m : Mod (fun _ => False) w W) : P W := h W m
theorem Ev.now {P : World → Prop} {w : World} (h : Ev P w) : P w := h w (Mod.refl _ _)
theorem Ev.step {P : World → Prop} {w w' : World} (h : Ev P w) (m : Mod (fun _ => False) w w') : Ev P w' := fun W k => h W (m.of2 k)
theorem Ev.drew {P : World → Prop} {w : World} (h : Ev P w) : Ev P (World.drew w) := h.step (Mod.drew _ _)
theorem Ev.and {P Q : World → Prop} {w : World} (k : Ev Q w) (h : Ev P w) : Ev (fun W => Q W ∧ P W) w := fun W m => ⟨k W m, h W m⟩
theorem Ev.mod (w : World) : Ev (Mod (fun _ => False) w) w := fun _ m => m
theorem Ev.blk {w : World} {b : Nat} {T : TypeId} {cs : List Value} (h : Blk w b T cs) : Ev (fun W => Blk W b T cs) w := fun _ m => h.keep m (fun e => e)
theorem Ev.rd {w : World} {size : Nat} {v : Value} {n : Nat} {xs : List Value} (h : Rd w size v n xs) : Ev (fun W => Rd W size v n xs) w := fun _ m => h.keep m (fun _ _ e => e)
theorem Ev.own {w : World} {base : Nat} {e : TypeId} {size : Nat} {v : Value} {n : Nat} {xs : List Value} (h : w.ownsRow base e size v n xs) : Ev (fun W => W.ownsRow base e size v n xs) w := fun _ m => Own.keep h m (fun _ _ e => e)
theorem Ev.cell {w : World} {p : Addr} {v : Value} (h : w.cell? p = some v) : Ev (fun W => W.cell? p = some v) w := fun _ m => m.cell h (fun e => e)
theorem Ev.imp {P Q : World → Prop} {w : World} (h : Ev P w) (k : ∀ W, P W → Q W) : Ev Q w := fun W m => k W (h W m)
/-- A part of what holds. -/
theorem Ev.of {P : World → Prop} {w : World} (h : ∀ W, Mod (fun _ => False) w W → P W) : Ev P w := h
/-- Where element i of a row of numbers lies; its cell. -/
theorem rd1 {w : World} {n c : Nat} {a : Option Addr} {S : List Int} (h : Rd w 1 (.slice a n c) n (S.map (Value.int .i64))) (i : Nat) (hi : i < S.length) :
    ∃ b o, elemA a i 1 = ⟨b, o, none⟩ ∧ w.cell? ⟨b, o, none⟩ = some (.int .i64 S[i]) := by
  have hn : n = S.length := by have := h.1; simp at this; omega
  obtain ⟨b, o, hp, _⟩ := h.place (j := i) (by omega)
  exact ⟨b, o, hp, by have := h.elem (j := i) (u := .int .i64 S[i]) (by simp [hi]); rwa [hp] at this⟩
end Mile
