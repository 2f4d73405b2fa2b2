/- A region that draws its order, with one variable in memory that it makes (operation m) and fills (operation s); all other operations leave values that are known. -/
import Derived.Test.YtmpcpmgpnccphaaRegion4
namespace Mile
open Go Go.RowKit
/-- Blocks from B0 on alone may have turned; those of T that held Z hold Z or X, those that held X hold X. -/
structure BoxR (B0 : Nat) (T : TypeId) (Z X : List Value) (w w' : World) : Prop where
  mod : Mod (fun k => B0 ≤ k) w w'
  z : ∀ b, Blk w b T Z → Blk w' b T Z ∨ Blk w' b T X
  x : ∀ b, Blk w b T X → Blk w' b T X
theorem BoxR.refl (B0 : Nat) (T : TypeId) (Z X : List Value) (w : World) : BoxR B0 T Z X w w := ⟨Mod.refl _ _, fun _ h => .inl h, fun _ h => h⟩
theorem BoxR.trans {B0 : Nat} {T : TypeId} {Z X : List Value} {a b c : World} (h : BoxR B0 T Z X a b) (k : BoxR B0 T Z X b c) : BoxR B0 T Z X a c :=
  ⟨h.mod.trans k.mod (fun _ _ e => e) (fun _ _ e => e), fun q hq => (h.z q hq).elim (k.z q) (fun e => .inr (k.x q e)), fun q hq => k.x q (h.x q hq)⟩
theorem BoxR.of {B0 : Nat} {T : TypeId} {Z X : List Value} {a b : World} (h : Mod (fun _ => False) a b) : BoxR B0 T Z X a b :=
  ⟨h.mono (fun _ _ e => e.elim), fun _ hq => .inl (hq.keep h (fun e => e)), fun _ hq => hq.keep h (fun e => e)⟩
/-- The variable is filled. -/
theorem BoxR.fill {B0 : Nat} {T : TypeId} {Z X : List Value} {a b : World} {q : Nat} (hq : B0 ≤ q) (h : Mod (fun k => k = q) a b) (hb : Blk b q T X) : BoxR B0 T Z X a b :=
  ⟨h.mono (fun k _ e => by rw [e]; exact hq), fun i hi => by
    by_cases e : i = q
    · subst e; exact .inr hb
    · exact .inl (hi.keep h e), fun i hi => by
    by_cases e : i = q
    · subst e; exact hb
    · exact hi.keep h e⟩
/-- What each operation leaves. -/
def boxF (B0 : Nat) (T : TypeId) (Z X : List Value) (m s : Nat) (VL : List Value) (i : Nat) (vs : Nat → Value) (W : World) : Prop :=
  if i = m then ∃ b, vs m = .pointer (some ⟨b, 0, none⟩) ∧ B0 ≤ b ∧ (Blk W b T Z ∨ Blk W b T X)
  else if i = s then ∃ b, vs m = .pointer (some ⟨b, 0, none⟩) ∧ B0 ≤ b ∧ Blk W b T X
  else vs i = VL.getD i undef
section
variable {P : Program} {ops : Array Oper} {Q : Exit → Act → World → Prop}
theorem wp_region_box {id : Nat} {a0 : Act} {w0 : World} {act : (Nat → Value) → Act} (B0 : Nat) (T : TypeId) (Z X : List Value) (m s : Nat) (VL : List Value) (D : Nat → List Nat) (hms : m ∈ D s)
    (hm : P.follows .mixedOrders = true) (hdst : dstsApart ops.toList = true) (hback : backB .any ops = true)
    (hD : ((List.range ops.size).all fun i => (D i).all fun j => ((masks .any ops).getD i 0).testBit j) = true)
    (hact : ∀ vs, putAll a0 ops.toList 0 vs = act vs)
    (hops : OpsOkV P ops Q act (BoxR B0 T Z X) w0.drew (boxF B0 T Z X m s VL) D 0 ops.toList)
    (hend : ∀ vs w, BoxR B0 T Z X w0.drew w → (∀ i, i < ops.size → boxF B0 T Z X m s VL i vs w) → Q .normal (act vs) w) :
    (Code.region id ops true).wp P Q a0 w0 := by
  refine wp_region_rel (BoxR B0 T Z X) (boxF B0 T Z X m s VL) D hm hdst hback hD (BoxR.refl _ _ _ _) (fun _ _ _ h k => h.trans k) hact ?_ ?_ hops hend
  · intro i vs w w' h hr
    unfold boxF at h ⊢
    split
    · rename_i e
      rw [if_pos e] at h
      obtain ⟨b, h1, h2, h3⟩ := h
      exact ⟨b, h1, h2, h3.elim (hr.z b) (fun e => .inr (hr.x b e))⟩
    · rename_i e
      rw [if_neg e] at h
      split
      · rename_i e2
        rw [if_pos e2] at h
        obtain ⟨b, h1, h2, h3⟩ := h
        exact ⟨b, h1, h2, hr.x b h3⟩
      · rename_i e2
        rw [if_neg e2] at h
        exact h
  · intro i vs vs' w hv h
    unfold boxF at h ⊢
    split
    · rename_i e
      rw [if_pos e] at h
      rw [← hv m (.inl e.symm)]; exact h
    · rename_i e
      rw [if_neg e] at h
      split
      · rename_i e2
        rw [if_pos e2] at h
        subst e2
        rw [← hv m (.inr hms)]; exact h
      · rename_i e2
        rw [if_neg e2] at h
        rw [← hv i (.inl rfl)]; exact h
end
theorem boxF_val {B0 : Nat} {T : TypeId} {Z X : List Value} {m s : Nat} {VL : List Value} {i : Nat} {vs : Nat → Value} {W : World} (h1 : i ≠ m) (h2 : i ≠ s) (h : boxF B0 T Z X m s VL i vs W) : vs i = VL.getD i undef := by
  unfold boxF at h; rw [if_neg h1, if_neg h2] at h; exact h
theorem boxF_var {B0 : Nat} {T : TypeId} {Z X : List Value} {m s : Nat} {VL : List Value} {vs : Nat → Value} {W : World} (h : boxF B0 T Z X m s VL m vs W) : ∃ b, vs m = .pointer (some ⟨b, 0, none⟩) ∧ B0 ≤ b ∧ (Blk W b T Z ∨ Blk W b T X) := by
  unfold boxF at h; rw [if_pos rfl] at h; exact h
theorem boxF_fill {B0 : Nat} {T : TypeId} {Z X : List Value} {m s : Nat} {VL : List Value} {vs : Nat → Value} {W : World} (h1 : s ≠ m) (h : boxF B0 T Z X m s VL s vs W) : ∃ b, vs m = .pointer (some ⟨b, 0, none⟩) ∧ B0 ≤ b ∧ Blk W b T X := by
  unfold boxF at h; rw [if_neg h1, if_pos rfl] at h; exact h
theorem boxF_of {B0 : Nat} {T : TypeId} {Z X : List Value} {m s : Nat} {VL : List Value} {i : Nat} {vs : Nat → Value} {v : Value} {W : World} (h1 : i ≠ m) (h2 : i ≠ s) (h : v = VL.getD i undef) : boxF B0 T Z X m s VL i (upd vs i v) W := by
  unfold boxF; rw [if_neg h1, if_neg h2]; simpa [upd] using h
theorem boxF_of_var {B0 : Nat} {T : TypeId} {Z X : List Value} {m s : Nat} {VL : List Value} {vs : Nat → Value} {b : Nat} {W : World} (h : B0 ≤ b) (hb : Blk W b T Z) : boxF B0 T Z X m s VL m (upd vs m (.pointer (some ⟨b, 0, none⟩))) W := by
  unfold boxF; rw [if_pos rfl]; exact ⟨b, by simp [upd], h, .inl hb⟩
theorem boxF_of_fill {B0 : Nat} {T : TypeId} {Z X : List Value} {m s : Nat} {VL : List Value} {vs : Nat → Value} {v : Value} {b : Nat} {W : World} (h1 : s ≠ m) (hv : vs m = .pointer (some ⟨b, 0, none⟩)) (h : B0 ≤ b) (hb : Blk W b T X) : boxF B0 T Z X m s VL s (upd vs s v) W := by
  unfold boxF; rw [if_neg h1, if_pos rfl]; exact ⟨b, by simp only [upd, if_neg (Ne.symm h1)]; exact hv, h, hb⟩
end Mile
