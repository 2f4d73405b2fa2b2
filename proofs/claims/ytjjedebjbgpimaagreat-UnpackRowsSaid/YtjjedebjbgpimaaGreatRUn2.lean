/- The document's own Row, by contract. -/
import Derived.Test.YtjjedebjbgpimaaGreatRUn
import Derived.Test.YtjjedebjbgpimaaGreatKUd
namespace Go.Proofs.YtjjedebjbgpimaaGreat
open Go.RowKit Mile
set_option maxRecDepth 100000
structure RuT (r : List Int) (v : Value) (W : World) : Prop where
  h : ∃ a c, v = .tuple #[.slice a r.length c, .bool true] ∧ Rd W 1 (.slice a r.length c) r.length (r.map (Value.int .i64))
structure RuX (r : List Int) (v : Value) (W : World) : Prop where
  h : ∃ a c, v = .slice a r.length c ∧ Rd W 1 (.slice a r.length c) r.length (r.map (Value.int .i64))
theorem RuT.st (r : List Int) : ∀ v w w', RuT r v w → Mod (fun _ => False) w w' → RuT r v w' := fun _ _ _ ⟨a, c, h, o⟩ m => ⟨a, c, h, o.keep m (fun _ _ e => e)⟩
theorem RuX.st (r : List Int) : ∀ v w w', RuX r v w → Mod (fun _ => False) w w' → RuX r v w' := fun _ _ _ ⟨a, c, h, o⟩ m => ⟨a, c, h, o.keep m (fun _ _ e => e)⟩
theorem unL_len {n N : Nat} {L T : List Ar} {D : Ar → Nat} (hT : NetOk n T) (hL : NetOk n L) (hD : UnOk T D N) (hN : N ≤ 20) (hin : ∀ a ∈ T, a.m < 0 → a ∈ L) {f t : Int} {r : List Int} (hu : unL T (N + 1) f t = some r) : 2 ≤ r.length ∧ r.length ≤ 1048577 := by
  cases hf : findN T f t with
  | none => rw [unL_no hf] at hu; cases hu
  | some a =>
    obtain ⟨h1, h2, h3⟩ := findN_inv hf
    subst h2; subst h3
    obtain ⟨r', g1, g2, _, _, _, g6, _⟩ := un_row hT hL hD hin (N + 1) a h1 (by have := (hD a h1).1; omega)
    rw [hu] at g1; cases g1
    have h1 : 2 ^ D a ≤ 2 ^ 20 := Nat.pow_le_pow_right (by omega) (by have := (hD a h1).1; omega)
    have h2 : (2 : Nat) ^ 20 = 1048576 := by decide
    omega
end Go.Proofs.YtjjedebjbgpimaaGreat
