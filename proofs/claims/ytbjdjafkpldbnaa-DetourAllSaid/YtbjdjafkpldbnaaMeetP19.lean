/- The distance and the edge where both ends meet: plain. -/
import Derived.Test.YtbjdjafkpldbnaaSd19i
namespace Go.Proofs.Ytbjdjafkpldbnaa
open Go.RowKit Mile
set_option maxRecDepth 100000
/-- What the distance and the edge have to do with each other. -/
theorem meets_facts (G : GD) (hm : May G) (k : Nat) (hk : k < G.E.length) (v : Int) (hv : 0 ≤ v ∧ v < (G.N.length : Int)) (cl : List Bool) {x y : Int} (hx : Btw G hm v cl (k : Int) x) (hy : Mts G hm v cl (k : Int) y) :
    ∃ dA dB, Fix (webFrom G hm (k : Int) cl) dA ∧ Fix (webTo G hm v cl) dB ∧ x = dAt dB k ∧ -1 ≤ x ∧ (x = -1 → y = -1) ∧ (x ≠ -1 → ∃ i : Nat, i < G.E.length ∧ y = (i : Int) ∧ okM dA dB x i ∧ ∀ j, j < i → 0 ≤ dAt dA j → 0 ≤ dAt dB j → x < dAt dA j + dAt dB j) := by
  have hin : (0 ≤ v ∧ v < (G.N.length : Int)) ∧ (0 ≤ (k : Int) ∧ (k : Int) < (G.E.length : Int)) := ⟨hv, by omega, by omega⟩
  have hxl := hx.low
  rcases hy with ⟨_, dA, dB, hA, hB, hM⟩ | ⟨h, _⟩
  case inr => exact absurd hin h
  rcases hx with ⟨_, d, hd, hxd⟩ | ⟨h, _⟩
  case inr => exact absurd hin h
  have hxk : x = dAt dB k := by rw [hxd, hd.uniq hB]; rfl
  have hMx : Mee dA dB x G.E.length y := by rw [hxk]; exact hM
  have hst : ∀ e, (webFrom G hm (k : Int) cl).st e ↔ e = k := fun e => by show (e : Int) = (k : Int) ↔ e = k; omega
  refine ⟨dA, dB, hA, hB, hxk, hxl, fun h1 => ?_, fun h1 => ?_⟩
  · exact hMx.uniq (Mee.neg (by omega))
  · have hA0 := hA.st k ((hst k).2 rfl) hk
    have hok : okM dA dB x k := ⟨by omega, by omega, by omega⟩
    rcases hMx with ⟨i, h2, h3, h4, h5⟩ | ⟨_, h2⟩
    · refine ⟨i, h2, h3, h4, fun j hj ha hb => ?_⟩
      have hn := (bid_of G hm k v cl hA hB).no_less hst hk (dAt dA j).toNat j (by omega) ha hb
      have hno := h5 j hj
      unfold okM at hno
      omega
    · exact absurd hok (h2 k hk)
def RMtD (G : GD) (hm : May G) (k : Nat) (v : Int) (cl : List Bool) (m : Nat) (w1 : World) (av bv : Value) (wx : World) : Prop :=
  ∃ ax cx dA ay cy dB, av = .slice ax m cx ∧ bv = .slice ay m cy ∧ dA.length = m ∧ dB.length = m ∧ Rd wx 1 (.slice ax m cx) m (dA.map (Value.int .i64)) ∧ Rd wx 1 (.slice ay m cy) m (dB.map (Value.int .i64)) ∧ Fix (webFrom G hm (k : Int) cl) dA ∧ Fix (webTo G hm v cl) dB ∧ Mod (fun _ => False) w1 wx
end Go.Proofs.Ytbjdjafkpldbnaa
