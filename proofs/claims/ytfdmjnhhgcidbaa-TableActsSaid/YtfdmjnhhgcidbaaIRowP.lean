/- Rows of numbers in new memory; two of them compared. -/
import Derived.Test.YtfdmjnhhgcidbaaEv
import Derived.Test.YtfdmjnhhgcidbaaInts
import Derived.Test.YtfdmjnhhgcidbaaKOpen
import Derived.Test.YtfdmjnhhgcidbaaShp
namespace Go.Proofs.Ytfdmjnhhgcidbaa
open Go.RowKit Mile
theorem opens_il : Opens Try.prog 70 (encSlice (encInt .i64)) := opens_slice Try.underlying70 (by kernel_rfl) (opens_int Try.underlying3) (by decide)
theorem ints_same (w : World) (a : Option Addr) (n c : Nat) (xs : List Int) (hn : xs.length = n) (hr : Rd w 1 (.slice a n c) n (xs.map (Value.int .i64)))
    (b : Option Addr) (m d : Nat) (ys : List Int) (hm : ys.length = m) (hs : Rd w 1 (.slice b m d) m (ys.map (Value.int .i64))) (hb : n ≤ 1000000000) (r : Bool) (hxy : decide (xs = ys) = r) :
    Calls Try.prog 43 #[.slice a n c, .slice b m d] w fun e w' => e = .returned (.bool r) ∧ Mod (fun _ => False) w w' :=
  (ints_any w a n c xs hn hr b m d ys hm hs hb).mono fun _ _ ⟨he, k, hk⟩ => ⟨by rw [he, hxy], by rw [hk]; exact Mod.drewN _ _ _⟩
/-- A row of numbers in new memory. -/
def IRow (xs : List Int) : Value → World → Prop := fun v W => ∃ a c, v = .slice a xs.length c ∧ Rd W 1 (.slice a xs.length c) xs.length (xs.map (Value.int .i64))
theorem IRow.st (xs : List Int) : Stable (Mod (fun _ => False)) (IRow xs) := fun _ _ _ ⟨a, c, h, hr⟩ hm => ⟨a, c, h, hr.keep hm (fun _ _ e => e)⟩
end Go.Proofs.Ytfdmjnhhgcidbaa
