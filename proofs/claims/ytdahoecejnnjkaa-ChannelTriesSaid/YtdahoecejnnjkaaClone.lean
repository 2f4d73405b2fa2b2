/- bytes.Clone by contract. -/
import Derived.Test.YtdahoecejnnjkaaRows
import Derived.Test.YtdahoecejnnjkaaBase2
import Derived.Lib.Hide
namespace Go.Proofs.Ytdahoecejnnjkaa
open Go.RowKit Mile
set_option maxRecDepth 100000
theorem Cl.info5 : (Try.prog.info? 5).map (fun i => (i.zero, i.size, i.bytes)) = some (some (.int .u8 0), 1, 1) := by kernel_rfl
/-- A list in new memory: nil, or a row of blocks from B on. -/
def Fresh (w : World) (B : Nat) (v : Value) (bs : List Int) : Prop := w.ownsRow B 5 1 v bs.length (bs.map (Value.int .u8))

/-- bytes.Clone. -/
theorem clone_any (w : World) (v : Value) (bs : List Int) (hrd : Rd w 1 v bs.length (bs.map (Value.int .u8))) (hbd : bs.length ≤ 1000000000) :
    Calls Try.prog 35 #[v] w fun e w' => ∃ v', e = .returned v' ∧ Fresh w' w.heap.size v' bs ∧ Mod (fun _ => False) w w' ∧ ∃ a c, v' = .slice a bs.length c := by
  obtain ⟨i0, hi, hz0, hz1, hz2⟩ := info_parts Cl.info5
  have heq := fun (wx : World) a n c => Lib.run_eql_slice_nil (P := Try.prog) wx 38 5 a n c 0 0 Try.underlying38
  have h1c : ∀ u ∈ bs.map (Value.int .u8), u.oneCell' = true := by intro u hu; simp at hu; obtain ⟨x, _, rfl⟩ := hu; rfl
  have hm1 : 0 + bs.length ≤ maxLen := by unfold maxLen; omega
  have hm2 : (0 + bs.length) * 1 ≤ 140737488355328 := by omega
  obtain ⟨a, c, rfl⟩ : ∃ a c, v = .slice a bs.length c := by obtain ⟨_, a, c, rfl, _⟩ := hrd; exact ⟨a, c, rfl⟩
  cases a with
  | none =>
    obtain rfl : bs = [] := by obtain ⟨_, a', c', he, _, _, h3, _⟩ := hrd; cases he; exact List.eq_nil_of_length_eq_zero (h3 rfl).1
    go_enter Try.func35, Try.ntmps35
    go_wp2
    go_ret
    exact ⟨_, rfl, World.ownsRow_nil _ _ _ _, Mod.refl _ _, _, _, rfl⟩
  | some ad =>
    go_enter Try.func35, Try.ntmps35
    have hown : (w.alloc (.cells #[] 5)).ownsRow 0 5 1 (.slice (some ⟨w.heap.size, 0, none⟩) 0 0) 0 [] := World.ownsRow_made w #[] 0 (Nat.zero_le _) (Nat.zero_le _) rfl
    go_wp2_with (at_builtin; refine wpList_append_any rfl (.tmp 5) (.tmp 6) 38 rfl 5 i0 (.int .u8 0) 1 1 Try.underlying38 hi hz0 hz1 hz2 rfl (by decide) _ 0 [] rfl hown _ bs.length (bs.map (Value.int .u8)) rfl (hrd.alloc _) h1c hm1 hm2 ?_; intro v' w' hap)
    go_ret
    obtain ⟨a1, k1, hf⟩ := hap.form
    have ho := hap.own
    have hm := hap.mod
    have hr := hap.row
    simp only [Nat.zero_add, List.nil_append] at ho hf
    refine ⟨v', rfl, Own.rebase ho (fun k hk => ?_), (Mod.alloc _ w _).trans hm (fun _ _ e => e) (fun i hi e => ?_), a1, k1, hf⟩
    · rcases hr k hk with h | h
      · have e : w.heap.size = k := Option.some.inj h
        omega
      · have e : (w.alloc (.cells #[] 5)).heap.size = w.heap.size + 1 := by simp
        omega
    · have e' : w.heap.size = i := Option.some.inj e
      omega

end Go.Proofs.Ytdahoecejnnjkaa
