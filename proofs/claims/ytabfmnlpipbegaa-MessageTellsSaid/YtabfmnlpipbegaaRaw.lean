/- Contracts of package octets: Raw, bytes.Clone, Bytes. -/
import Derived.Test.YtabfmnlpipbegaaNums2
namespace Go.Proofs.Ytabfmnlpipbegaa
open Go.RowKit Mile
set_option maxRecDepth 100000

theorem raw_none (p : Nat) (w : World) (F : Nat → Prop) (h : Wr w p none F) (nv : Value) :
    Calls Try.prog 33 #[.pointer (some ⟨p, 0, none⟩), nv] w fun e w' => e = .returned (.pointer (some ⟨p, 0, none⟩)) ∧ w = w' := by
  have f1 : w.cell? ⟨p, 1, none⟩ = some (.bool true) := by obtain ⟨v, h1, _⟩ := h; exact h1.cell 1 rfl
  go_enter Try.func33, Try.ntmps33
  go_wp2
  go_ret
  exact ⟨rfl, rfl⟩

theorem raw_go (p : Nat) (w : World) (bs : List Int) (F : Nat → Prop) (h : Wr w p (some bs) F) (nv : Value) (ns : List Int)
    (hrd : Rd w 1 nv ns.length (ns.map (Value.int .u8))) (hbd : bs.length + ns.length ≤ 1000000000) :
    Calls Try.prog 33 #[.pointer (some ⟨p, 0, none⟩), nv] w fun e w' =>
      e = .returned (.pointer (some ⟨p, 0, none⟩)) ∧ ∃ F', Wr w' p (some (bs ++ ns)) F' ∧ After w w' F F' := by
  obtain ⟨i0, hi, hz0, hz1, hz2⟩ := info_parts Oct.info5
  obtain ⟨v, h1, h2, h3, h4, h5⟩ := h
  have hp := h5 p h3
  have c0 : w.cell? ⟨p, 0, none⟩ = some v := h1.cell 0 rfl
  have c1 : w.cell? ⟨p, 1, none⟩ = some (.bool false) := h1.cell 1 rfl
  have d0 := h1.free 0
  have hown : w.ownsRow 0 5 1 v bs.length (bs.map (Value.int .u8)) := h2
  have hm1 : bs.length + ns.length ≤ maxLen := by unfold maxLen; omega
  have hm2 : (bs.length + ns.length) * 1 ≤ 140737488355328 := by omega
  have h1c : ∀ u ∈ ns.map (Value.int .u8), u.oneCell' = true := by intro u hu; simp at hu; obtain ⟨x, _, rfl⟩ := hu; rfl
  go_enter Try.func33, Try.ntmps33
  go_wp2_with (at_builtin; refine wpList_append_any rfl (.tmp 18) (.tmp 19) 27 rfl 5 i0 (.int .u8 0) 1 1 Try.underlying27 hi hz0 hz1 hz2 rfl (by decide) v bs.length (bs.map (Value.int .u8)) rfl hown nv ns.length (ns.map (Value.int .u8)) rfl hrd h1c hm1 hm2 ?_; intro v' w' hap; obtain ⟨a1, k1, rfl⟩ := hap.form; have hb1 : Blk w' p 59 [v, .bool false] := h1.keep hap.mod (fun e => (h4 p e).2 rfl); have c1' : w'.cell? ⟨p, 0, none⟩ = some v := hb1.cell 0 rfl; have d1' := hb1.free 0)
  go_ret
  obtain ⟨F', hW', hA'⟩ := Wr.pushed h1 h3 h4 (Mod.refl _ _) hap
  exact ⟨rfl, F', hW', hA'⟩

/-- Raw, whatever the Writer and the bytes. -/
theorem raw_any (p : Nat) (w : World) (s : Option (List Int)) (F : Nat → Prop) (h : Wr w p s F) (nv : Value) (ns : List Int)
    (hrd : Rd w 1 nv ns.length (ns.map (Value.int .u8))) (hbd : (s.getD []).length + ns.length ≤ 1000000000) :
    Calls Try.prog 33 #[.pointer (some ⟨p, 0, none⟩), nv] w fun e w' =>
      e = .returned (.pointer (some ⟨p, 0, none⟩)) ∧ ∃ F', Wr w' p (s.map (· ++ ns)) F' ∧ After w w' F F' := by
  cases s with
  | none => exact (raw_none p w F h nv).mono (by rintro e w' ⟨rfl, rfl⟩; exact ⟨rfl, F, h, After.refl _ _⟩)
  | some bs => exact raw_go p w bs F h nv ns hrd (by simpa using hbd)

/-- A list in new memory: nil, or a row of blocks from B on. -/
def Fresh (w : World) (B : Nat) (v : Value) (bs : List Int) : Prop := w.ownsRow B 5 1 v bs.length (bs.map (Value.int .u8))

/-- bytes.Clone. -/
theorem clone_any (w : World) (v : Value) (bs : List Int) (hrd : Rd w 1 v bs.length (bs.map (Value.int .u8))) (hbd : bs.length ≤ 1000000000) :
    Calls Try.prog 44 #[v] w fun e w' => ∃ v', e = .returned v' ∧ Fresh w' w.heap.size v' bs ∧ Mod (fun _ => False) w w' ∧ ∃ a c, v' = .slice a bs.length c := by
  obtain ⟨i0, hi, hz0, hz1, hz2⟩ := info_parts Oct.info5
  have heq := fun (wx : World) a n c => Lib.run_eql_slice_nil (P := Try.prog) wx 27 5 a n c 0 0 Try.underlying27
  have h1c : ∀ u ∈ bs.map (Value.int .u8), u.oneCell' = true := by intro u hu; simp at hu; obtain ⟨x, _, rfl⟩ := hu; rfl
  have hm1 : 0 + bs.length ≤ maxLen := by unfold maxLen; omega
  have hm2 : (0 + bs.length) * 1 ≤ 140737488355328 := by omega
  obtain ⟨a, c, rfl⟩ : ∃ a c, v = .slice a bs.length c := by obtain ⟨_, a, c, rfl, _⟩ := hrd; exact ⟨a, c, rfl⟩
  cases a with
  | none =>
    obtain rfl : bs = [] := by obtain ⟨_, a', c', he, _, _, h3, _⟩ := hrd; cases he; exact List.eq_nil_of_length_eq_zero (h3 rfl).1
    go_enter Try.func44, Try.ntmps44
    go_wp2
    go_ret
    exact ⟨_, rfl, World.ownsRow_nil _ _ _ _, Mod.refl _ _, _, _, rfl⟩
  | some ad =>
    go_enter Try.func44, Try.ntmps44
    have hown : (w.alloc (.cells #[] 5)).ownsRow 0 5 1 (.slice (some ⟨w.heap.size, 0, none⟩) 0 0) 0 [] := World.ownsRow_made w #[] 0 (Nat.zero_le _) (Nat.zero_le _) rfl
    go_wp2_with (at_builtin; refine wpList_append_any rfl (.tmp 5) (.tmp 6) 27 rfl 5 i0 (.int .u8 0) 1 1 Try.underlying27 hi hz0 hz1 hz2 rfl (by decide) _ 0 [] rfl hown _ bs.length (bs.map (Value.int .u8)) rfl (hrd.alloc _) h1c hm1 hm2 ?_; intro v' w' hap)
    go_ret
    obtain ⟨a1, k1, hf⟩ := hap.form
    have ho := hap.own
    have hm := hap.mod
    have hr := hap.row
    simp only [Nat.zero_add, List.nil_append] at ho hf
    refine ⟨v', rfl, Own.rebase ho (fun k hk => ?_), (Mod.alloc _ w _).trans hm (fun _ _ e => e) (fun i hi e => ?_), a1, k1, hf⟩
    · rcases hr k hk with h | h
      · have e : w.heap.size = k := Option.some.inj h
        omega
      · have e : (w.alloc (.cells #[] 5)).heap.size = w.heap.size + 1 := by simp
        omega
    · have e' : w.heap.size = i := Option.some.inj e
      omega

/-- Bytes. -/
theorem bytes_any (p : Nat) (w : World) (s : Option (List Int)) (F : Nat → Prop) (h : Wr w p s F) (hbd : (s.getD []).length ≤ 1000000000) :
    Calls Try.prog 26 #[.pointer (some ⟨p, 0, none⟩)] w fun e w' => ∃ v', e = .returned (.tuple #[v', .int .i64 (if s.isNone then 1 else 0)]) ∧ Fresh w' w.heap.size v' (s.getD []) ∧ Mod (fun _ => False) w w' ∧ ∃ a c, v' = .slice a (s.getD []).length c := by
  obtain ⟨v, h1, h2, h3, h4, h5⟩ := h
  have c0 : w.cell? ⟨p, 0, none⟩ = some v := h1.cell 0 rfl
  cases s with
  | none =>
    have c1 : w.cell? ⟨p, 1, none⟩ = some (.bool true) := h1.cell 1 rfl
    go_enter Try.func26, Try.ntmps26
    go_wp2
    go_ret2
    exact ⟨_, rfl, World.ownsRow_nil _ _ _ _, Mod.refl _ _, _, _, rfl⟩
  | some bs =>
    have c1 : w.cell? ⟨p, 1, none⟩ = some (.bool false) := h1.cell 1 rfl
    have hown : w.ownsRow 0 5 1 v bs.length (bs.map (Value.int .u8)) := h2
    go_enter Try.func26, Try.ntmps26
    go_wp2_with (go_at_call 44; refine (clone_any w v bs (Rd.ofOwn hown) hbd).mono ?_; rintro e w' ⟨v', rfl, hfr, hmod, hform⟩)
    go_ret2
    exact ⟨v', rfl, hfr, hmod, hform⟩

end Go.Proofs.Ytabfmnlpipbegaa
