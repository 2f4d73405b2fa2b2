/- Contracts of slices.Clone at the elements of a graph, and of package graph's clone. -/
import Derived.Test.YtdccpikddhpleaaGr3
namespace Mile
open Go Go.RowKit
theorem one2 (l : List P2) : ∀ u ∈ l.flatMap c2, u.oneCell' = true := by
  intro u hu
  obtain ⟨x, _, hx⟩ := List.mem_flatMap.1 hu
  simp only [c2, List.mem_cons, List.not_mem_nil, or_false] at hx
  rcases hx with rfl | rfl <;> rfl
theorem one3 (l : List P3) : ∀ u ∈ l.flatMap c3, u.oneCell' = true := by
  intro u hu
  obtain ⟨x, _, hx⟩ := List.mem_flatMap.1 hu
  simp only [c3, List.mem_cons, List.not_mem_nil, or_false] at hx
  rcases hx with rfl | rfl | rfl <;> rfl
theorem one1 (l : List Int) : ∀ u ∈ l.map (Value.int .i64), u.oneCell' = true := by
  intro u hu
  obtain ⟨x, _, rfl⟩ := List.mem_map.1 hu
  rfl
/-- A row in new memory of the call's own (or nil), that reads as the cells xs. -/
def CloneP (T : TypeId) (size n : Nat) (xs : List Value) (w : World) (e : Ending) (w' : World) : Prop :=
  ∃ a c, e = .returned (.slice a n c) ∧ w'.ownsRow w.heap.size T size (.slice a n c) n xs ∧ Mod (fun _ => False) w w'
end Mile
namespace Go.Proofs.Ytdccpikddhpleaa
open Go.RowKit Mile
set_option maxRecDepth 100000

set_option maxHeartbeats 1000000 in
theorem cloneN_any (w : World) (a : Option Addr) (n c : Nat) (xs : List P2) (hn : xs.length = n) (hrd : Rd w 2 (.slice a n c) n (xs.flatMap c2)) (hbd : n ≤ 1000000) :
    Calls Try.prog 56 #[.slice a n c] w (CloneP 50 2 n (xs.flatMap c2) w) := by
  obtain ⟨i0, hi, hz0, hz1, hz2⟩ := info_parts GR.infoN
  have heq := fun (wx : World) a n c => Lib.run_eql_slice_nil (P := Try.prog) wx 22 50 a n c 0 0 Try.underlying22
  have h1c := one2 xs
  have hm1 : 0 + n ≤ maxLen := by unfold maxLen; omega
  have hm2 : (0 + n) * 16 ≤ 140737488355328 := by omega
  have HX := Lib.hid hn
  clear hn
  cases a with
  | none =>
    have hz : n = 0 ∧ c = 0 := by obtain ⟨_, a', c', he, _, _, h3, _⟩ := hrd; cases he; exact h3 rfl
    obtain ⟨rfl, rfl⟩ := hz
    have hx0 : xs = [] := List.eq_nil_of_length_eq_zero HX.out
    subst hx0
    go_enter Try.func56, Try.ntmps56
    go_wp2
    go_ret
    exact ⟨_, _, rfl, World.ownsRow_nil _ _ _ _, Mod.refl _ _⟩
  | some ad =>
    go_enter Try.func56, Try.ntmps56
    have hown : (w.alloc (.cells #[] 50)).ownsRow 0 50 2 (.slice (some ⟨w.heap.size, 0, none⟩) 0 0) 0 [] := World.ownsRow_made w #[] 0 (Nat.zero_le _) (Nat.zero_le _) rfl
    go_wp2_with (at_builtin; refine wpList_append_any rfl (.tmp 5) (.tmp 6) 22 rfl 50 i0 (.agg #[.int .i64 0, .int .i64 0]) 2 16 Try.underlying22 hi hz0 hz1 hz2 rfl (by decide) _ 0 [] rfl hown _ n (xs.flatMap c2) rfl (hrd.alloc _) h1c hm1 hm2 ?_; intro v' w' hap)
    go_ret
    obtain ⟨a1, k1, hf⟩ := hap.form
    have ho := hap.own
    have hm := hap.mod
    have hr := hap.row
    simp only [Nat.zero_add, List.nil_append] at ho hf
    subst hf
    refine ⟨a1, k1, rfl, Own.rebase ho (fun k hk => ?_), (Mod.alloc _ w _).trans hm (fun _ _ e => e) (fun i hi e => ?_)⟩
    · rcases hr k hk with h | h
      · have e : w.heap.size = k := Option.some.inj h
        omega
      · have e : (w.alloc (.cells #[] 50)).heap.size = w.heap.size + 1 := by simp
        omega
    · have e' : w.heap.size = i := Option.some.inj e
      omega

set_option maxHeartbeats 1000000 in
theorem cloneE_any (w : World) (a : Option Addr) (n c : Nat) (xs : List P3) (hn : xs.length = n) (hrd : Rd w 3 (.slice a n c) n (xs.flatMap c3)) (hbd : n ≤ 1000000) :
    Calls Try.prog 57 #[.slice a n c] w (CloneP 52 3 n (xs.flatMap c3) w) := by
  obtain ⟨i0, hi, hz0, hz1, hz2⟩ := info_parts GR.infoE
  have heq := fun (wx : World) a n c => Lib.run_eql_slice_nil (P := Try.prog) wx 23 52 a n c 0 0 Try.underlying23
  have h1c := one3 xs
  have hm1 : 0 + n ≤ maxLen := by unfold maxLen; omega
  have hm2 : (0 + n) * 24 ≤ 140737488355328 := by omega
  have HX := Lib.hid hn
  clear hn
  cases a with
  | none =>
    have hz : n = 0 ∧ c = 0 := by obtain ⟨_, a', c', he, _, _, h3, _⟩ := hrd; cases he; exact h3 rfl
    obtain ⟨rfl, rfl⟩ := hz
    have hx0 : xs = [] := List.eq_nil_of_length_eq_zero HX.out
    subst hx0
    go_enter Try.func57, Try.ntmps57
    go_wp2
    go_ret
    exact ⟨_, _, rfl, World.ownsRow_nil _ _ _ _, Mod.refl _ _⟩
  | some ad =>
    go_enter Try.func57, Try.ntmps57
    have hown : (w.alloc (.cells #[] 52)).ownsRow 0 52 3 (.slice (some ⟨w.heap.size, 0, none⟩) 0 0) 0 [] := World.ownsRow_made w #[] 0 (Nat.zero_le _) (Nat.zero_le _) rfl
    go_wp2_with (at_builtin; refine wpList_append_any rfl (.tmp 5) (.tmp 6) 23 rfl 52 i0 (.agg #[.int .i64 0, .int .i64 0, .int .i64 0]) 3 24 Try.underlying23 hi hz0 hz1 hz2 rfl (by decide) _ 0 [] rfl hown _ n (xs.flatMap c3) rfl (hrd.alloc _) h1c hm1 hm2 ?_; intro v' w' hap)
    go_ret
    obtain ⟨a1, k1, hf⟩ := hap.form
    have ho := hap.own
    have hm := hap.mod
    have hr := hap.row
    simp only [Nat.zero_add, List.nil_append] at ho hf
    subst hf
    refine ⟨a1, k1, rfl, Own.rebase ho (fun k hk => ?_), (Mod.alloc _ w _).trans hm (fun _ _ e => e) (fun i hi e => ?_)⟩
    · rcases hr k hk with h | h
      · have e : w.heap.size = k := Option.some.inj h
        omega
      · have e : (w.alloc (.cells #[] 52)).heap.size = w.heap.size + 1 := by simp
        omega
    · have e' : w.heap.size = i := Option.some.inj e
      omega

set_option maxHeartbeats 1000000 in
theorem cloneB_any (w : World) (a : Option Addr) (n c : Nat) (xs : List P2) (hn : xs.length = n) (hrd : Rd w 2 (.slice a n c) n (xs.flatMap c2)) (hbd : n ≤ 1000000) :
    Calls Try.prog 58 #[.slice a n c] w (CloneP 63 2 n (xs.flatMap c2) w) := by
  obtain ⟨i0, hi, hz0, hz1, hz2⟩ := info_parts GR.infoB
  have heq := fun (wx : World) a n c => Lib.run_eql_slice_nil (P := Try.prog) wx 24 63 a n c 0 0 Try.underlying24
  have h1c := one2 xs
  have hm1 : 0 + n ≤ maxLen := by unfold maxLen; omega
  have hm2 : (0 + n) * 16 ≤ 140737488355328 := by omega
  have HX := Lib.hid hn
  clear hn
  cases a with
  | none =>
    have hz : n = 0 ∧ c = 0 := by obtain ⟨_, a', c', he, _, _, h3, _⟩ := hrd; cases he; exact h3 rfl
    obtain ⟨rfl, rfl⟩ := hz
    have hx0 : xs = [] := List.eq_nil_of_length_eq_zero HX.out
    subst hx0
    go_enter Try.func58, Try.ntmps58
    go_wp2
    go_ret
    exact ⟨_, _, rfl, World.ownsRow_nil _ _ _ _, Mod.refl _ _⟩
  | some ad =>
    go_enter Try.func58, Try.ntmps58
    have hown : (w.alloc (.cells #[] 63)).ownsRow 0 63 2 (.slice (some ⟨w.heap.size, 0, none⟩) 0 0) 0 [] := World.ownsRow_made w #[] 0 (Nat.zero_le _) (Nat.zero_le _) rfl
    go_wp2_with (at_builtin; refine wpList_append_any rfl (.tmp 5) (.tmp 6) 24 rfl 63 i0 (.agg #[.int .i64 0, .int .i64 0]) 2 16 Try.underlying24 hi hz0 hz1 hz2 rfl (by decide) _ 0 [] rfl hown _ n (xs.flatMap c2) rfl (hrd.alloc _) h1c hm1 hm2 ?_; intro v' w' hap)
    go_ret
    obtain ⟨a1, k1, hf⟩ := hap.form
    have ho := hap.own
    have hm := hap.mod
    have hr := hap.row
    simp only [Nat.zero_add, List.nil_append] at ho hf
    subst hf
    refine ⟨a1, k1, rfl, Own.rebase ho (fun k hk => ?_), (Mod.alloc _ w _).trans hm (fun _ _ e => e) (fun i hi e => ?_)⟩
    · rcases hr k hk with h | h
      · have e : w.heap.size = k := Option.some.inj h
        omega
      · have e : (w.alloc (.cells #[] 63)).heap.size = w.heap.size + 1 := by simp
        omega
    · have e' : w.heap.size = i := Option.some.inj e
      omega

set_option maxHeartbeats 1000000 in
theorem cloneI_any (w : World) (a : Option Addr) (n c : Nat) (xs : List Int) (hn : xs.length = n) (hrd : Rd w 1 (.slice a n c) n (xs.map (Value.int .i64))) (hbd : n ≤ 1000000) :
    Calls Try.prog 59 #[.slice a n c] w (CloneP 3 1 n (xs.map (Value.int .i64)) w) := by
  obtain ⟨i0, hi, hz0, hz1, hz2⟩ := info_parts GR.infoI
  have heq := fun (wx : World) a n c => Lib.run_eql_slice_nil (P := Try.prog) wx 44 3 a n c 0 0 Try.underlying44
  have h1c := one1 xs
  have hm1 : 0 + n ≤ maxLen := by unfold maxLen; omega
  have hm2 : (0 + n) * 8 ≤ 140737488355328 := by omega
  have HX := Lib.hid hn
  clear hn
  cases a with
  | none =>
    have hz : n = 0 ∧ c = 0 := by obtain ⟨_, a', c', he, _, _, h3, _⟩ := hrd; cases he; exact h3 rfl
    obtain ⟨rfl, rfl⟩ := hz
    have hx0 : xs = [] := List.eq_nil_of_length_eq_zero HX.out
    subst hx0
    go_enter Try.func59, Try.ntmps59
    go_wp2
    go_ret
    exact ⟨_, _, rfl, World.ownsRow_nil _ _ _ _, Mod.refl _ _⟩
  | some ad =>
    go_enter Try.func59, Try.ntmps59
    have hown : (w.alloc (.cells #[] 3)).ownsRow 0 3 1 (.slice (some ⟨w.heap.size, 0, none⟩) 0 0) 0 [] := World.ownsRow_made w #[] 0 (Nat.zero_le _) (Nat.zero_le _) rfl
    go_wp2_with (at_builtin; refine wpList_append_any rfl (.tmp 5) (.tmp 6) 44 rfl 3 i0 (.int .i64 0) 1 8 Try.underlying44 hi hz0 hz1 hz2 rfl (by decide) _ 0 [] rfl hown _ n (xs.map (Value.int .i64)) rfl (hrd.alloc _) h1c hm1 hm2 ?_; intro v' w' hap)
    go_ret
    obtain ⟨a1, k1, hf⟩ := hap.form
    have ho := hap.own
    have hm := hap.mod
    have hr := hap.row
    simp only [Nat.zero_add, List.nil_append] at ho hf
    subst hf
    refine ⟨a1, k1, rfl, Own.rebase ho (fun k hk => ?_), (Mod.alloc _ w _).trans hm (fun _ _ e => e) (fun i hi e => ?_)⟩
    · rcases hr k hk with h | h
      · have e : w.heap.size = k := Option.some.inj h
        omega
      · have e : (w.alloc (.cells #[] 3)).heap.size = w.heap.size + 1 := by simp
        omega
    · have e' : w.heap.size = i := Option.some.inj e
      omega
end Go.Proofs.Ytdccpikddhpleaa
