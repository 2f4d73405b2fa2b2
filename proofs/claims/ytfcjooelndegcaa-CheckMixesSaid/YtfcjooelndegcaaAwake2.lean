/- The law's own look at what the document fixes (milepostlaw2.awake). -/
import Derived.Test.YtfcjooelndegcaaChk
import Derived.Test.YtfcjooelndegcaaRound
import Derived.Lib.SlBytesConst
namespace Mile
open Go Go.RowKit
/-- A literal's new row reads as its cells, whatever of it is frozen. -/
theorem Rd.lit {w : World} (T : TypeId) (xs : List Value) (fz : Nat × Nat) (g n : Nat) (hg : g = w.heap.size) (hn : xs.length = n) (hm : n ≤ 1000000000) : Rd (w.alloc (.cells xs.toArray T fz)) 1 (.slice (some ⟨g, 0, none⟩) n n) n xs := by
  subst hg
  refine ⟨by omega, some ⟨w.heap.size, 0, none⟩, n, rfl, Nat.le_refl _, by unfold maxLen; omega, fun h => (by cases h), fun ad had => ?_⟩
  cases had
  refine ⟨fun _ => rfl, fun j u hj => ?_⟩
  rw [Addr.add_lit, Nat.zero_add]
  have h := heap_alloc_new w (.cells xs.toArray T fz)
  unfold World.cell?; rw [h]; simp [hj]
theorem run_const_bytes {P : Program} (w : World) (t e : TypeId) (C : Array Value) (n c : Nat) (ht : P.underlying t = some (.slice e)) (he : P.underlying e = some (.int .u8)) (g : Nat) (hg : g = w.heap.size) :
    (convert t t (.slice (some ⟨g, 0, none⟩) n c)).run P (w.alloc (.cells C e)) = .ok (.slice (some ⟨g, 0, none⟩) n c) (w.alloc (.cells C e (C.size, C.size + 1))) := by
  subst hg; exact Lib.run_convert_bytes_const w t e C n c ht he
end Mile
namespace Go.Proofs.Ytfcjooelndegcaa
open Go.RowKit Mile

theorem csum9 : ((csum [49, 50, 51, 52, 53, 54, 55, 56, 57]).toNat : Int) = 3808858755 := by decide +kernel
theorem csum0 : ((csum []).toNat : Int) = 0 := by decide +kernel

theorem Parts.nil (w : World) : Parts w (.slice none 0 0) [] := ⟨Rd.nil _ _, by simp⟩
theorem Parts.one {w : World} {v x : Value} {bs : List Int} (h : Rd w 1 v 1 [x]) (hx : Rd w 1 x bs.length (bs.map (Value.int .u8))) (hb : ∀ n ∈ bs, 0 ≤ n ∧ n < 256) : Parts w v [(x, bs)] :=
  ⟨h, fun p hp => by simp only [List.mem_singleton] at hp; subst hp; exact ⟨hx, hb⟩⟩

theorem Parts.two {w : World} {v x y : Value} {bs cs : List Int} (h : Rd w 1 v 2 [x, y]) (hx : Rd w 1 x bs.length (bs.map (Value.int .u8))) (hy : Rd w 1 y cs.length (cs.map (Value.int .u8))) (hb : ∀ n ∈ bs, 0 ≤ n ∧ n < 256) (hc : ∀ n ∈ cs, 0 ≤ n ∧ n < 256) : Parts w v [(x, bs), (y, cs)] :=
  ⟨h, fun p hp => by
    simp only [List.mem_cons, List.not_mem_nil, or_false] at hp
    rcases hp with rfl | rfl
    · exact ⟨hx, hb⟩
    · exact ⟨hy, hc⟩⟩

set_option maxHeartbeats 2000000 in
set_option maxRecDepth 100000 in
theorem awake_any (w : World) : Calls Try.prog 7 #[] w fun e w' => e = .returned (.bool true) ∧ Mod (fun _ => False) w w' := by
  have kc := fun (w : World) (C : Array Value) (n c g : Nat) (hg : g = w.heap.size) => run_const_bytes (P := Try.prog) w 22 5 C n c Try.underlying22 Try.underlying5 g hg
  go_enter Try.func7, Try.ntmps7
  go_wp2_with fail
  have P1 := fun (h : _) => Parts.one (w := ((w.alloc (.cells #[.int .u8 49, .int .u8 50, .int .u8 51, .int .u8 52, .int .u8 53, .int .u8 54, .int .u8 55, .int .u8 56, .int .u8 57] 5 (9, 10))).alloc (.cells #[.slice (some ⟨w.heap.size, 0, none⟩) 9 9] 22))) (v := .slice (some ⟨w.heap.size + 1, 0, none⟩) 1 1) (bs := [49, 50, 51, 52, 53, 54, 55, 56, 57]) (Rd.lit _ [.slice (some ⟨w.heap.size, 0, none⟩) 9 9] _ _ 1 (by simp) rfl (by omega)) ((Rd.lit _ [.int .u8 49, .int .u8 50, .int .u8 51, .int .u8 52, .int .u8 53, .int .u8 54, .int .u8 55, .int .u8 56, .int .u8 57] _ _ 9 rfl rfl (by omega)).alloc _) h
  refine (sum_any _ 1 1 _ _ rfl (P1 (by decide))).mono ?_
  rintro e w1 ⟨rfl, hw⟩
  have hM := ((Mod.refl (fun _ => False) w).thenAlloc (.cells #[.int .u8 49, .int .u8 50, .int .u8 51, .int .u8 52, .int .u8 53, .int .u8 54, .int .u8 55, .int .u8 56, .int .u8 57] 5 (9, 10))).thenAlloc (.cells #[.slice (some ⟨w.heap.size, 0, none⟩) 9 9] 22)
  rw [hw] at hM
  clear hw P1
  rw [show flat [(Value.slice (some ⟨w.heap.size, 0, none⟩) 9 9, [49, 50, 51, 52, 53, 54, 55, 56, 57])] = [49, 50, 51, 52, 53, 54, 55, 56, 57] from rfl, csum9]
  go_wp2_with fail
  refine (sum_any none 0 0 [] _ rfl (Parts.nil _)).mono ?_
  rintro e w2 ⟨rfl, rfl⟩
  rw [show flat [] = [] from rfl, csum0]
  go_wp2_with fail
  have r5 := Rd.lit (w := w1) 5 [.int .u8 49, .int .u8 50, .int .u8 51, .int .u8 52, .int .u8 53] (5, 6) w1.heap.size 5 rfl rfl (by omega)
  have r4 := Rd.lit (w := w1.alloc (.cells #[.int .u8 49, .int .u8 50, .int .u8 51, .int .u8 52, .int .u8 53] 5 (5, 6))) 5 [.int .u8 54, .int .u8 55, .int .u8 56, .int .u8 57] (4, 5) (w1.heap.size + 1) 4 (by simp) rfl (by omega)
  refine (sum_any _ 3 3 [(.slice (some ⟨w1.heap.size, 0, none⟩) 5 5, [49, 50, 51, 52, 53]), (.slice none 0 0, []), (.slice (some ⟨w1.heap.size + 1, 0, none⟩) 4 4, [54, 55, 56, 57])] _ rfl
    ⟨Rd.lit _ [.slice (some ⟨w1.heap.size, 0, none⟩) 5 5, .slice none 0 0, .slice (some ⟨w1.heap.size + 1, 0, none⟩) 4 4] _ _ 3 (by simp) rfl (by omega), ?_⟩).mono ?_
  · intro p hp
    simp only [List.mem_cons, List.not_mem_nil, or_false] at hp
    rcases hp with rfl | rfl | rfl
    · exact ⟨(r5.alloc _).alloc _, by simp⟩
    · exact ⟨Rd.nil _ _, by simp⟩
    · exact ⟨r4.alloc _, by simp⟩
  clear r5 r4
  rintro e w3 ⟨rfl, hw⟩
  have hM2 := ((hM.thenAlloc (.cells #[.int .u8 49, .int .u8 50, .int .u8 51, .int .u8 52, .int .u8 53] 5 (5, 6))).thenAlloc (.cells #[.int .u8 54, .int .u8 55, .int .u8 56, .int .u8 57] 5 (4, 5))).thenAlloc (.cells #[.slice (some ⟨w1.heap.size, 0, none⟩) 5 5, .slice none 0 0, .slice (some ⟨w1.heap.size + 1, 0, none⟩) 4 4] 22)
  rw [hw] at hM2
  clear hw
  rw [show flat [(Value.slice (some ⟨w1.heap.size, 0, none⟩) 5 5, [49, 50, 51, 52, 53]), (.slice none 0 0, []), (.slice (some ⟨w1.heap.size + 1, 0, none⟩) 4 4, [54, 55, 56, 57])] = [49, 50, 51, 52, 53, 54, 55, 56, 57] from rfl, csum9]
  go_wp2
  go_ret
  exact ⟨rfl, hM2⟩

end Go.Proofs.Ytfcjooelndegcaa
