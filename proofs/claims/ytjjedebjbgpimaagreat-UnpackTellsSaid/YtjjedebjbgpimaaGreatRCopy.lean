/- The reference's Copy, by contract. -/
import Derived.Test.YtjjedebjbgpimaaGreatRN5
namespace Go.Proofs.YtjjedebjbgpimaaGreat
open Go.RowKit Mile
set_option maxRecDepth 100000
set_option maxHeartbeats 8000000 in
theorem rn_copy {w : World} {q n : Nat} {L : List Ar} (h : RN w q n L) (hb : L.length ≤ 10000) : Calls Tryz.prog 81 #[.pointer (some ⟨q, 0, none⟩)] w fun e w' => ∃ p, e = .returned (.pointer (some ⟨p, 0, none⟩)) ∧ RNG w' p n L (fun k => w.heap.size ≤ k ∧ k < w'.heap.size) ∧ w.heap.size ≤ p ∧ Mod (fun _ => False) w w' := by
  obtain ⟨a, c, hbk, hr, _⟩ := h
  obtain ⟨iA, hiA, hzA, hsA, hbA⟩ := info_parts Nt.infoA
  obtain ⟨ln, hln⟩ : ∃ x, L.length = x := ⟨_, rfl⟩
  rw [hln] at hbk hr hb
  have b0 := hbk.cell 0 rfl
  have b1 := hbk.cell 1 rfl
  have hlq := hbk.lt
  have HR := Lib.hid hr
  have HLN := Lib.hid hln
  clear hr hbk hln
  go_enter Tryz.func81, Tryz.ntmps81
  go_upto_region 1 with fail
  go_region_law (refine step_append_any rfl (.tmp 7) (.tmp 11) 34 rfl 50 iA (.agg #[.int .i64 0, .int .i64 0, .int .i64 0, .int .i64 0]) 4 32 Tryz.underlying34 hiA hzA hsA hbA rfl (by decide) (.slice (some ⟨w.heap.size, 0, none⟩) 0 0) 0 [] (by simp [Act.eval]) (by exact own_empty _ _ _ _ rfl) (.slice a ln c) ln (L.flatMap c4) (by simp [Act.eval]) (by exact (HR.out.keep ((Mod.drew (fun _ => False) w).of2 (Mod.alloc _ _ _)) (fun _ _ e => e))) (by intro u hu; obtain ⟨x, _, hx⟩ := List.mem_flatMap.1 hu; unfold c4 at hx; simp at hx; rcases hx with rfl | rfl | rfl | rfl <;> rfl) (by unfold maxLen; omega) (by omega) ?_; intro v' w' hap; obtain ⟨a3, c3', rfl⟩ := hap.form; have HAP := Lib.hid hap; have b0w := hap.mod.cell ((Mod.alloc (fun _ => False) w.drew (.cells #[] 50)).cell b0 (fun e => e)) (fun e => by have e2 := Option.some.inj e; have e3 : w.heap.size = q := e2; omega); have b1w := hap.mod.cell ((Mod.alloc (fun _ => False) w.drew (.cells #[] 50)).cell b1 (fun e => e)) (fun e => by have e2 := Option.some.inj e; have e3 : w.heap.size = q := e2; omega); clear hap)
  all_goals
    go_wp2_with fail
    go_ret
    have hln := HLN.out
    subst hln
    have hap := HAP.out
    simp only [Nat.zero_add, List.nil_append] at hap
    have hz : w.heap.size ≤ w'.heap.size := by have h1 := hap.mod.size; have h2 : (w.alloc (.cells #[] 50)).heap.size = w.heap.size + 1 := heap_size_alloc _ _; have h3 : ((w.alloc (.cells #[] 50)).drew).heap.size = (w.alloc (.cells #[] 50)).heap.size := rfl; omega
    have hma : Mod (fun _ => False) w' (w'.alloc (.cells #[.int .i64 (n : Int), .slice a3 L.length c3'] 37)) := Mod.alloc _ _ _
    refine ⟨w'.heap.size, rfl, ⟨a3, c3', Blk.new w' 37 [.int .i64 (n : Int), .slice a3 L.length c3'], (Rd.ofOwn hap.own).keep hma (fun _ _ e => e), fun k hk => ?_⟩, hz, ?_⟩
    · rw [own_slice a3 0 0 L.length c3'] at hk
      have h1 := (hap.own.lt k hk).2
      refine ⟨by omega, ?_⟩
      rcases hap.row k hk with e | e
      · have e2 : w.heap.size = k := Option.some.inj e
        have h9 : (w'.alloc (.cells #[.int .i64 (n : Int), .slice a3 L.length c3'] 37)).heap.size = w'.heap.size + 1 := heap_size_alloc _ _
        show w.heap.size ≤ k ∧ k < _
        omega
      · have h2 : (w.alloc (.cells #[] 50)).heap.size = w.heap.size + 1 := heap_size_alloc _ _
        have h3 : ((w.alloc (.cells #[] 50)).drew).heap.size = (w.alloc (.cells #[] 50)).heap.size := rfl
        have e3 : ((w.alloc (.cells #[] 50)).drew).heap.size ≤ k := e
        have h9 : (w'.alloc (.cells #[.int .i64 (n : Int), .slice a3 L.length c3'] 37)).heap.size = w'.heap.size + 1 := heap_size_alloc _ _
        show w.heap.size ≤ k ∧ k < _
        omega
    · refine (((Mod.alloc (fun _ => False) w (.cells #[] 50)).of2 (Mod.drew _ _)).trans hap.mod (H := fun _ => False) (fun _ _ e => e) (fun k hk e => ?_)).of2 hma
      have e2 : w.heap.size = k := Option.some.inj e
      omega
end Go.Proofs.YtjjedebjbgpimaaGreat
