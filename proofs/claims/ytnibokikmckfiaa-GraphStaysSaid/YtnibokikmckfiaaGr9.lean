/- Contract of a graph's Plain. -/
import Derived.Test.YtnibokikmckfiaaGr8
namespace Go.Proofs.Ytnibokikmckfiaa
open Go.RowKit Mile

set_option maxHeartbeats 2000000 in
theorem plain_any (p B C : Nat) (w : World) (G : GD) (h : GO w p B C G) :
    Calls Try.prog 15 #[.pointer (some ⟨p, 0, none⟩)] w (GCloneP G G.N.length G.E.length G.B.length w) := by
  obtain ⟨⟨a1, n1, d1, a2, n2, d2, a3, n3, d3, a4, n4, d4, a5, n5, d5, a6, n6, d6, a7, n7, d7, hb, hv, _⟩, _, hm, _⟩ := h
  obtain ⟨⟨hm0, hm1⟩, hm2, hm3⟩ := hm.1
  rw [hv.n] at hm1 ⊢
  rw [hv.e] at hm2 ⊢
  rw [hv.b] at hm3 ⊢
  have c0 := hb.cell 0 rfl
  have c1 := hb.cell 1 rfl
  have c2 := hb.cell 2 rfl
  have ltp := hb.lt
  go_enter Try.func15, Try.ntmps15
  go_wp2_with fail
  obtain ⟨q, hq⟩ : ∃ q, w.heap.size = q := ⟨_, rfl⟩
  have hA := Mod.alloc (fun _ => False) w (.cells #[.slice none 0 0, .slice none 0 0, .slice none 0 0] 26)
  have hs : Blk (w.alloc (.cells #[.slice none 0 0, .slice none 0 0, .slice none 0 0] 26)) q 26 [.slice none 0 0, .slice none 0 0, .slice none 0 0] := by rw [← hq]; exact Blk.new w 26 [.slice none 0 0, .slice none 0 0, .slice none 0 0]
  have hv1 := hv.keep hA
  have hsz : q < (w.alloc (.cells #[.slice none 0 0, .slice none 0 0, .slice none 0 0] 26)).heap.size := hs.lt
  rw [hq]
  refine (gclone_any G _ a1 n1 d1 a2 n2 d2 a3 n3 d3 hv1 (by omega) (by omega) (by omega)).mono ?_
  rintro e w2 ⟨v, rfl, ⟨x1, z1, x2, z2, x3, z3, rfl, o1, o2, o3⟩, hM⟩
  have hb2 := hs.keep hM (fun e => e)
  have k0 := hb2.cell 0 rfl
  have k1 := hb2.cell 1 rfl
  have k2 := hb2.cell 2 rfl
  have f0 := hb2.free 0
  have f1 := hb2.free 1
  have f2 := hb2.free 2
  have hlt := hb2.lt
  have HQ := Lib.hid hq
  have O1 := Lib.hid o1
  have O2 := Lib.hid o2
  have O3 := Lib.hid o3
  have HSZ := Lib.hid hsz
  have HMM := Lib.hid (hA.trans hM (H := fun _ => False) (fun _ _ e => e) (fun _ _ e => e))
  have HB2 := Lib.hid hb2
  clear o1 o2 o3 hM hb2 hs hv1 hA hq hsz hb hv c0 c1 c2
  go_wp2_with fail
  have hS : Mod (fun k => k = q) w2 (((w2.setCell ⟨q, 0, none⟩ (.slice x1 n1 z1)).setCell ⟨q, 1, none⟩ (.slice x2 n2 z2)).setCell ⟨q, 2, none⟩ (.slice x3 n3 z3)) :=
    ((Mod.setCell (F := fun k => k = q) w2 ⟨q, 0, none⟩ _ rfl).thenSet ⟨q, 1, none⟩ _ (fun _ => rfl)).thenSet ⟨q, 2, none⟩ _ (fun _ => rfl)
  have b2 := ((HB2.out.set 0 (.slice x1 n1 z1)).set 1 (.slice x2 n2 z2)).set 2 (.slice x3 n3 z3)
  have hM9 := HMM.out.trans hS (H := fun _ => False) (fun _ _ e => e) (fun i hi e => by have := HQ.out; show False; omega)
  have hk : ∀ {T : TypeId} {size n : Nat} {v : Value} {xs : List Value} {B : Nat}, q < B → w2.ownsRow B T size v n xs → ∀ k, v.ownBlock = some k → ¬ (k = q) := fun hB h k hk e => by have := (World.ownsRow.lt h k hk).1; omega
  have hB := HSZ.out
  (try simp only [Exit.inBlock, Exit.then])
  refine bodyPost_ret (results_cell_row rfl _ _ q 26 #[.slice x1 n1 z1, .slice x2 n2 z2, .slice x3 n3 z3] (0, 0) _ rfl b2 Try.underlying26 rfl (by kernel_rfl)) rfl ?_
  exact ⟨_, rfl, ⟨x1, z1, x2, z2, x3, z3, rfl, Own.base (Own.keep O1.out hS (hk hB O1.out)) (by have := HQ.out; omega), Own.base (Own.keep O2.out hS (hk hB O2.out)) (by have := HQ.out; omega), Own.base (Own.keep O3.out hS (hk hB O3.out)) (by have := HQ.out; omega)⟩, hM9⟩
end Go.Proofs.Ytnibokikmckfiaa
