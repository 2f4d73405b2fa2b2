/- Contract of package graph's New. -/
import Derived.Test.YtdccpikddhpleaaNewP
import Derived.Deep.RegionHeld3
namespace Go.Proofs.Ytdccpikddhpleaa
open Go.RowKit Mile
set_option maxRecDepth 100000

/-- What New tells. -/
def NewP (G : GD) (w : World) (e : Ending) (w' : World) : Prop :=
  (May G ∧ ∃ p, e = .returned (.tuple #[.pointer (some ⟨p, 0, none⟩), .int .i64 0]) ∧ GO w' p w.heap.size w'.heap.size G ∧ Mod (fun _ => False) w w') ∨
  (¬ May G ∧ e = .returned (.tuple #[.pointer none, .int .i64 1]) ∧ Mod (fun _ => False) w w')

set_option maxHeartbeats 8000000 in
theorem new_any (G : GD) (w : World) (a1 : Option Addr) (n1 u1 : Nat) (a2 : Option Addr) (n2 u2 : Nat) (a3 : Option Addr) (n3 u3 : Nat) (h : GV w a1 n1 u1 a2 n2 u2 a3 n3 u3 G) :
    Calls Try.prog 16 #[.agg #[.slice a1 n1 u1, .slice a2 n2 u2, .slice a3 n3 u3]] w (NewP G w) := by
  have h0 := h.keep (Mod.alloc (fun _ => False) w (.cells #[.slice a1 n1 u1, .slice a2 n2 u2, .slice a3 n3 u3] 26))
  have hA0 := Mod.alloc (fun _ => False) w (.cells #[.slice a1 n1 u1, .slice a2 n2 u2, .slice a3 n3 u3] 26)
  obtain ⟨g, hg⟩ : ∃ g, w.heap.size = g := ⟨_, rfl⟩
  have hb0 : Blk (w.alloc (.cells #[.slice a1 n1 u1, .slice a2 n2 u2, .slice a3 n3 u3] 26)) g 26 [.slice a1 n1 u1, .slice a2 n2 u2, .slice a3 n3 u3] := by rw [← hg]; exact Blk.new w 26 [.slice a1 n1 u1, .slice a2 n2 u2, .slice a3 n3 u3]
  go_enter Try.func16, Try.ntmps16
  go_wp2_with fail
  have HG := Lib.hid hg
  clear hg
  obtain ⟨w0, hw0⟩ : ∃ w0, w.alloc (.cells #[.slice a1 n1 u1, .slice a2 n2 u2, .slice a3 n3 u3] 26) = w0 := ⟨_, rfl⟩
  rw [hw0] at h0 hA0 hb0 ⊢
  clear hw0
  refine (fits_any G _ a1 n1 u1 a2 n2 u2 a3 n3 u3 h0).mono ?_
  rintro e w1 ⟨r, rfl, hr, hM1⟩
  have HR := Lib.hid hr
  clear hr
  have h1 := h0.keep hM1
  have hb1 := hb0.keep hM1 (fun e => e)
  have hMM := hA0.trans hM1 (H := fun _ => False) (fun _ _ e => e) (fun _ _ e => e)
  have c0 := hb1.cell 0 rfl
  have c1 := hb1.cell 1 rfl
  have c2 := hb1.cell 2 rfl
  cases r with
  | false =>
    have HM := Lib.hid hMM
    clear h h0 h1 hb0 hb1 hA0 hM1 hMM
    go_wp2_with fail
    go_ret2
    exact Or.inr ⟨fun hm => (by have := HR.out.2 hm; cases this), rfl, HM.out⟩
  | true =>
    have hm := HR.out.1 rfl
    obtain ⟨⟨hm0, hm1⟩, hm2, hm3⟩ := hm.1
    have hk1 := keys_start hm
    have hk2 := keys_end hm
    rw [h.n] at hm0 hm1 hk1 hk2
    rw [h.e] at hm2
    rw [h.b] at hm3
    have HN := Lib.hid h.n
    have HE := Lib.hid h.e
    have HK1 := Lib.hid hk1
    have HK2 := Lib.hid hk2
    have HM0 := Lib.hid hm
    have HV : Hid (∀ W, Mod (fun _ => False) w1 W → GV W a1 n1 u1 a2 n2 u2 a3 n3 u3 G) := Lib.hid fun W hm => h1.keep hm
    have HC : Hid (∀ W, Mod (fun _ => False) w1 W → W.cell? ⟨g, 0, none⟩ = some (.slice a1 n1 u1) ∧ W.cell? ⟨g, 1, none⟩ = some (.slice a2 n2 u2) ∧ W.cell? ⟨g, 2, none⟩ = some (.slice a3 n3 u3)) := Lib.hid fun W hm => by
      have := hb1.keep hm (fun e => e)
      exact ⟨this.cell 0 rfl, this.cell 1 rfl, this.cell 2 rfl⟩
    have HMM := Lib.hid hMM
    have hnb := h.b
    obtain ⟨B, hB⟩ : ∃ B, w1.heap.size = B := ⟨_, rfl⟩
    have HB : Hid (∀ W, Mod (fun _ => False) w1 W → B ≤ W.heap.size) := Lib.hid fun W hm => by rw [← hB]; exact hm.size
    have HBB : Hid (w.heap.size ≤ B) := Lib.hid (by rw [← hB]; exact hMM.size)
    clear h h0 h1 hb0 hb1 hA0 hM1 hMM hk1 hk2 hm hB
    have HNB := Lib.hid hnb
    clear hnb
    go_wp2_with fail
    refine wp_region_inv (Mod (fun _ => False)) (fun i => (newr_F B g a1 n1 u1 a2 n2 u2 a3 n3 u3 G).getD i (fun _ _ => True)) (fun i => newr_D.getD i []) (by kernel_rfl) (by kernel_rfl) (by kernel_rfl) (by kernel_rfl) (fun _ => Mod.refl _ _)
      (fun _ _ _ h k => h.trans k (fun _ _ e => e) (fun _ _ e => e)) (stable_list ?_) ?_ ?_
    · intro f hf
      simp only [newr_F, List.mem_cons, List.not_mem_nil, or_false] at hf
      rcases hf with rfl | rfl | rfl | rfl | rfl | rfl | rfl | rfl | rfl | rfl | rfl | rfl | rfl | rfl <;> first | exact stable_val _ | exact stable_new | exact newRows_stays | exact newGraph_stays | exact newBody_stays | exact newObj_stays
    · refine opsOk_cons ?_ ?_
      · intro K vs W hR hD hK
        clear hD
        simp only [putAll, Nat.zero_add, Nat.reduceAdd, Act.put, List.setIfInBounds_toArray, List.set_cons_succ, List.set_cons_zero] at hK ⊢
        obtain ⟨k0, k1, k2⟩ := HC.out W ((Mod.drew (fun _ => False) w1).trans hR (H := fun _ => False) (fun _ _ e => e) (fun _ _ e => e))
        go_wp2
        exact hK _ _ rfl (Mod.refl _ _)
      refine opsOk_cons ?_ ?_
      · intro K vs W hR hD hK
        have d0 : vs 0 = .agg #[.slice a1 n1 u1, .slice a2 n2 u2, .slice a3 n3 u3] := hD 0 (by decide)
        clear hD
        simp only [putAll, Nat.zero_add, Nat.reduceAdd, Act.put, List.setIfInBounds_toArray, List.set_cons_succ, List.set_cons_zero] at hK ⊢
        generalize vs 0 = v0 at hK d0 ⊢
        subst d0
        have hmw := (Mod.drew (fun _ => False) w1).trans hR (H := fun _ => False) (fun _ _ e => e) (fun _ _ e => e)
        have hbw := HB.out W hmw
        go_wp2_with fail
        refine (gclone_any G _ a1 n1 u1 a2 n2 u2 a3 n3 u3 (HV.out _ hmw) (by omega) (by omega) (by omega)).mono ?_
        rintro e' w' ⟨v', rfl, hN', hM'⟩
        have N9 := Lib.hid (newGraph_base hN' hbw)
        have M9 := Lib.hid hM'
        clear hN' hM' hmw
        go_wp2
        exact hK _ _ N9.out M9.out
      refine opsOk_cons ?_ ?_
      · intro K vs W hR hD hK
        clear hD
        simp only [putAll, Nat.zero_add, Nat.reduceAdd, Act.put, List.setIfInBounds_toArray, List.set_cons_succ, List.set_cons_zero] at hK ⊢
        go_wp2
        exact hK _ _ rfl (Mod.refl _ _)
      refine opsOk_cons ?_ ?_
      · intro K vs W hR hD hK
        clear hD
        simp only [putAll, Nat.zero_add, Nat.reduceAdd, Act.put, List.setIfInBounds_toArray, List.set_cons_succ, List.set_cons_zero] at hK ⊢
        go_wp2
        exact hK _ _ rfl (Mod.refl _ _)
      refine opsOk_cons ?_ ?_
      · intro K vs W hR hD hK
        have d3 : vs 3 = .pointer (some ⟨g, 1, none⟩) := hD 3 (by decide)
        clear hD
        simp only [putAll, Nat.zero_add, Nat.reduceAdd, Act.put, List.setIfInBounds_toArray, List.set_cons_succ, List.set_cons_zero] at hK ⊢
        generalize vs 3 = v3 at hK d3 ⊢
        subst d3
        obtain ⟨k0, k1, k2⟩ := HC.out W ((Mod.drew (fun _ => False) w1).trans hR (H := fun _ => False) (fun _ _ e => e) (fun _ _ e => e))
        go_wp2
        exact hK _ _ rfl (Mod.refl _ _)
      refine opsOk_cons ?_ ?_
      · intro K vs W hR hD hK
        have d2 : vs 2 = .int .i64 (n1 : Int) := hD 2 (by decide)
        have d4 : vs 4 = .slice a2 n2 u2 := hD 4 (by decide)
        clear hD
        simp only [putAll, Nat.zero_add, Nat.reduceAdd, Act.put, List.setIfInBounds_toArray, List.set_cons_succ, List.set_cons_zero] at hK ⊢
        generalize vs 2 = v2 at hK d2 ⊢
        subst d2
        generalize vs 4 = v4 at hK d4 ⊢
        subst d4
        have hmw := (Mod.drew (fun _ => False) w1).trans hR (H := fun _ => False) (fun _ _ e => e) (fun _ _ e => e)
        have hbw := HB.out W hmw
        go_wp2_with fail
        refine (rows_start W n1 a2 n2 _ G.E HE.out (HV.out W hmw).re hm1 hm2 _ rfl HK1.out).mono ?_
        rintro e' w' ⟨x4, z4, x5, z5, rfl, hR3, hI4, hI5, hM'⟩
        have N9 : Hid (NewRows B n1 n2 (G.E.map (·.1)) (.agg #[.slice x4 n2 z4, .slice x5 (n1 + 1) z5]) w') := Lib.hid ⟨x4, z4, x5, z5, rfl, hR3, inB_mono hI4 hbw, inB_mono hI5 hbw⟩
        have M9 := Lib.hid hM'
        clear hR3 hI4 hI5 hM' hmw
        go_wp2
        exact hK _ _ N9.out M9.out
      refine opsOk_cons ?_ ?_
      · intro K vs W hR hD hK
        clear hD
        simp only [putAll, Nat.zero_add, Nat.reduceAdd, Act.put, List.setIfInBounds_toArray, List.set_cons_succ, List.set_cons_zero] at hK ⊢
        go_wp2
        exact hK _ _ rfl (Mod.refl _ _)
      refine opsOk_cons ?_ ?_
      · intro K vs W hR hD hK
        clear hD
        simp only [putAll, Nat.zero_add, Nat.reduceAdd, Act.put, List.setIfInBounds_toArray, List.set_cons_succ, List.set_cons_zero] at hK ⊢
        go_wp2
        exact hK _ _ rfl (Mod.refl _ _)
      refine opsOk_cons ?_ ?_
      · intro K vs W hR hD hK
        have d7 : vs 7 = .pointer (some ⟨g, 1, none⟩) := hD 7 (by decide)
        clear hD
        simp only [putAll, Nat.zero_add, Nat.reduceAdd, Act.put, List.setIfInBounds_toArray, List.set_cons_succ, List.set_cons_zero] at hK ⊢
        generalize vs 7 = v7 at hK d7 ⊢
        subst d7
        obtain ⟨k0, k1, k2⟩ := HC.out W ((Mod.drew (fun _ => False) w1).trans hR (H := fun _ => False) (fun _ _ e => e) (fun _ _ e => e))
        go_wp2
        exact hK _ _ rfl (Mod.refl _ _)
      refine opsOk_cons ?_ ?_
      · intro K vs W hR hD hK
        have d6 : vs 6 = .int .i64 (n1 : Int) := hD 6 (by decide)
        have d8 : vs 8 = .slice a2 n2 u2 := hD 8 (by decide)
        clear hD
        simp only [putAll, Nat.zero_add, Nat.reduceAdd, Act.put, List.setIfInBounds_toArray, List.set_cons_succ, List.set_cons_zero] at hK ⊢
        generalize vs 6 = v6 at hK d6 ⊢
        subst d6
        generalize vs 8 = v8 at hK d8 ⊢
        subst d8
        have hmw := (Mod.drew (fun _ => False) w1).trans hR (H := fun _ => False) (fun _ _ e => e) (fun _ _ e => e)
        have hbw := HB.out W hmw
        go_wp2_with fail
        refine (rows_end W n1 a2 n2 _ G.E HE.out (HV.out W hmw).re hm1 hm2 _ rfl HK2.out).mono ?_
        rintro e' w' ⟨x4, z4, x5, z5, rfl, hR3, hI4, hI5, hM'⟩
        have N9 : Hid (NewRows B n1 n2 (G.E.map (·.2.1)) (.agg #[.slice x4 n2 z4, .slice x5 (n1 + 1) z5]) w') := Lib.hid ⟨x4, z4, x5, z5, rfl, hR3, inB_mono hI4 hbw, inB_mono hI5 hbw⟩
        have M9 := Lib.hid hM'
        clear hR3 hI4 hI5 hM' hmw
        go_wp2
        exact hK _ _ N9.out M9.out
      refine opsOk_cons ?_ ?_
      · intro K vs W hR hD hK
        have d1 : (NewGraph B n1 n2 n3 G) (vs 1) W := hD 1 (by decide)
        have d5 : (NewRows B n1 n2 (G.E.map (·.1))) (vs 5) W := hD 5 (by decide)
        have d9 : (NewRows B n1 n2 (G.E.map (·.2.1))) (vs 9) W := hD 9 (by decide)
        clear hD
        simp only [putAll, Nat.zero_add, Nat.reduceAdd, Act.put, List.setIfInBounds_toArray, List.set_cons_succ, List.set_cons_zero] at hK ⊢
        generalize vs 1 = v1 at hK d1 ⊢
        generalize vs 5 = v5 at hK d5 ⊢
        generalize vs 9 = v9 at hK d9 ⊢
        obtain ⟨y1, z1, y2, z2, y3, z3, rfl, o1, o2, o3⟩ := d1
        obtain ⟨x4, z4, x5, z5, rfl, r1⟩ := d5
        obtain ⟨x6, z6, x7, z7, rfl, r2⟩ := d9
        have N9 : Hid (NewBody B n1 n2 n3 G (.agg #[.slice y1 n1 z1, .slice y2 n2 z2, .slice y3 n3 z3, .slice x4 n2 z4, .slice x5 (n1 + 1) z5, .slice x6 n2 z6, .slice x7 (n1 + 1) z7]) W) := Lib.hid ⟨_, _, _, _, _, _, _, _, _, _, _, _, _, _, rfl, o1, o2, o3, r1, r2⟩
        clear o1 o2 o3 r1 r2
        go_wp2
        exact hK _ _ N9.out (Mod.refl _ _)
      refine opsOk_cons ?_ ?_
      · intro K vs W hR hD hK
        have d10 : (NewBody B n1 n2 n3 G) (vs 10) W := hD 10 (by decide)
        clear hD
        simp only [putAll, Nat.zero_add, Nat.reduceAdd, Act.put, List.setIfInBounds_toArray, List.set_cons_succ, List.set_cons_zero] at hK ⊢
        generalize vs 10 = v10 at hK d10 ⊢
        obtain ⟨y1, z1, y2, z2, y3, z3, x4, z4, x5, z5, x6, z6, x7, z7, rfl, hbody⟩ := d10
        have hbw := HB.out W ((Mod.drew (fun _ => False) w1).trans hR (H := fun _ => False) (fun _ _ e => e) (fun _ _ e => e))
        have N9 := Lib.hid (newObj_of HN.out HE.out HNB.out HM0.out hbw hbody)
        clear hbody
        go_wp2
        exact hK _ _ N9.out (Mod.alloc _ _ _)
      refine opsOk_cons ?_ ?_
      · intro K vs W hR hD hK
        have d11 : (NewObj B G) (vs 11) W := hD 11 (by decide)
        clear hD
        simp only [putAll, Nat.zero_add, Nat.reduceAdd, Act.put, List.setIfInBounds_toArray, List.set_cons_succ, List.set_cons_zero] at hK ⊢
        generalize vs 11 = v11 at hK d11 ⊢
        obtain ⟨p', C', rfl, hgo⟩ := d11
        have N9 : Hid (NewObj B G (.pointer (some ⟨p', 0, none⟩)) W) := Lib.hid ⟨p', C', rfl, hgo⟩
        clear hgo
        go_wp2
        exact hK _ _ N9.out (Mod.refl _ _)
      refine opsOk_cons ?_ ?_
      · intro K vs W hR hD hK
        clear hD
        simp only [putAll, Nat.zero_add, Nat.reduceAdd, Act.put, List.setIfInBounds_toArray, List.set_cons_succ, List.set_cons_zero] at hK ⊢
        go_wp2
        exact hK _ _ rfl (Mod.refl _ _)
      exact opsOk_nil
    · intro vs W hR hF
      have d12 : (NewObj B G) (vs 12) W := hF 12 (by decide)
      have d13 : vs 13 = .int .i64 0 := hF 13 (by decide)
      clear hF
      simp only [putAll, Nat.zero_add, Nat.reduceAdd, Act.put, List.setIfInBounds_toArray, List.set_cons_succ, List.set_cons_zero]
      generalize vs 12 = v12 at d12 ⊢
      generalize vs 13 = v13 at d13 ⊢
      subst d13
      obtain ⟨p', C', rfl, hgo⟩ := d12
      have hmw := (Mod.drew (fun _ => False) w1).trans hR (H := fun _ => False) (fun _ _ e => e) (fun _ _ e => e)
      have HGO := Lib.hid hgo
      have HMW := Lib.hid (HMM.out.trans hmw (H := fun _ => False) (fun _ _ e => e) (fun _ _ e => e))
      clear hgo hmw hR
      go_wp2_with fail
      go_ret2
      exact Or.inl ⟨HM0.out, p', rfl, (HGO.out.base HBB.out).wide, HMW.out⟩
end Go.Proofs.Ytdccpikddhpleaa
