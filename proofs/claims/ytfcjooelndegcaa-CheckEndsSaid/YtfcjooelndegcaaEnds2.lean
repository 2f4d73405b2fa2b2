/- The law CheckEnds, walked. -/
import Derived.Test.YtfcjooelndegcaaAwake2
import Derived.Test.YtfcjooelndegcaaOpens
namespace Go.Proofs.Ytfcjooelndegcaa
open Go.RowKit Mile

set_option maxHeartbeats 4000000 in
set_option maxRecDepth 100000 in
theorem ends_walk (w : World) (a : Option Addr) (n c : Nat) (bs : List Int) (hn : bs.length = n) (hr : Rd w 1 (.slice a n c) n (bs.map (Value.int .u8))) (hb : ∀ x ∈ bs, 0 ≤ x ∧ x < 256) (k x y : Int)
    (hx : 0 ≤ x ∧ x ≤ 4294967295) (hy : 0 ≤ y ∧ y ≤ 4294967295) :
    Calls Try.prog 6 #[.slice a n c, .int .i64 k, .int .u32 x, .int .u32 y] w fun e w' => e = .returned (.bool true) ∧ Mod (fun _ => False) w w' := by
  obtain ⟨i0, hi, hz0, hz1, hz2⟩ := info_parts Chk.info5
  have HN := Lib.hid hn
  clear hn
  by_cases hbig : 300 < n ∨ k < 1 ∨ 3 < k
  · by_cases h1 : 300 < n
    · go_enter Try.func6, Try.ntmps6
      go_wp2_with fail
      refine (awake_any _).mono ?_
      rintro e w9 ⟨rfl, hM9⟩
      go_wp2
      go_ret
      exact ⟨rfl, hM9⟩
    · by_cases h2 : k < 1
      · go_enter Try.func6, Try.ntmps6
        go_wp2_with fail
        refine (awake_any _).mono ?_
        rintro e w9 ⟨rfl, hM9⟩
        go_wp2
        go_ret
        exact ⟨rfl, hM9⟩
      · have h3 : 3 < k := by omega
        go_enter Try.func6, Try.ntmps6
        go_wp2_with fail
        refine (awake_any _).mono ?_
        rintro e w9 ⟨rfl, hM9⟩
        go_wp2
        go_ret
        exact ⟨rfl, hM9⟩
  have q1 : n ≤ 300 := by omega
  obtain ⟨m, rfl⟩ := Int.eq_ofNat_of_zero_le (show 0 ≤ k by omega)
  have q2 : 1 ≤ m := by omega
  have q3 : m ≤ 3 := by omega
  have q2' : 1 ≤ (m : Int) := by omega
  have q3' : (m : Int) ≤ 3 := by omega
  clear hbig
  have hmk := run_makeS (P := Try.prog) 22 5 i0 (.int .u8 0) Try.underlying22 hi hz0 rfl hz1 m (by rw [hz2]; omega) (by omega)
  go_enter Try.func6, Try.ntmps6
  go_wp2_with fail
  obtain ⟨x0, hx0⟩ : ∃ x0, x / 16777216 = x0 := ⟨_, rfl⟩
  obtain ⟨x1, hx1⟩ : ∃ x1, x / 65536 % 256 = x1 := ⟨_, rfl⟩
  obtain ⟨x2, hx2⟩ : ∃ x2, x / 256 % 256 = x2 := ⟨_, rfl⟩
  obtain ⟨x3, hx3⟩ : ∃ x3, x % 256 = x3 := ⟨_, rfl⟩
  obtain ⟨y0, hy0⟩ : ∃ y0, y / 16777216 = y0 := ⟨_, rfl⟩
  obtain ⟨y1, hy1⟩ : ∃ y1, y / 65536 % 256 = y1 := ⟨_, rfl⟩
  obtain ⟨y2, hy2⟩ : ∃ y2, y / 256 % 256 = y2 := ⟨_, rfl⟩
  obtain ⟨y3, hy3⟩ : ∃ y3, y % 256 = y3 := ⟨_, rfl⟩
  rw [hx0, hx1, hx2, hx3, hy0, hy1, hy2, hy3]
  have bx : ∀ n ∈ [x0, x1, x2, x3], 0 ≤ n ∧ n < 256 := by intro n hn; simp at hn; omega
  have by_ : ∀ n ∈ [y0, y1, y2, y3], 0 ≤ n ∧ n < 256 := by intro n hn; simp at hn; omega
  have key : (((csum [x0, x1, x2, x3]).toNat : Int) == ((csum [y0, y1, y2, y3]).toNat : Int)) = (x == y) := by
    rw [Bool.eq_iff_iff, beq_iff_eq, beq_iff_eq]
    constructor
    · intro h
      have h := csum_four _ _ _ _ _ _ _ _ (by omega) (by omega) (by omega) (by omega) (by omega) (by omega) (by omega) (by omega) (BitVec.eq_of_toNat_eq (Int.ofNat.inj h))
      omega
    · intro h
      subst h
      rw [← hx0, ← hx1, ← hx2, ← hx3, ← hy0, ← hy1, ← hy2, ← hy3]
  clear hx0 hx1 hx2 hx3 hy0 hy1 hy2 hy3
  obtain ⟨CX, hCX⟩ : ∃ CX : Int, ((csum [x0, x1, x2, x3]).toNat : Int) = CX := ⟨_, rfl⟩
  obtain ⟨CY, hCY⟩ : ∃ CY : Int, ((csum [y0, y1, y2, y3]).toNat : Int) = CY := ⟨_, rfl⟩
  rw [hCX, hCY] at key
  have HCX := Lib.hid hCX
  have HCY := Lib.hid hCY
  clear hCX hCY
  have HK := Lib.hid key
  clear key
  -- the world at the first sum, by a name
  have hM0 := (((Mod.refl (fun _ => False) w).thenAlloc (.cells (zrow (.int .u8 0) m) 5)).thenAlloc (.cells #[.int .u8 x0, .int .u8 x1, .int .u8 x2, .int .u8 x3] 5)).thenAlloc (.cells #[.int .u8 y0, .int .u8 y1, .int .u8 y2, .int .u8 y3] 5)
  have hZ0 : Rd _ 1 (.slice (some ⟨w.heap.size, 0, none⟩) m m) m ((List.replicate m 0).map (Value.int .u8)) := ((show Rd _ 1 _ m _ by rw [List.map_replicate]; exact Rd.ofOwn (own_zrow w 5 (.int .u8 0) m w.heap.size rfl (by omega)) : Rd (w.alloc (.cells (zrow (.int .u8 0) m) 5)) 1 (.slice (some ⟨w.heap.size, 0, none⟩) m m) m ((List.replicate m 0).map (Value.int .u8))).alloc (.cells #[.int .u8 x0, .int .u8 x1, .int .u8 x2, .int .u8 x3] 5)).alloc (.cells #[.int .u8 y0, .int .u8 y1, .int .u8 y2, .int .u8 y3] 5)
  have hX0 := (Rd.lit (w := w.alloc (.cells (zrow (.int .u8 0) m) 5)) 5 [.int .u8 x0, .int .u8 x1, .int .u8 x2, .int .u8 x3] (0, 0) (w.heap.size + 1) 4 (by simp) rfl (by omega)).alloc (.cells #[.int .u8 y0, .int .u8 y1, .int .u8 y2, .int .u8 y3] 5)
  have hY0 := Rd.lit (w := (w.alloc (.cells (zrow (.int .u8 0) m) 5)).alloc (.cells #[.int .u8 x0, .int .u8 x1, .int .u8 x2, .int .u8 x3] 5)) 5 [.int .u8 y0, .int .u8 y1, .int .u8 y2, .int .u8 y3] (0, 0) (w.heap.size + 1 + 1) 4 (by simp) rfl (by omega)
  obtain ⟨W0, hW0⟩ : ∃ W0, ((w.alloc (.cells (zrow (.int .u8 0) m) 5)).alloc (.cells #[.int .u8 x0, .int .u8 x1, .int .u8 x2, .int .u8 x3] 5)).alloc (.cells #[.int .u8 y0, .int .u8 y1, .int .u8 y2, .int .u8 y3] 5) = W0 := ⟨_, rfl⟩
  have hS0 : w.heap.size + 1 + 1 + 1 = W0.heap.size := by rw [← hW0]; simp
  rw [hS0]
  rw [hW0] at hM0 hZ0
  rw [hW0] at hX0 hY0
  obtain ⟨zb, hzb⟩ : ∃ zb, w.heap.size = zb := ⟨_, rfl⟩
  rw [hzb] at hZ0 hX0 hY0
  rw [hzb]
  rw [hW0]
  have HZB := Lib.hid hzb
  clear hW0 hzb hS0
  obtain ⟨zs, hzs⟩ : ∃ zs, List.replicate m (0 : Int) = zs := ⟨_, rfl⟩
  have hzl : zs.length = m := by rw [← hzs]; simp
  have bz : ∀ n ∈ zs, 0 ≤ n ∧ n < 256 := by intro n hn; rw [← hzs, List.mem_replicate] at hn; omega
  rw [hzs] at hZ0
  have HZL := Lib.hid hzl
  clear hzs hzl
  have hBR : Hid (∀ W, Mod (fun _ => False) W0 W → Rd W 1 (.slice a n c) n (bs.map (Value.int .u8))) := Lib.hid fun W h => (hr.keepA hM0 (fun _ _ e => e.elim)).keepA h (fun _ _ e => e.elim)
  have hZR : Hid (∀ W, Mod (fun _ => False) W0 W → Rd W 1 (.slice (some ⟨zb, 0, none⟩) m m) m (zs.map (Value.int .u8))) := Lib.hid fun W h => hZ0.keepA h (fun _ _ e => e.elim)
  have hXR : Hid (∀ W, Mod (fun _ => False) W0 W → Rd W 1 (.slice (some ⟨zb + 1, 0, none⟩) 4 4) 4 ([x0, x1, x2, x3].map (Value.int .u8))) := Lib.hid fun W h => Rd.keepA hX0 h (fun _ _ e => e.elim)
  have hYR : Hid (∀ W, Mod (fun _ => False) W0 W → Rd W 1 (.slice (some ⟨zb + 1 + 1, 0, none⟩) 4 4) 4 ([y0, y1, y2, y3].map (Value.int .u8))) := Lib.hid fun W h => Rd.keepA hY0 h (fun _ _ e => e.elim)
  clear hZ0 hX0 hY0
  have c1 : ∀ u ∈ bs.map (Value.int .u8), u.oneCell' = true := by intro u hu; simp at hu; obtain ⟨x, _, rfl⟩ := hu; rfl
  have c2 : ∀ u ∈ zs.map (Value.int .u8), u.oneCell' = true := by intro u hu; simp at hu; obtain ⟨x, _, rfl⟩ := hu; rfl
  have C1 := Lib.hid c1
  have C2 := Lib.hid c2
  clear c1 c2
  have l1 : 0 + n ≤ maxLen := by unfold maxLen; omega
  have l2 : (0 + n) * 1 ≤ 140737488355328 := by omega
  have l3 : n + m ≤ maxLen := by unfold maxLen; omega
  have l4 : (n + m) * 1 ≤ 140737488355328 := by omega
  have l5 : 0 + m ≤ maxLen := by unfold maxLen; omega
  have l6 : (0 + m) * 1 ≤ 140737488355328 := by omega
  have l7 : m + n ≤ maxLen := by unfold maxLen; omega
  have l8 : (m + n) * 1 ≤ 140737488355328 := by omega
  -- Sum(b, z)
  have m1 : Mod (fun _ => False) W0 (W0.alloc (.cells #[.slice a n c, .slice (some ⟨zb, 0, none⟩) m m] 22)) := Mod.alloc _ _ _
  refine (sum_any _ 2 2 [(.slice a n c, bs), (.slice (some ⟨zb, 0, none⟩) m m, zs)] _ rfl (Parts.two (Rd.lit _ [.slice a n c, .slice (some ⟨zb, 0, none⟩) m m] _ _ 2 rfl rfl (by omega)) (by rw [HN.out]; exact hBR.out _ m1) (by rw [HZL.out]; exact hZR.out _ m1) hb bz)).mono ?_
  rintro e W1 ⟨rfl, hw⟩
  rw [hw] at m1
  clear hw
  rw [show flat [(Value.slice a n c, bs), (.slice (some ⟨zb, 0, none⟩) m m, zs)] = bs ++ zs by simp [flat]]
  obtain ⟨S1, hS1⟩ : ∃ S1 : Int, ((csum (bs ++ zs)).toNat : Int) = S1 := ⟨_, rfl⟩
  rw [hS1]
  have HS1 := Lib.hid hS1
  clear hS1
  have r1 := hBR.out _ m1
  have r2 := hZR.out _ m1
  go_wp2_with (first
    | (at_builtin; refine wpList_append_any rfl (.tmp 54) (.tmp 55) 22 rfl 5 i0 (.int .u8 0) 1 1 Try.underlying22 hi hz0 hz1 hz2 rfl (by decide) _ 0 [] rfl (own_empty _ _ _ _ rfl) _ n (bs.map (Value.int .u8)) rfl ((hBR.out _ m1).alloc _) C1.out l1 l2 ?_; intro vp1 wp1 hap; obtain ⟨ap3, cp3, rfl⟩ := hap.form; have hop := hap.own; have lop := hap.low (B := W0.heap.size) (by have := m1.size; simp; omega) (low_lit m1.size); have hmp := hap.modOld (m1.thenAlloc _) (low_lit m1.size); simp only [Nat.zero_add, List.nil_append] at hop lop; clear hap)
    | (at_builtin; (refine wpList_append_any rfl (.tmp 56) (.tmp 57) 22 rfl 5 i0 (.int .u8 0) 1 1 Try.underlying22 hi hz0 hz1 hz2 rfl (by decide) _ n _ rfl hop _ m (zs.map (Value.int .u8)) rfl (hZR.out _ hmp) C2.out l3 l4 ?_; intro vp2 wp2 hap; obtain ⟨ap4, cp4, rfl⟩ := hap.form; have hop' := hap.own; have hmp' := hap.modOld hmp lop; clear hap)))
  refine (rsum_any _ _ _ (bs ++ zs) _ (by rw [List.map_append]; exact Rd.ofOwn hop') (by intro x hx; rw [List.mem_append] at hx; exact hx.elim (hb x) (bz x))).mono ?_
  rintro e w' ⟨rfl, rfl⟩
  rw [HS1.out]
  clear hop lop hop' r1 r2 hmp m1
  go_wp2_with fail
  have m2 := hmp'.thenAlloc (.cells #[.slice (some ⟨zb, 0, none⟩) m m, .slice a n c] 22)
  refine (sum_any _ 2 2 [(.slice (some ⟨zb, 0, none⟩) m m, zs), (.slice a n c, bs)] _ rfl (Parts.two (Rd.lit _ [.slice (some ⟨zb, 0, none⟩) m m, .slice a n c] _ _ 2 rfl rfl (by omega)) (by rw [HZL.out]; exact hZR.out _ m2) (by rw [HN.out]; exact hBR.out _ m2) bz hb)).mono ?_
  rintro e W2 ⟨rfl, hw⟩
  rw [hw] at m2
  clear hw hmp'
  rw [show flat [(Value.slice (some ⟨zb, 0, none⟩) m m, zs), (.slice a n c, bs)] = zs ++ bs by simp [flat]]
  obtain ⟨S2, hS2⟩ : ∃ S2 : Int, ((csum (zs ++ bs)).toNat : Int) = S2 := ⟨_, rfl⟩
  rw [hS2]
  have HS2 := Lib.hid hS2
  clear hS2
  go_wp2_with (first
    | (at_builtin; refine wpList_append_want rfl (.tmp 66) (.tmp 67) 22 rfl 5 i0 (.int .u8 0) 1 1 Try.underlying22 hi hz0 hz1 hz2 rfl (by decide) _ 0 [] rfl (own_empty _ _ _ _ rfl) _ m (zs.map (Value.int .u8)) rfl ((hZR.out _ m2).alloc _) C2.out l5 l6 ?_; intro vq1 wq1 hap; obtain ⟨aq3, cq3, rfl⟩ := hap.form; have hoq := hap.own; have loq := hap.low (B := W0.heap.size) (by have := m2.size; simp; omega) (low_lit m2.size); have hmq := hap.modOld (m2.thenAlloc _) (low_lit m2.size); simp only [Nat.zero_add, List.nil_append] at hoq loq; clear hap)
    | (at_builtin; (refine wpList_append_want rfl (.tmp 68) (.tmp 69) 22 rfl 5 i0 (.int .u8 0) 1 1 Try.underlying22 hi hz0 hz1 hz2 rfl (by decide) _ m _ rfl hoq _ n (bs.map (Value.int .u8)) rfl (hBR.out _ hmq) C1.out l7 l8 ?_; intro vq2 wq2 hap; obtain ⟨aq4, cq4, rfl⟩ := hap.form; have hoq' := hap.own; have hmq' := hap.modOld hmq loq; clear hap)))
  refine (rsum_any _ _ _ (zs ++ bs) _ (by rw [List.map_append]; exact Rd.ofOwn hoq') (by intro x hx; rw [List.mem_append] at hx; exact hx.elim (bz x) (hb x))).mono ?_
  rintro e w' ⟨rfl, rfl⟩
  rw [HS2.out]
  clear hoq loq hoq' hmq m2
  go_wp2_with fail
  have m3 := hmq'.thenAlloc (.cells #[.slice (some ⟨zb + 1, 0, none⟩) 4 4] 22)
  refine (sum_any _ 1 1 _ _ rfl (Parts.one (bs := [x0, x1, x2, x3]) (Rd.lit _ [.slice (some ⟨zb + 1, 0, none⟩) 4 4] _ _ 1 rfl rfl (by omega)) (hXR.out _ m3) bx)).mono ?_
  rintro e W3 ⟨rfl, hw⟩
  rw [hw] at m3
  clear hw hmq'
  rw [show flat [(Value.slice (some ⟨zb + 1, 0, none⟩) 4 4, [x0, x1, x2, x3])] = [x0, x1, x2, x3] by simp [flat], HCX.out]
  go_wp2_with fail
  have m4 := m3.thenAlloc (.cells #[.slice (some ⟨zb + 1 + 1, 0, none⟩) 4 4] 22)
  refine (sum_any _ 1 1 _ _ rfl (Parts.one (bs := [y0, y1, y2, y3]) (Rd.lit _ [.slice (some ⟨zb + 1 + 1, 0, none⟩) 4 4] _ _ 1 rfl rfl (by omega)) (hYR.out _ m4) by_)).mono ?_
  rintro e W4 ⟨rfl, hw⟩
  rw [hw] at m4
  clear hw m3
  rw [show flat [(Value.slice (some ⟨zb + 1 + 1, 0, none⟩) 4 4, [y0, y1, y2, y3])] = [y0, y1, y2, y3] by simp [flat], HCY.out]
  have key := HK.out
  obtain ⟨t, ht⟩ : ∃ t, (x == y) = t := ⟨_, rfl⟩
  rw [ht] at key
  cases t with
  | true =>
    go_wp2_with fail
    refine (awake_any _).mono ?_
    rintro e w9 ⟨rfl, hM9⟩
    go_wp2
    go_ret
    exact ⟨rfl, (hM0.trans m4 (fun _ _ e => e) (fun _ _ e => e)).trans hM9 (fun _ _ e => e) (fun _ _ e => e)⟩
  | false =>
    go_wp2_with fail
    refine (awake_any _).mono ?_
    rintro e w9 ⟨rfl, hM9⟩
    go_wp2
    go_ret
    exact ⟨rfl, (hM0.trans m4 (fun _ _ e => e) (fun _ _ e => e)).trans hM9 (fun _ _ e => e) (fun _ _ e => e)⟩

theorem u32_wf {n : Int} (h : (Lit.int .u32 n).wf = true) : 0 ≤ n ∧ n ≤ 4294967295 := by
  simp [Lit.wf, IntKind.min, IntKind.max, IntKind.signed, IntKind.bits] at h
  omega

theorem ends_all (w : World) (a : Option Addr) (n c : Nat) (xs : List Int) (ok : (encSlice (encInt .u8)).ok w (.slice a n c, xs)) (k : Int) (_ : (Lit.int .i64 k).wf = true) (x : Int) (hx : (Lit.int .u32 x).wf = true) (y : Int) (hy : (Lit.int .u32 y).wf = true) :
    Calls Try.prog 6 #[.slice a n c, .int .i64 k, .int .u32 x, .int .u32 y] w fun e w' => e = .returned (.bool true) ∧ Below w.heap.size w w' := by
  obtain ⟨hn, hr, hb⟩ := ok_ints ok
  exact (ends_walk w a n c xs hn hr (u8_range hb) k x y (u32_wf hx) (u32_wf hy)).mono fun e w' h => ⟨h.1, h.2.below (Nat.le_refl _) (fun _ e => e.elim)⟩

end Go.Proofs.Ytfcjooelndegcaa
