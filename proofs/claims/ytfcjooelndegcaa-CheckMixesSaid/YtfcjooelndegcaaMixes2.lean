/- The law CheckMixes, walked. -/
import Derived.Test.YtfcjooelndegcaaAwake2
import Derived.Test.YtfcjooelndegcaaOpens
import Derived.Test.YtfcjooelndegcaaRegion
import Derived.BigRegion
namespace Go.Proofs.Ytfcjooelndegcaa
open Go.RowKit Mile

/-- What each operation of the statement leaves. -/
def mixes_F (a b : Option Addr) (na nb n ca cb g : Nat) (As Bs cs : List Int) (X Y : B32) : List (Value → World → Prop) :=
  [IsV (.slice (some ⟨g, 0, none⟩) n n),
   (NewRow 1 [.slice (some ⟨g, 0, none⟩) n n]),
   IsV (.int .u32 ((csum cs).toNat : Int)),
   IsV (.slice a na ca),
   IsV (.int .i64 n),
   IsV (.slice a n ca),
   (NewRow 1 [.slice a n ca]),
   IsV (.int .u32 ((csum As).toNat : Int)),
   IsV (.slice b nb cb),
   IsV (.int .i64 n),
   IsV (.slice b n cb),
   (NewRow 1 [.slice b n cb]),
   IsV (.int .u32 ((csum Bs).toNat : Int)),
   IsV (.int .u32 (X.toNat : Int)),
   IsV (.int .i64 n),
   (fun v W => ∃ p, v = .slice (some ⟨p, 0, none⟩) n n ∧ Rd W 1 v n ((List.replicate n 0).map (Value.int .u8))),
   (fun v W => ∃ p q, v = .slice (some ⟨p, 0, none⟩) 1 1 ∧ Rd W 1 v 1 [.slice (some ⟨q, 0, none⟩) n n] ∧ Rd W 1 (.slice (some ⟨q, 0, none⟩) n n) n ((List.replicate n 0).map (Value.int .u8))),
   IsV (.int .u32 ((csum (List.replicate n 0)).toNat : Int)),
   IsV (.int .u32 (Y.toNat : Int)),
   IsV (.bool true),
   IsV (.bool true),
   IsV (.bool true),
   IsV (.bool true),
   IsV (.bool true)]
def mixes_D : List (List Nat) := [[], [0], [1], [], [], [3, 4], [5], [6], [], [], [8, 9], [10], [11], [7, 12], [], [14], [15], [16], [13, 17], [2, 18], [19], [20], [20, 21], [22]]

theorem List.set_map_u8 (l : List Int) (i : Nat) (y : Int) : (l.map (Value.int .u8)).set i (.int .u8 y) = (l.set i y).map (Value.int .u8) := by rw [List.map_set]
theorem take_bytes {l : List Int} (n : Nat) (h : ∀ x ∈ l, 0 ≤ x ∧ x < 256) : ∀ x ∈ l.take n, 0 ≤ x ∧ x < 256 := fun x hx => h x (List.mem_of_mem_take hx)

theorem zip_set (As Bs : List Int) (n j : Nat) (hA : As.length = n) (hB : Bs.length = n) (hj : j < n) :
    ((List.zipWith bxor As Bs).take j ++ List.replicate (n - j) 0).set j (bxor (As[j]'(by omega)) (Bs[j]'(by omega))) = (List.zipWith bxor As Bs).take (j + 1) ++ List.replicate (n - (j + 1)) 0 := by
  have hl : (List.zipWith bxor As Bs).length = n := by rw [List.length_zipWith]; omega
  have ht : ((List.zipWith bxor As Bs).take j).length = j := by rw [List.length_take]; omega
  rw [List.set_append_right _ _ (by omega), ht, Nat.sub_self, show n - j = (n - (j + 1)) + 1 by omega, List.replicate_succ, List.set_cons_zero,
    List.take_succ_eq_append_getElem (by omega), List.append_assoc]
  simp

set_option maxHeartbeats 4000000 in
set_option maxRecDepth 100000 in
theorem mixes_walk (w : World) (a : Option Addr) (na ca : Nat) (xs : List Int) (hna : xs.length = na) (hra : Rd w 1 (.slice a na ca) na (xs.map (Value.int .u8))) (hab0 : ∀ x ∈ xs, 0 ≤ x ∧ x < 256)
    (b : Option Addr) (nb cb : Nat) (ys : List Int) (hnb : ys.length = nb) (hrb : Rd w 1 (.slice b nb cb) nb (ys.map (Value.int .u8))) (hbb0 : ∀ x ∈ ys, 0 ≤ x ∧ x < 256) :
    Calls Try.prog 5 #[.slice a na ca, .slice b nb cb] w fun e w' => e = .returned (.bool true) ∧ Mod (fun _ => False) w w' := by
  obtain ⟨i0, hi, hz0, hz1, hz2⟩ := info_parts Chk.info5
  have HNA := Lib.hid hna
  have HNB := Lib.hid hnb
  clear hna hnb
  by_cases hbig : 500 < na ∨ 500 < nb
  · by_cases h1 : 500 < na
    · go_enter Try.func5, Try.ntmps5
      go_wp2_with fail
      refine (awake_any _).mono ?_
      rintro e w9 ⟨rfl, hM9⟩
      go_wp2
      go_ret
      exact ⟨rfl, hM9⟩
    · have h2 : 500 < nb := by omega
      go_enter Try.func5, Try.ntmps5
      go_wp2_with fail
      refine (awake_any _).mono ?_
      rintro e w9 ⟨rfl, hM9⟩
      go_wp2
      go_ret
      exact ⟨rfl, hM9⟩
  have q1 : na ≤ 500 := by omega
  have q2 : nb ≤ 500 := by omega
  clear hbig
  obtain ⟨n, hnn⟩ : ∃ n, min na nb = n := ⟨_, rfl⟩
  have hn1 : n ≤ na := by omega
  have hn2 : n ≤ nb := by omega
  have hnI : min (na : Int) (nb : Int) = (n : Int) := by omega
  have HNI := Lib.hid hnI
  clear hnn hnI
  have hca : na ≤ ca := by obtain ⟨_, a', c', he, h1, _⟩ := hra; cases he; exact h1
  have hcb' : nb ≤ cb := by obtain ⟨_, a', c', he, h1, _⟩ := hrb; cases he; exact h1
  have hra2 := hra.take hn1
  have hrb2 := hrb.take hn2
  rw [Nat.mul_one, ← List.map_take] at hra2 hrb2
  have hab := take_bytes n hab0
  have hbb := take_bytes n hbb0
  have hAl : (xs.take n).length = n := by rw [List.length_take, HNA.out]; omega
  have hBl : (ys.take n).length = n := by rw [List.length_take, HNB.out]; omega
  obtain ⟨As, hAs⟩ : ∃ As, xs.take n = As := ⟨_, rfl⟩
  obtain ⟨Bs, hBs⟩ : ∃ Bs, ys.take n = Bs := ⟨_, rfl⟩
  rw [hAs] at hra2 hab hAl
  rw [hBs] at hrb2 hbb hBl
  clear hAs hBs hra hrb hab0 hbb0
  have HAL := Lib.hid hAl
  have HBL := Lib.hid hBl
  clear hAl hBl
  have hmk := run_makeS (P := Try.prog) 22 5 i0 (.int .u8 0) Try.underlying22 hi hz0 rfl hz1 n (by rw [hz2]; omega) (by omega)
  have hmin : ∀ wx, (Builtin.min_ #[3, 3] 3 #[.int .i64 na, .int .i64 nb]).run Try.prog wx = .ok (.int .i64 n) wx := by
    intro wx
    have h := HNI.out
    rw [run_min_int2]
    congr 2
    split <;> omega
  have Hmin := Lib.hid hmin
  clear hmin
  have hmin := Hmin.out
  go_enter Try.func5, Try.ntmps5
  go_wp2_with fail
  obtain ⟨g, hg⟩ : ∃ g, w.heap.size = g := ⟨_, rfl⟩
  have hM0 := (Mod.refl (fun _ => False) w).thenAlloc (.cells (zrow (.int .u8 0) n) 5)
  have hO0 := own_zrow w 5 (.int .u8 0) n g hg.symm (by omega)
  rw [hg]
  have HG := Lib.hid hg
  clear hg
  go_loopw [7] (fun i wr => ∃ (j : Nat), j ≤ n ∧ i = .int .i64 j ∧ wr.ownsRow 0 5 1 (.slice (some ⟨g, 0, none⟩) n n) n (((List.zipWith bxor As Bs).take j ++ List.replicate (n - j) 0).map (Value.int .u8)) ∧ Mod (fun _ => False) w wr) (fun i _ => n - (intOf i).toNat)
  case atStart => exact ⟨0, by omega, rfl, by rw [List.take_zero, List.nil_append, Nat.sub_zero, List.map_replicate]; exact hO0, hM0⟩
  case round =>
    clear hM0 hO0
    obtain ⟨j, hj, rfl, hown, hM⟩ := hrel
    by_cases hlt : j < n
    · have hjA : j < As.length := by rw [HAL.out]; exact hlt
      have hjB : j < Bs.length := by rw [HBL.out]; exact hlt
      have hixA := fun wx => run_indexS (P := Try.prog) wx 22 5 i0 1 Try.underlying22 hi hz1 a na ca j (by omega) (hra2.some_ (by omega))
      have hixB := fun wx => run_indexS (P := Try.prog) wx 22 5 i0 1 Try.underlying22 hi hz1 b nb cb j (by omega) (hrb2.some_ (by omega))
      have cA : wr.cell? (elemA a j 1) = some (.int .u8 As[j]) := (hra2.keepA hM (fun _ _ e => e.elim)).elem (by simp [hjA])
      have cB : wr.cell? (elemA b j 1) = some (.int .u8 Bs[j]) := (hrb2.keepA hM (fun _ _ e => e.elim)).elem (by simp [hjB])
      have hst := hown.stored j (.int .u8 (bxor As[j] Bs[j]))
      have hzs := Lib.hid (zip_set As Bs n j HAL.out HBL.out hlt)
      have hx := Lib.hid (bxor_bits As[j] Bs[j])
      have c2 := hown.frozenAt j
      obtain ⟨u0, c1⟩ : ∃ u0, wr.cell? ⟨g, j, none⟩ = some u0 := by
        have h := hown.cellAt j (by omega)
        have hl : j < (((List.zipWith bxor As Bs).take j ++ List.replicate (n - j) 0).map (Value.int .u8)).length := by
          have := hown.1; omega
        exact ⟨_, by rw [h, List.getElem?_eq_getElem hl]⟩
      have hst2 := hM.trans (Mod.ofGrown hst.2) (H := fun _ => False) (fun _ _ e => e) (fun i hi e => by
        have : g = i := Option.some.inj e
        have := HG.out
        omega)
      rw [List.set_map_u8, hzs.out] at hst
      have hst1 := Lib.hid hst.1
      clear hst
      obtain ⟨ea, hea⟩ : ∃ ea, As[j] = ea := ⟨_, rfl⟩
      obtain ⟨eb, heb⟩ : ∃ eb, Bs[j] = eb := ⟨_, rfl⟩
      rw [hea] at cA hx hst1 hst2
      rw [heb] at cB hx hst1 hst2
      clear hea heb hzs
      go_wp2_with fail
      go_region
      all_goals
        go_wp2
        go_roundw
        case rel => exact ⟨j + 1, hlt, by go_num, by rw [hx.out]; exact World.ownsRow.drew hst1.out, by rw [hx.out]; exact hst2.thenDrew⟩
        case measure => simp [intOf]; omega
    · obtain rfl : j = n := by omega
      have hzl : (List.zipWith bxor As Bs).length = j := by rw [List.length_zipWith, HAL.out, HBL.out]; omega
      rw [Nat.sub_self, List.replicate_zero, List.append_nil, List.take_of_length_le (by omega)] at hown
      have hmix := csum_mixes As Bs (by rw [HAL.out, HBL.out]) hab hbb
      rw [HAL.out] at hmix
      have hcb : ∀ x ∈ List.zipWith bxor As Bs, 0 ≤ x ∧ x < 256 := by
        intro x hx
        obtain ⟨i, hi, rfl⟩ := List.getElem_of_mem hx
        rw [List.getElem_zipWith]; exact bxor_range _ _
      obtain ⟨cs, hcs⟩ : ∃ cs, List.zipWith bxor As Bs = cs := ⟨_, rfl⟩
      rw [hcs] at hown hmix hcb hzl
      clear hcs
      have HCL := Lib.hid hzl
      have hzb : ∀ x ∈ List.replicate j (0 : Int), 0 ≤ x ∧ x < 256 := by intro x hx; rw [List.mem_replicate] at hx; omega
      obtain ⟨X, hX⟩ : ∃ X, csum As ^^^ csum Bs = X := ⟨_, rfl⟩
      rw [hX] at hmix
      obtain ⟨Y, hY⟩ : ∃ Y, X ^^^ csum (List.replicate j 0) = Y := ⟨_, rfl⟩
      rw [hY] at hmix
      have HX := Lib.hid hX
      have HY := Lib.hid hY
      have e1 : (((csum cs).toNat : Int) == (Y.toNat : Int)) = true := by rw [hmix]; simp
      have HE1 := Lib.hid e1
      have HRC : Hid (∀ W, Mod (fun _ => False) wr W → Rd W 1 (.slice (some ⟨g, 0, none⟩) j j) j (cs.map (Value.int .u8))) := Lib.hid fun W h => (Rd.ofOwn hown).keepA h (fun _ _ e => e.elim)
      have HRA : Hid (∀ W, Mod (fun _ => False) wr W → Rd W 1 (.slice a j ca) j (As.map (Value.int .u8))) := Lib.hid fun W h => (hra2.keepA hM (fun _ _ e => e.elim)).keepA h (fun _ _ e => e.elim)
      have HRB : Hid (∀ W, Mod (fun _ => False) wr W → Rd W 1 (.slice b j cb) j (Bs.map (Value.int .u8))) := Lib.hid fun W h => (hrb2.keepA hM (fun _ _ e => e.elim)).keepA h (fun _ _ e => e.elim)
      clear hown hmix hzl e1 hra2 hrb2 hX hY
      go_wp2_with fail
      refine wp_region_inv (Mod (fun _ => False)) (fun i => (mixes_F a b na nb j ca cb g As Bs cs X Y).getD i (fun _ _ => True)) (fun i => mixes_D.getD i []) (by kernel_rfl) (by kernel_rfl) (by kernel_rfl) (by kernel_rfl) (fun _ => Mod.refl _ _)
        (fun _ _ _ h k => h.trans k (fun _ _ e => e) (fun _ _ e => e)) (stable_list ?_) ?_ ?_
      · intro f hf
        simp only [mixes_F, List.mem_cons, List.not_mem_nil, or_false] at hf
        rcases hf with rfl | rfl | rfl | rfl | rfl | rfl | rfl | rfl | rfl | rfl | rfl | rfl | rfl | rfl | rfl | rfl | rfl | rfl | rfl | rfl | rfl | rfl | rfl | rfl <;> first | exact stable_val _ | exact stable_new | exact (fun _ _ _ ⟨p, h, hr⟩ hm => ⟨p, h, hr.keepA hm (fun _ _ e => e.elim)⟩) | exact (fun _ _ _ ⟨p, q, h, hr, hr2⟩ hm => ⟨p, q, h, hr.keepA hm (fun _ _ e => e.elim), hr2.keepA hm (fun _ _ e => e.elim)⟩)
      · refine opsOk_cons ?_ ?_
        · intro K vs W hR hD hK
          clear hD
          simp only [putAll, Nat.zero_add, Nat.reduceAdd, Act.put, List.setIfInBounds_toArray, List.set_cons_succ, List.set_cons_zero] at hK ⊢
          go_wp2
          exact hK _ _ rfl (Mod.refl _ _)
        refine opsOk_cons ?_ ?_
        · intro K vs W hR hD hK
          have d0 : vs 0 = .slice (some ⟨g, 0, none⟩) j j := hD 0 (by decide)
          clear hD
          simp only [putAll, Nat.zero_add, Nat.reduceAdd, Act.put, List.setIfInBounds_toArray, List.set_cons_succ, List.set_cons_zero] at hK ⊢
          generalize vs 0 = v0 at hK d0 ⊢
          subst d0
          go_wp2
          exact hK _ _ ⟨_, rfl, Rd.lit _ [.slice (some ⟨g, 0, none⟩) j j] _ _ 1 rfl rfl (by omega)⟩ (Mod.alloc _ _ _)
        refine opsOk_cons ?_ ?_
        · intro K vs W hR hD hK
          have d1 : (NewRow 1 [.slice (some ⟨g, 0, none⟩) j j]) (vs 1) W := hD 1 (by decide)
          clear hD
          simp only [putAll, Nat.zero_add, Nat.reduceAdd, Act.put, List.setIfInBounds_toArray, List.set_cons_succ, List.set_cons_zero] at hK ⊢
          generalize vs 1 = v1 at hK d1 ⊢
          obtain ⟨p, rfl, hr1⟩ := d1
          go_wp2_with fail
          refine (sum_any _ 1 1 _ _ rfl (Parts.one hr1 (by rw [HCL.out]; exact HRC.out _ ((Mod.drew _ _).trans hR (fun _ _ e => e) (fun _ _ e => e))) hcb)).mono ?_
          rintro e' w' ⟨rfl, rfl⟩
          rw [show flat [(.slice (some ⟨g, 0, none⟩) j j, cs)] = cs by simp [flat]]
          go_wp2
          exact hK _ _ rfl (Mod.refl _ _)
        refine opsOk_cons ?_ ?_
        · intro K vs W hR hD hK
          clear hD
          simp only [putAll, Nat.zero_add, Nat.reduceAdd, Act.put, List.setIfInBounds_toArray, List.set_cons_succ, List.set_cons_zero] at hK ⊢
          go_wp2
          exact hK _ _ rfl (Mod.refl _ _)
        refine opsOk_cons ?_ ?_
        · intro K vs W hR hD hK
          clear hD
          simp only [putAll, Nat.zero_add, Nat.reduceAdd, Act.put, List.setIfInBounds_toArray, List.set_cons_succ, List.set_cons_zero] at hK ⊢
          go_wp2
          exact hK _ _ rfl (Mod.refl _ _)
        refine opsOk_cons ?_ ?_
        · intro K vs W hR hD hK
          have d3 : vs 3 = .slice a na ca := hD 3 (by decide)
          have d4 : vs 4 = .int .i64 j := hD 4 (by decide)
          clear hD
          simp only [putAll, Nat.zero_add, Nat.reduceAdd, Act.put, List.setIfInBounds_toArray, List.set_cons_succ, List.set_cons_zero] at hK ⊢
          generalize vs 3 = v3 at hK d3 ⊢
          subst d3
          generalize vs 4 = v4 at hK d4 ⊢
          subst d4
          have rT := run_takeS (P := Try.prog) W 22 5 i0 Try.underlying22 hi a na ca j (by omega)
          go_wp2
          exact hK _ _ rfl (Mod.refl _ _)
        refine opsOk_cons ?_ ?_
        · intro K vs W hR hD hK
          have d5 : vs 5 = .slice a j ca := hD 5 (by decide)
          clear hD
          simp only [putAll, Nat.zero_add, Nat.reduceAdd, Act.put, List.setIfInBounds_toArray, List.set_cons_succ, List.set_cons_zero] at hK ⊢
          generalize vs 5 = v5 at hK d5 ⊢
          subst d5
          go_wp2
          exact hK _ _ ⟨_, rfl, Rd.lit _ [.slice a j ca] _ _ 1 rfl rfl (by omega)⟩ (Mod.alloc _ _ _)
        refine opsOk_cons ?_ ?_
        · intro K vs W hR hD hK
          have d6 : (NewRow 1 [.slice a j ca]) (vs 6) W := hD 6 (by decide)
          clear hD
          simp only [putAll, Nat.zero_add, Nat.reduceAdd, Act.put, List.setIfInBounds_toArray, List.set_cons_succ, List.set_cons_zero] at hK ⊢
          generalize vs 6 = v6 at hK d6 ⊢
          obtain ⟨p, rfl, hr1⟩ := d6
          go_wp2_with fail
          refine (sum_any _ 1 1 _ _ rfl (Parts.one hr1 (by rw [HAL.out]; exact HRA.out _ ((Mod.drew _ _).trans hR (fun _ _ e => e) (fun _ _ e => e))) hab)).mono ?_
          rintro e' w' ⟨rfl, rfl⟩
          rw [show flat [(.slice a j ca, As)] = As by simp [flat]]
          go_wp2
          exact hK _ _ rfl (Mod.refl _ _)
        refine opsOk_cons ?_ ?_
        · intro K vs W hR hD hK
          clear hD
          simp only [putAll, Nat.zero_add, Nat.reduceAdd, Act.put, List.setIfInBounds_toArray, List.set_cons_succ, List.set_cons_zero] at hK ⊢
          go_wp2
          exact hK _ _ rfl (Mod.refl _ _)
        refine opsOk_cons ?_ ?_
        · intro K vs W hR hD hK
          clear hD
          simp only [putAll, Nat.zero_add, Nat.reduceAdd, Act.put, List.setIfInBounds_toArray, List.set_cons_succ, List.set_cons_zero] at hK ⊢
          go_wp2
          exact hK _ _ rfl (Mod.refl _ _)
        refine opsOk_cons ?_ ?_
        · intro K vs W hR hD hK
          have d8 : vs 8 = .slice b nb cb := hD 8 (by decide)
          have d9 : vs 9 = .int .i64 j := hD 9 (by decide)
          clear hD
          simp only [putAll, Nat.zero_add, Nat.reduceAdd, Act.put, List.setIfInBounds_toArray, List.set_cons_succ, List.set_cons_zero] at hK ⊢
          generalize vs 8 = v8 at hK d8 ⊢
          subst d8
          generalize vs 9 = v9 at hK d9 ⊢
          subst d9
          have rT := run_takeS (P := Try.prog) W 22 5 i0 Try.underlying22 hi b nb cb j (by omega)
          go_wp2
          exact hK _ _ rfl (Mod.refl _ _)
        refine opsOk_cons ?_ ?_
        · intro K vs W hR hD hK
          have d10 : vs 10 = .slice b j cb := hD 10 (by decide)
          clear hD
          simp only [putAll, Nat.zero_add, Nat.reduceAdd, Act.put, List.setIfInBounds_toArray, List.set_cons_succ, List.set_cons_zero] at hK ⊢
          generalize vs 10 = v10 at hK d10 ⊢
          subst d10
          go_wp2
          exact hK _ _ ⟨_, rfl, Rd.lit _ [.slice b j cb] _ _ 1 rfl rfl (by omega)⟩ (Mod.alloc _ _ _)
        refine opsOk_cons ?_ ?_
        · intro K vs W hR hD hK
          have d11 : (NewRow 1 [.slice b j cb]) (vs 11) W := hD 11 (by decide)
          clear hD
          simp only [putAll, Nat.zero_add, Nat.reduceAdd, Act.put, List.setIfInBounds_toArray, List.set_cons_succ, List.set_cons_zero] at hK ⊢
          generalize vs 11 = v11 at hK d11 ⊢
          obtain ⟨p, rfl, hr1⟩ := d11
          go_wp2_with fail
          refine (sum_any _ 1 1 _ _ rfl (Parts.one hr1 (by rw [HBL.out]; exact HRB.out _ ((Mod.drew _ _).trans hR (fun _ _ e => e) (fun _ _ e => e))) hbb)).mono ?_
          rintro e' w' ⟨rfl, rfl⟩
          rw [show flat [(.slice b j cb, Bs)] = Bs by simp [flat]]
          go_wp2
          exact hK _ _ rfl (Mod.refl _ _)
        refine opsOk_cons ?_ ?_
        · intro K vs W hR hD hK
          have d7 : vs 7 = .int .u32 ((csum As).toNat : Int) := hD 7 (by decide)
          have d12 : vs 12 = .int .u32 ((csum Bs).toNat : Int) := hD 12 (by decide)
          clear hD
          simp only [putAll, Nat.zero_add, Nat.reduceAdd, Act.put, List.setIfInBounds_toArray, List.set_cons_succ, List.set_cons_zero] at hK ⊢
          generalize vs 7 = v7 at hK d7 ⊢
          subst d7
          generalize vs 12 = v12 at hK d12 ⊢
          subst d12
          have hx := xor_u32 (csum As) (csum Bs)
          rw [HX.out] at hx
          go_wp2
          exact hK _ _ rfl (Mod.refl _ _)
        refine opsOk_cons ?_ ?_
        · intro K vs W hR hD hK
          clear hD
          simp only [putAll, Nat.zero_add, Nat.reduceAdd, Act.put, List.setIfInBounds_toArray, List.set_cons_succ, List.set_cons_zero] at hK ⊢
          go_wp2
          exact hK _ _ rfl (Mod.refl _ _)
        refine opsOk_cons ?_ ?_
        · intro K vs W hR hD hK
          have d14 : vs 14 = .int .i64 j := hD 14 (by decide)
          clear hD
          simp only [putAll, Nat.zero_add, Nat.reduceAdd, Act.put, List.setIfInBounds_toArray, List.set_cons_succ, List.set_cons_zero] at hK ⊢
          generalize vs 14 = v14 at hK d14 ⊢
          subst d14
          have hmk := run_makeS (P := Try.prog) 22 5 i0 (.int .u8 0) Try.underlying22 hi hz0 rfl hz1 j (by rw [hz2]; omega) (by omega)
          go_wp2
          exact hK _ _ ⟨_, rfl, by rw [List.map_replicate]; exact Rd.ofOwn (own_zrow W _ _ _ _ rfl (by omega))⟩ (Mod.alloc _ _ _)
        refine opsOk_cons ?_ ?_
        · intro K vs W hR hD hK
          have d15 : (fun v W => ∃ p, v = .slice (some ⟨p, 0, none⟩) j j ∧ Rd W 1 v j ((List.replicate j 0).map (Value.int .u8))) (vs 15) W := hD 15 (by decide)
          clear hD
          simp only [putAll, Nat.zero_add, Nat.reduceAdd, Act.put, List.setIfInBounds_toArray, List.set_cons_succ, List.set_cons_zero] at hK ⊢
          generalize vs 15 = v15 at hK d15 ⊢
          obtain ⟨q, rfl, hr1⟩ := d15
          go_wp2
          exact hK _ _ ⟨_, q, rfl, Rd.lit _ [.slice (some ⟨q, 0, none⟩) j j] _ _ 1 rfl rfl (by omega), hr1.alloc _⟩ (Mod.alloc _ _ _)
        refine opsOk_cons ?_ ?_
        · intro K vs W hR hD hK
          have d16 : (fun v W => ∃ p q, v = .slice (some ⟨p, 0, none⟩) 1 1 ∧ Rd W 1 v 1 [.slice (some ⟨q, 0, none⟩) j j] ∧ Rd W 1 (.slice (some ⟨q, 0, none⟩) j j) j ((List.replicate j 0).map (Value.int .u8))) (vs 16) W := hD 16 (by decide)
          clear hD
          simp only [putAll, Nat.zero_add, Nat.reduceAdd, Act.put, List.setIfInBounds_toArray, List.set_cons_succ, List.set_cons_zero] at hK ⊢
          generalize vs 16 = v16 at hK d16 ⊢
          obtain ⟨p, q, rfl, hr1, hr2⟩ := d16
          go_wp2_with fail
          refine (sum_any _ 1 1 _ _ rfl (Parts.one (bs := (List.replicate j 0)) hr1 (by rw [List.length_replicate]; exact hr2) hzb)).mono ?_
          rintro e' w' ⟨rfl, rfl⟩
          rw [show flat [(Value.slice (some ⟨q, 0, none⟩) j j, (List.replicate j 0))] = (List.replicate j 0) by simp [flat]]
          go_wp2
          exact hK _ _ rfl (Mod.refl _ _)
        refine opsOk_cons ?_ ?_
        · intro K vs W hR hD hK
          have d13 : vs 13 = .int .u32 (X.toNat : Int) := hD 13 (by decide)
          have d17 : vs 17 = .int .u32 ((csum (List.replicate j 0)).toNat : Int) := hD 17 (by decide)
          clear hD
          simp only [putAll, Nat.zero_add, Nat.reduceAdd, Act.put, List.setIfInBounds_toArray, List.set_cons_succ, List.set_cons_zero] at hK ⊢
          generalize vs 13 = v13 at hK d13 ⊢
          subst d13
          generalize vs 17 = v17 at hK d17 ⊢
          subst d17
          have hx := xor_u32 X (csum (List.replicate j 0))
          rw [HY.out] at hx
          go_wp2
          exact hK _ _ rfl (Mod.refl _ _)
        refine opsOk_cons ?_ ?_
        · intro K vs W hR hD hK
          have d2 : vs 2 = .int .u32 ((csum cs).toNat : Int) := hD 2 (by decide)
          have d18 : vs 18 = .int .u32 (Y.toNat : Int) := hD 18 (by decide)
          clear hD
          simp only [putAll, Nat.zero_add, Nat.reduceAdd, Act.put, List.setIfInBounds_toArray, List.set_cons_succ, List.set_cons_zero] at hK ⊢
          generalize vs 2 = v2 at hK d2 ⊢
          subst d2
          generalize vs 18 = v18 at hK d18 ⊢
          subst d18
          have e1 := HE1.out
          go_wp2
          exact hK _ _ rfl (Mod.refl _ _)
        refine opsOk_cons ?_ ?_
        · intro K vs W hR hD hK
          have d19 : vs 19 = .bool true := hD 19 (by decide)
          clear hD
          simp only [putAll, Nat.zero_add, Nat.reduceAdd, Act.put, List.setIfInBounds_toArray, List.set_cons_succ, List.set_cons_zero] at hK ⊢
          generalize vs 19 = v19 at hK d19 ⊢
          subst d19
          go_wp2
          exact hK _ _ rfl (Mod.refl _ _)
        refine opsOk_cons ?_ ?_
        · intro K vs W hR hD hK
          have d20 : vs 20 = .bool true := hD 20 (by decide)
          clear hD
          simp only [putAll, Nat.zero_add, Nat.reduceAdd, Act.put, List.setIfInBounds_toArray, List.set_cons_succ, List.set_cons_zero] at hK ⊢
          generalize vs 20 = v20 at hK d20 ⊢
          subst d20
          go_wp2_with fail
          refine (awake_any _).mono ?_
          rintro e' w' ⟨rfl, hM9⟩
          go_wp2
          exact hK _ _ rfl hM9
        refine opsOk_cons ?_ ?_
        · intro K vs W hR hD hK
          have d20 : vs 20 = .bool true := hD 20 (by decide)
          have d21 : vs 21 = .bool true := hD 21 (by decide)
          clear hD
          simp only [putAll, Nat.zero_add, Nat.reduceAdd, Act.put, List.setIfInBounds_toArray, List.set_cons_succ, List.set_cons_zero] at hK ⊢
          generalize vs 20 = v20 at hK d20 ⊢
          subst d20
          generalize vs 21 = v21 at hK d21 ⊢
          subst d21
          go_wp2
          exact hK _ _ rfl (Mod.refl _ _)
        refine opsOk_cons ?_ ?_
        · intro K vs W hR hD hK
          have d22 : vs 22 = .bool true := hD 22 (by decide)
          clear hD
          simp only [putAll, Nat.zero_add, Nat.reduceAdd, Act.put, List.setIfInBounds_toArray, List.set_cons_succ, List.set_cons_zero] at hK ⊢
          generalize vs 22 = v22 at hK d22 ⊢
          subst d22
          go_wp2
          exact hK _ _ rfl (Mod.refl _ _)
        exact opsOk_nil
      · intro vs W hR hF
        have d23 : vs 23 = .bool true := hF 23 (by decide)
        clear hF
        simp only [putAll, Nat.zero_add, Nat.reduceAdd, Act.put, List.setIfInBounds_toArray, List.set_cons_succ, List.set_cons_zero]
        go_wp2
        go_ret
        exact ⟨by simp [d23], hM.trans ((Mod.drew (fun _ => False) wr).trans hR (fun _ _ e => e) (fun _ _ e => e)) (fun _ _ e => e) (fun _ _ e => e)⟩

theorem mixes_all (w : World) (a : Option Addr) (n c : Nat) (xs : List Int) (ok : (encSlice (encInt .u8)).ok w (.slice a n c, xs)) (a1 : Option Addr) (n1 c1 : Nat) (ys : List Int) (ok1 : (encSlice (encInt .u8)).ok w (.slice a1 n1 c1, ys)) :
    Calls Try.prog 5 #[.slice a n c, .slice a1 n1 c1] w fun e w' => e = .returned (.bool true) ∧ Below w.heap.size w w' := by
  obtain ⟨hn, hr, hb⟩ := ok_ints ok
  obtain ⟨hn1, hr1, hb1⟩ := ok_ints ok1
  exact (mixes_walk w a n c xs hn hr (u8_range hb) a1 n1 c1 ys hn1 hr1 (u8_range hb1)).mono fun e w' h => ⟨h.1, h.2.below (Nat.le_refl _) (fun _ e => e.elim)⟩

end Go.Proofs.Ytfcjooelndegcaa
