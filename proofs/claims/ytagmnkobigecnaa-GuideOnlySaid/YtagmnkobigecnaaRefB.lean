/- milepostref4's far, Class and Mirror by contract. -/
import Derived.Test.YtagmnkobigecnaaKBend
import Derived.Test.YtagmnkobigecnaaGr1
import Derived.Deep.DeepCutAuto
import Derived.Deep.CutBlock
namespace Go.Proofs.Ytagmnkobigecnaa
open Go.RowKit Mile
set_option maxRecDepth 100000
/-- The classes in the order in which the reference asks. -/
theorem clsD_R (c d f : Int) (hf : (c < 0 ∧ f = -c) ∨ (0 ≤ c ∧ f = c)) (hz : ¬ (c = 0 ∧ d = 0)) : clsD c d = if 0 < d ∧ 4 * f ≤ d then 1 else if d < 0 ∧ 4 * f ≤ -d then 5 else if 0 < c ∧ 0 < d ∧ c ≤ d then 2 else if 0 < c ∧ d < 0 ∧ c ≤ -d then 4 else if 0 < c then 3 else if 0 < d ∧ -c ≤ d then 6 else if d < 0 ∧ -c ≤ -d then 8 else 7 := by
  have key : ∀ x y : Int, 0 ≤ x → lwC x y = if 0 < y ∧ 4 * x ≤ y then 1 else if y < 0 ∧ 4 * x ≤ -y then 5 else if 0 < y ∧ x ≤ y then 2 else if y < 0 ∧ x ≤ -y then 4 else 3 := fun x y _ => rfl
  unfold clsD
  rcases hf with ⟨h1, rfl⟩ | ⟨h1, rfl⟩
  · rw [if_pos h1, key _ _ (by omega)]
    by_cases a1 : 0 < d ∧ 4 * -c ≤ d
    · rw [if_pos a1, if_pos a1]; rfl
    · rw [if_neg a1, if_neg a1]
      by_cases a2 : d < 0 ∧ 4 * -c ≤ -d
      · rw [if_pos a2, if_pos a2]; rfl
      · rw [if_neg a2, if_neg a2, if_neg (show ¬ (0 < c ∧ 0 < d ∧ c ≤ d) by omega), if_neg (show ¬ (0 < c ∧ d < 0 ∧ c ≤ -d) by omega), if_neg (show ¬ 0 < c by omega)]
        by_cases a3 : 0 < d ∧ -c ≤ d
        · rw [if_pos a3, if_pos a3]; rfl
        · rw [if_neg a3, if_neg a3]
          by_cases a4 : d < 0 ∧ -c ≤ -d
          · rw [if_pos a4, if_pos a4]; rfl
          · rw [if_neg a4, if_neg a4]; rfl
  · rw [if_neg (by omega), key _ _ h1]
    by_cases a1 : 0 < d ∧ 4 * f ≤ d
    · rw [if_pos a1, if_pos a1]
    · rw [if_neg a1, if_neg a1]
      by_cases a2 : d < 0 ∧ 4 * f ≤ -d
      · rw [if_pos a2, if_pos a2]
      · rw [if_neg a2, if_neg a2]
        have a0 : 0 < f := by omega
        by_cases a3 : 0 < d ∧ f ≤ d
        · rw [if_pos a3, if_pos ⟨a0, a3⟩]
        · rw [if_neg a3, if_neg (show ¬ (0 < f ∧ 0 < d ∧ f ≤ d) by omega)]
          by_cases a4 : d < 0 ∧ f ≤ -d
          · rw [if_pos a4, if_pos ⟨a0, a4⟩]
          · rw [if_neg a4, if_neg (show ¬ (0 < f ∧ d < 0 ∧ f ≤ -d) by omega), if_pos a0]
theorem rb_within {n : Int} {r : Bool} (h : decide (-4095 ≤ n ∧ n ≤ 4095) = r) (w : World) : Calls Try.prog 55 #[.int .i64 n, .int .i64 (-4095), .int .i64 4095] w fun e w' => e = .returned (.bool r) ∧ w' = w := by
  subst h
  by_cases h1 : -4095 ≤ n <;> by_cases h2 : n ≤ 4095 <;>
  · go_enter Try.func55, Try.ntmps55
    go_wp2
    go_ret
    exact ⟨by simp [h1, h2], rfl⟩
theorem rb_far (n : Int) (hn : -100000000 ≤ n ∧ n ≤ 100000000) (w : World) : Calls Try.prog 56 #[.int .i64 n] w fun e w' => e = .returned (.int .i64 (if n < 0 then -n else n)) ∧ w' = w := by
  by_cases h : n < 0
  · rw [if_pos h]
    go_enter Try.func56, Try.ntmps56
    go_wp2
    go_ret
    exact ⟨rfl, rfl⟩
  · rw [if_neg h]
    go_enter Try.func56, Try.ntmps56
    go_wp2
    go_ret
    exact ⟨rfl, rfl⟩
theorem rb_far_q {n f : Int} (hn : -100000000 ≤ n ∧ n ≤ 100000000) (hf : (if n < 0 then -n else n) = f) (w : World) : Calls Try.prog 56 #[.int .i64 n] w fun e w' => e = .returned (.int .i64 f) ∧ w' = w := by
  rw [← hf]; exact rb_far n hn w
theorem rb_mirror (c : Int) (hc : (Lit.int .i64 c).wf = true) (w : World) : Calls Try.prog 25 #[.int .i64 c] w fun e w' => e = .returned (.int .i64 (mirC c)) ∧ w' = w := by
  have HR : Hid (mirC c = if c = 2 ∨ c = 3 ∨ c = 4 then c + 4 else if c = 6 ∨ c = 7 ∨ c = 8 then c - 4 else c) := Lib.hid rfl
  by_cases h : c = 2 ∨ c = 3 ∨ c = 4 ∨ c = 6 ∨ c = 7 ∨ c = 8
  · rcases h with rfl | rfl | rfl | rfl | rfl | rfl <;>
    · go_enter Try.func25, Try.ntmps25
      go_wp2
      go_ret
      exact ⟨by rw [HR.out]; rfl, rfl⟩
  · have b2 : (c == 2) = false := by rw [beq_eq_false_iff_ne]; omega
    have b3 : (c == 3) = false := by rw [beq_eq_false_iff_ne]; omega
    have b4 : (c == 4) = false := by rw [beq_eq_false_iff_ne]; omega
    have b6 : (c == 6) = false := by rw [beq_eq_false_iff_ne]; omega
    have b7 : (c == 7) = false := by rw [beq_eq_false_iff_ne]; omega
    have b8 : (c == 8) = false := by rw [beq_eq_false_iff_ne]; omega
    have HH := Lib.hid h
    clear h
    go_enter Try.func25, Try.ntmps25
    go_wp2
    go_ret
    exact ⟨by have := HH.out; rw [HR.out, if_neg (by omega), if_neg (by omega)]; rfl, rfl⟩
theorem rb_mul {a b : Int} (h1 : -4095 ≤ a ∧ a ≤ 4095) (h2 : -4095 ≤ b ∧ b ≤ 4095) : -16769025 ≤ a * b ∧ a * b ≤ 16769025 := by
  have e1 : 0 ≤ (4095 - a) * (4095 + b) := Int.mul_nonneg (by omega) (by omega)
  have e2 : 0 ≤ (4095 + a) * (4095 - b) := Int.mul_nonneg (by omega) (by omega)
  have e3 : 0 ≤ (4095 - a) * (4095 - b) := Int.mul_nonneg (by omega) (by omega)
  have e4 : 0 ≤ (4095 + a) * (4095 + b) := Int.mul_nonneg (by omega) (by omega)
  rw [Int.sub_mul, Int.mul_add, Int.mul_add] at e1
  rw [Int.add_mul, Int.mul_sub, Int.mul_sub] at e2
  rw [Int.sub_mul, Int.mul_sub, Int.mul_sub] at e3
  rw [Int.add_mul, Int.mul_add, Int.mul_add] at e4
  constructor <;> omega
theorem run_indexA4 {P : Program} (wx : World) (t e : TypeId) (i : TypeInfo) (ht : P.underlying t = some (.array 4 e)) (hi : P.info? e = some i) (hs : i.size = 1) (nb j : Nat) (hj : j < 4) :
    (Instr.indexAt t (.pointer (some ⟨nb, 0, none⟩)) (.int .i64 (j : Int))).run P wx = .ok (.pointer (some ⟨nb, j, none⟩)) wx := by
  rcases (show j = 0 ∨ j = 1 ∨ j = 2 ∨ j = 3 by omega) with rfl | rfl | rfl | rfl <;> simp [Instr.indexAt, run_underlying ht, asIntOf, Go.sizeOf, typeInfo, hi, hs, Instr.sureAddr, Addr.add]

set_option maxHeartbeats 64000000 in
set_option maxRecDepth 100000 in
theorem rclass_any (ax ay bx dy : Int) (w : World) : Calls Try.prog 21 #[.int .i64 ax, .int .i64 ay, .int .i64 bx, .int .i64 dy] w fun e w' => e = .returned (.int .i64 (clsC ax ay bx dy)) ∧ Mod (fun _ => False) w w' := by
  obtain ⟨iI, hiI, hzI, hsI, hbI⟩ := info_parts GR.infoI
  obtain ⟨res, hres⟩ : ∃ r, clsC ax ay bx dy = r := ⟨_, rfl⟩
  rw [hres]
  have HRES := Lib.hid hres
  clear hres
  obtain ⟨p, hp⟩ : ∃ p, w.heap.size = p := ⟨_, rfl⟩
  obtain ⟨W0, hW0⟩ : ∃ W, w.alloc (.cells #[.int .i64 ax, .int .i64 ay, .int .i64 bx, .int .i64 dy] 92) = W := ⟨_, rfl⟩
  have hB0 : Blk W0 p 92 [.int .i64 ax, .int .i64 ay, .int .i64 bx, .int .i64 dy] := by rw [← hW0, ← hp]; exact Blk.new w 92 [.int .i64 ax, .int .i64 ay, .int .i64 bx, .int .i64 dy]
  have HM0 : Hid (Mod (fun _ => False) w W0) := Lib.hid (by rw [← hW0]; exact Mod.alloc _ _ _)
  go_enter Try.func21, Try.ntmps21
  go_wp2_with fail
  clear hp hW0
  have HB := Lib.hid hB0
  clear hB0
  go_loopw [10] (fun i wr => ∃ j : Nat, j ≤ 4 ∧ i = .int .i64 j ∧ wr = W0 ∧ ∀ k, k < j → ∀ x, ([ax, ay, bx, dy] : List Int)[k]? = some x → -4095 ≤ x ∧ x ≤ 4095) (fun i _ => 4 - (intOf i).toNat)
  case atStart => exact ⟨0, by omega, rfl, rfl, fun k h => by omega⟩
  case round =>
    obtain ⟨j, hj, rfl, hwr, hall⟩ := hrel
    subst hwr
    have HA := Lib.hid hall
    clear hall
    by_cases hlt : j < 4
    · obtain ⟨x, hx⟩ : ∃ x, ([ax, ay, bx, dy] : List Int)[j]? = some x := ⟨_, List.getElem?_eq_getElem (by simpa using hlt)⟩
      have kx : wr.cell? ⟨p, j, none⟩ = some (.int .i64 x) := HB.out.cell j (by
        have := congrArg (Option.map (Value.int .i64)) hx
        simpa [← List.getElem?_map] using this)
      have hix := fun wx => run_indexA4 (P := Try.prog) wx 92 3 iI Try.underlying92 hiI hsI p j hlt
      have HX := Lib.hid hx
      clear hx
      by_cases hin : -4095 ≤ x ∧ x ≤ 4095
      · have d1 : decide (-4095 ≤ x ∧ x ≤ 4095) = true := decide_eq_true hin
        have HIN := Lib.hid hin
        clear hin
        go_wp2_with (go_at_call 55; refine (rb_within d1 _).mono ?_; rintro e w' ⟨rfl, rfl⟩)
        go_roundw
        case rel =>
          refine ⟨j + 1, hlt, by go_num, by first | rfl | trivial, fun k hk y hy => ?_⟩
          by_cases e : k = j
          · subst e; rw [HX.out] at hy; cases hy; exact HIN.out
          · exact HA.out k (by omega) y hy
        case measure => simp [intOf]; omega
      · have d1 : decide (-4095 ≤ x ∧ x ≤ 4095) = false := decide_eq_false hin
        have HIN := Lib.hid hin
        clear hin
        go_wp2_with (go_at_call 55; refine (rb_within d1 _).mono ?_; rintro e w' ⟨rfl, rfl⟩)
        go_ret
        refine ⟨?_, HM0.out⟩
        have h1 := HIN.out
        have h2 := HX.out
        have h3 : res = 0 := by
          rw [← HRES.out]
          unfold clsC
          rw [if_neg]
          rw [wayC_iff, wayC_iff]
          rcases (show j = 0 ∨ j = 1 ∨ j = 2 ∨ j = 3 by omega) with rfl | rfl | rfl | rfl <;> simp at h2 <;> subst h2 <;> omega
        rw [h3]; rfl
    · obtain rfl : j = 4 := by omega
      have b1 := HA.out 0 (by omega) ax rfl
      have b2 := HA.out 1 (by omega) ay rfl
      have b3 := HA.out 2 (by omega) bx rfl
      have b4 := HA.out 3 (by omega) dy rfl
      have hcl : res = if (ax = 0 ∧ ay = 0) ∨ (bx = 0 ∧ dy = 0) then 0 else clsD (ax * dy - ay * bx) (ax * bx + ay * dy) := by
        rw [← HRES.out]
        have ha := wayC_iff ax ay
        have hb := wayC_iff bx dy
        unfold clsC
        by_cases hz : (ax = 0 ∧ ay = 0) ∨ (bx = 0 ∧ dy = 0)
        · rw [if_pos hz, if_neg (fun h => by have h1 := ha.1 h.1; have h2 := hb.1 h.2; omega)]
        · rw [if_neg hz, if_pos ⟨ha.2 (by omega), hb.2 (by omega)⟩]
      have m1 := rb_mul b1 b4
      have m2 := rb_mul b2 b3
      have m3 := rb_mul b1 b3
      have m4 := rb_mul b2 b4
      have hcd : (ax ≠ 0 ∨ ay ≠ 0) → (bx ≠ 0 ∨ dy ≠ 0) → ¬ (ax * dy - ay * bx = 0 ∧ ax * bx + ay * dy = 0) := cross_dot
      obtain ⟨P1, hP1⟩ : ∃ x, ax * dy = x := ⟨_, rfl⟩
      obtain ⟨P2, hP2⟩ : ∃ x, ay * bx = x := ⟨_, rfl⟩
      obtain ⟨P3, hP3⟩ : ∃ x, ax * bx = x := ⟨_, rfl⟩
      obtain ⟨P4, hP4⟩ : ∃ x, ay * dy = x := ⟨_, rfl⟩
      rw [hP1, hP2, hP3, hP4] at hcl hcd
      rw [hP1] at m1
      rw [hP2] at m2
      rw [hP3] at m3
      rw [hP4] at m4
      obtain ⟨c, hc⟩ : ∃ x, P1 - P2 = x := ⟨_, rfl⟩
      obtain ⟨d, hd⟩ : ∃ x, P3 + P4 = x := ⟨_, rfl⟩
      rw [hc, hd] at hcl hcd
      have bc1 : -100000000 ≤ c := by omega
      have bc2 : c ≤ 100000000 := by omega
      have bd1 : -100000000 ≤ d := by omega
      have bd2 : d ≤ 100000000 := by omega
      obtain ⟨f, hf⟩ : ∃ f, (if c < 0 then -c else c) = f := ⟨_, rfl⟩
      have HF := Lib.hid hf
      have hf2 : (c < 0 ∧ f = -c) ∨ (0 ≤ c ∧ f = c) := by rw [← hf]; split <;> omega
      have bf1 : 0 ≤ f := by omega
      have bf2 : f ≤ 100000000 := by omega
      have HF2 := Lib.hid hf2
      clear hf hf2
      have HCL := Lib.hid hcl
      have HCD := Lib.hid hcd
      clear hcl hcd HA HB HRES hlt hj
      by_cases hz : (ax = 0 ∧ ay = 0) ∨ (bx = 0 ∧ dy = 0)
      · have h0 : res = 0 := by rw [HCL.out, if_pos hz]
        subst h0
        by_cases hax : ax = 0
        · have z1 : (ax == 0) = true := by rw [hax]; rfl
          by_cases hay : ay = 0
          · have z2 : (ay == 0) = true := by rw [hay]; rfl
            clear hax hay hz
            clear HCL HCD HF HF2
            go_wp2_with fail
            go_ret
            exact ⟨rfl, HM0.out⟩
          · have z2 : (ay == 0) = false := by rw [beq_eq_false_iff_ne]; exact hay
            obtain ⟨hbx, hdy⟩ := hz.resolve_left (fun h => hay h.2)
            have z3 : (bx == 0) = true := by rw [hbx]; rfl
            have z4 : (dy == 0) = true := by rw [hdy]; rfl
            clear hax hay hbx hdy hz
            clear HCL HCD HF HF2
            go_wp2_with fail
            go_ret
            exact ⟨rfl, HM0.out⟩
        · have z1 : (ax == 0) = false := by rw [beq_eq_false_iff_ne]; exact hax
          obtain ⟨hbx, hdy⟩ := hz.resolve_left (fun h => hax h.1)
          have z3 : (bx == 0) = true := by rw [hbx]; rfl
          have z4 : (dy == 0) = true := by rw [hdy]; rfl
          clear hax hbx hdy hz
          clear HCL HCD HF HF2
          go_wp2_with fail
          go_ret
          exact ⟨rfl, HM0.out⟩
      · have hn0 : ¬ (c = 0 ∧ d = 0) := HCD.out (by omega) (by omega)
        have HZ : Hid (res = if 0 < d ∧ 4 * f ≤ d then 1 else if d < 0 ∧ 4 * f ≤ -d then 5 else if 0 < c ∧ 0 < d ∧ c ≤ d then 2 else if 0 < c ∧ d < 0 ∧ c ≤ -d then 4 else if 0 < c then 3 else if 0 < d ∧ -c ≤ d then 6 else if d < 0 ∧ -c ≤ -d then 8 else 7) := Lib.hid (by rw [HCL.out, if_neg hz]; exact clsD_R c d f HF2.out hn0)
        have HN0 := Lib.hid hn0
        clear HCL HCD hn0
        go_upto_region 7 with fail
        go_cut [40] (fun cv wx => cv = .bool false ∧ wr = wx)
        case first =>
          by_cases hax : ax = 0
          · have z1 : (ax == 0) = true := by rw [hax]; rfl
            have hay : ay ≠ 0 := fun h => hz (.inl ⟨hax, h⟩)
            have z2 : (ay == 0) = false := by rw [beq_eq_false_iff_ne]; exact hay
            clear hax hay
            by_cases hbx : bx = 0
            · have z3 : (bx == 0) = true := by rw [hbx]; rfl
              have hdy : dy ≠ 0 := fun h => hz (.inr ⟨hbx, h⟩)
              have z4 : (dy == 0) = false := by rw [beq_eq_false_iff_ne]; exact hdy
              clear hbx hdy hz
              go_wp2_with fail
              go_meet
              exact ⟨rfl, rfl⟩
            · have z3 : (bx == 0) = false := by rw [beq_eq_false_iff_ne]; exact hbx
              clear hbx hz
              go_wp2_with fail
              go_meet
              exact ⟨rfl, rfl⟩
          · have z1 : (ax == 0) = false := by rw [beq_eq_false_iff_ne]; exact hax
            clear hax
            by_cases hbx : bx = 0
            · have z3 : (bx == 0) = true := by rw [hbx]; rfl
              have hdy : dy ≠ 0 := fun h => hz (.inr ⟨hbx, h⟩)
              have z4 : (dy == 0) = false := by rw [beq_eq_false_iff_ne]; exact hdy
              clear hbx hdy hz
              go_wp2_with fail
              go_meet
              exact ⟨rfl, rfl⟩
            · have z3 : (bx == 0) = false := by rw [beq_eq_false_iff_ne]; exact hbx
              clear hbx hz
              go_wp2_with fail
              go_meet
              exact ⟨rfl, rfl⟩
        case rest =>
          obtain ⟨hcv, hwx2⟩ := hcut
          subst hwx2
          subst hcv
          clear hz
          by_cases g0 : 0 < d
          · skip
            by_cases g1 : 4 * f ≤ d
            · skip
              have t1 : decide (4 * f ≤ d) = true := by simp; omega
              have t2 : decide (0 < d) = true := by simp; omega
              have hv : res = 1 := by rw [HZ.out, if_pos (by omega)]
              clear HZ HN0 HF2 g0 g1
              subst hv
              go_wp2_with (go_at_call 56; refine (rb_far_q ⟨bc1, bc2⟩ HF.out _).mono ?_; rintro e w' ⟨rfl, rfl⟩)
              go_ret
              exact ⟨rfl, HM0.out⟩
            · skip
              by_cases g2 : 0 < c
              · skip
                by_cases g3 : c ≤ d
                · skip
                  have t3 : decide (0 < d) = true := by simp; omega
                  have t4 : decide (d < 0) = false := by simp; omega
                  have t5 : decide (4 * f ≤ d) = false := by simp; omega
                  have t6 : decide (0 < c) = true := by simp; omega
                  have t7 : decide (c ≤ d) = true := by simp; omega
                  have hv : res = 2 := by rw [HZ.out, if_neg (by omega), if_neg (by omega), if_pos (by omega)]
                  clear HZ HN0 HF2 g0 g1 g2 g3
                  subst hv
                  go_wp2_with (go_at_call 56; refine (rb_far_q ⟨bc1, bc2⟩ HF.out _).mono ?_; rintro e w' ⟨rfl, rfl⟩)
                  go_ret
                  exact ⟨rfl, HM0.out⟩
                · skip
                  have t8 : decide (0 < d) = true := by simp; omega
                  have t9 : decide (d < 0) = false := by simp; omega
                  have t10 : decide (4 * f ≤ d) = false := by simp; omega
                  have t11 : decide (0 < c) = true := by simp; omega
                  have t12 : decide (c ≤ d) = false := by simp; omega
                  have hv : res = 3 := by rw [HZ.out, if_neg (by omega), if_neg (by omega), if_neg (by omega), if_neg (by omega), if_pos (by omega)]
                  clear HZ HN0 HF2 g0 g1 g2 g3
                  subst hv
                  go_wp2_with (go_at_call 56; refine (rb_far_q ⟨bc1, bc2⟩ HF.out _).mono ?_; rintro e w' ⟨rfl, rfl⟩)
                  go_ret
                  exact ⟨rfl, HM0.out⟩
              · skip
                by_cases g3 : -c ≤ d
                · skip
                  have t13 : decide (0 < d) = true := by simp; omega
                  have t14 : decide (d < 0) = false := by simp; omega
                  have t15 : decide (4 * f ≤ d) = false := by simp; omega
                  have t16 : decide (0 < c) = false := by simp; omega
                  have t17 : decide (-c ≤ d) = true := by simp; omega
                  have hv : res = 6 := by rw [HZ.out, if_neg (by omega), if_neg (by omega), if_neg (by omega), if_neg (by omega), if_neg (by omega), if_pos (by omega)]
                  clear HZ HN0 HF2 g0 g1 g2 g3
                  subst hv
                  go_wp2_with (go_at_call 56; refine (rb_far_q ⟨bc1, bc2⟩ HF.out _).mono ?_; rintro e w' ⟨rfl, rfl⟩)
                  go_ret
                  exact ⟨rfl, HM0.out⟩
                · skip
                  have t18 : decide (0 < d) = true := by simp; omega
                  have t19 : decide (d < 0) = false := by simp; omega
                  have t20 : decide (4 * f ≤ d) = false := by simp; omega
                  have t21 : decide (0 < c) = false := by simp; omega
                  have t22 : decide (-c ≤ d) = false := by simp; omega
                  have hv : res = 7 := by rw [HZ.out, if_neg (by omega), if_neg (by omega), if_neg (by omega), if_neg (by omega), if_neg (by omega), if_neg (by omega), if_neg (by omega)]
                  clear HZ HN0 HF2 g0 g1 g2 g3
                  subst hv
                  go_wp2_with (go_at_call 56; refine (rb_far_q ⟨bc1, bc2⟩ HF.out _).mono ?_; rintro e w' ⟨rfl, rfl⟩)
                  go_ret
                  exact ⟨rfl, HM0.out⟩
          · skip
            by_cases g9 : d < 0
            · skip
              by_cases g1 : 4 * f ≤ -d
              · skip
                have t23 : decide (4 * f ≤ -d) = true := by simp; omega
                have t24 : decide (0 < d) = false := by simp; omega
                have t25 : decide (d < 0) = true := by simp; omega
                have hv : res = 5 := by rw [HZ.out, if_neg (by omega), if_pos (by omega)]
                clear HZ HN0 HF2 g0 g9 g1
                subst hv
                go_wp2_with (go_at_call 56; refine (rb_far_q ⟨bc1, bc2⟩ HF.out _).mono ?_; rintro e w' ⟨rfl, rfl⟩)
                go_ret
                exact ⟨rfl, HM0.out⟩
              · skip
                by_cases g2 : 0 < c
                · skip
                  by_cases g3 : c ≤ -d
                  · skip
                    have t26 : decide (0 < d) = false := by simp; omega
                    have t27 : decide (d < 0) = true := by simp; omega
                    have t28 : decide (4 * f ≤ -d) = false := by simp; omega
                    have t29 : decide (0 < c) = true := by simp; omega
                    have t30 : decide (c ≤ -d) = true := by simp; omega
                    have hv : res = 4 := by rw [HZ.out, if_neg (by omega), if_neg (by omega), if_neg (by omega), if_pos (by omega)]
                    clear HZ HN0 HF2 g0 g9 g1 g2 g3
                    subst hv
                    go_wp2_with (go_at_call 56; refine (rb_far_q ⟨bc1, bc2⟩ HF.out _).mono ?_; rintro e w' ⟨rfl, rfl⟩)
                    go_ret
                    exact ⟨rfl, HM0.out⟩
                  · skip
                    have t31 : decide (0 < d) = false := by simp; omega
                    have t32 : decide (d < 0) = true := by simp; omega
                    have t33 : decide (4 * f ≤ -d) = false := by simp; omega
                    have t34 : decide (0 < c) = true := by simp; omega
                    have t35 : decide (c ≤ -d) = false := by simp; omega
                    have hv : res = 3 := by rw [HZ.out, if_neg (by omega), if_neg (by omega), if_neg (by omega), if_neg (by omega), if_pos (by omega)]
                    clear HZ HN0 HF2 g0 g9 g1 g2 g3
                    subst hv
                    go_wp2_with (go_at_call 56; refine (rb_far_q ⟨bc1, bc2⟩ HF.out _).mono ?_; rintro e w' ⟨rfl, rfl⟩)
                    go_ret
                    exact ⟨rfl, HM0.out⟩
                · skip
                  by_cases g3 : -c ≤ -d
                  · skip
                    have t36 : decide (0 < d) = false := by simp; omega
                    have t37 : decide (d < 0) = true := by simp; omega
                    have t38 : decide (4 * f ≤ -d) = false := by simp; omega
                    have t39 : decide (0 < c) = false := by simp; omega
                    have t40 : decide (d ≤ c) = true := by simp; omega
                    have hv : res = 8 := by rw [HZ.out, if_neg (by omega), if_neg (by omega), if_neg (by omega), if_neg (by omega), if_neg (by omega), if_neg (by omega), if_pos (by omega)]
                    clear HZ HN0 HF2 g0 g9 g1 g2 g3
                    subst hv
                    go_wp2_with (go_at_call 56; refine (rb_far_q ⟨bc1, bc2⟩ HF.out _).mono ?_; rintro e w' ⟨rfl, rfl⟩)
                    go_ret
                    exact ⟨rfl, HM0.out⟩
                  · skip
                    have t41 : decide (0 < d) = false := by simp; omega
                    have t42 : decide (d < 0) = true := by simp; omega
                    have t43 : decide (4 * f ≤ -d) = false := by simp; omega
                    have t44 : decide (0 < c) = false := by simp; omega
                    have t45 : decide (d ≤ c) = false := by simp; omega
                    have hv : res = 7 := by rw [HZ.out, if_neg (by omega), if_neg (by omega), if_neg (by omega), if_neg (by omega), if_neg (by omega), if_neg (by omega), if_neg (by omega)]
                    clear HZ HN0 HF2 g0 g9 g1 g2 g3
                    subst hv
                    go_wp2_with (go_at_call 56; refine (rb_far_q ⟨bc1, bc2⟩ HF.out _).mono ?_; rintro e w' ⟨rfl, rfl⟩)
                    go_ret
                    exact ⟨rfl, HM0.out⟩
            · skip
              by_cases g2 : 0 < c
              · skip
                have t46 : decide (0 < d) = false := by simp; omega
                have t47 : decide (d < 0) = false := by simp; omega
                have t48 : decide (0 < c) = true := by simp; omega
                have hv : res = 3 := by rw [HZ.out, if_neg (by omega), if_neg (by omega), if_neg (by omega), if_neg (by omega), if_pos (by omega)]
                clear HZ HN0 HF2 g0 g9 g2
                subst hv
                go_wp2_with (go_at_call 56; refine (rb_far_q ⟨bc1, bc2⟩ HF.out _).mono ?_; rintro e w' ⟨rfl, rfl⟩)
                go_ret
                exact ⟨rfl, HM0.out⟩
              · skip
                have t49 : decide (0 < d) = false := by simp; omega
                have t50 : decide (d < 0) = false := by simp; omega
                have t51 : decide (0 < c) = false := by simp; omega
                have hv : res = 7 := by rw [HZ.out, if_neg (by omega), if_neg (by omega), if_neg (by omega), if_neg (by omega), if_neg (by omega), if_neg (by omega), if_neg (by omega)]
                clear HZ HN0 HF2 g0 g9 g2
                subst hv
                go_wp2_with (go_at_call 56; refine (rb_far_q ⟨bc1, bc2⟩ HF.out _).mono ?_; rintro e w' ⟨rfl, rfl⟩)
                go_ret
                exact ⟨rfl, HM0.out⟩
end Go.Proofs.Ytagmnkobigecnaa
