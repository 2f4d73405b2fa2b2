/- milepostref4's far, Class and Mirror by contract. -/
import Derived.Test.YtagmnkobigecnaaKBend
import Derived.Test.YtagmnkobigecnaaGr1
import Derived.Deep.DeepCutAuto
import Derived.Deep.CutBlock
import Derived.Test.YtagmnkobigecnaaKGuide
import Derived.Test.YtagmnkobigecnaaR4
import Derived.Test.YtagmnkobigecnaaEvG
import Derived.Test.YtagmnkobigecnaaShp
import Derived.Test.YtagmnkobigecnaaRegion2
import Derived.Test.YtagmnkobigecnaaRegion7
namespace Go.Proofs.Ytagmnkobigecnaa
open Go.RowKit Mile
set_option maxRecDepth 100000
/-- The classes in the order in which the reference asks. -/
theorem clsD_R (c d f : Int) (hf : (c < 0 ∧ f = -c) ∨ (0 ≤ c ∧ f = c)) (hz : ¬ (c = 0 ∧ d = 0)) : clsD c d = if 0 < d ∧ 4 * f ≤ d then 1 else if d < 0 ∧ 4 * f ≤ -d then 5 else if 0 < c ∧ 0 < d ∧ c ≤ d then 2 else if 0 < c ∧ d < 0 ∧ c ≤ -d then 4 else if 0 < c then 3 else if 0 < d ∧ -c ≤ d then 6 else if d < 0 ∧ -c ≤ -d then 8 else 7 := by
  have key : ∀ x y : Int, 0 ≤ x → lwC x y = if 0 < y ∧ 4 * x ≤ y then 1 else if y < 0 ∧ 4 * x ≤ -y then 5 else if 0 < y ∧ x ≤ y then 2 else if y < 0 ∧ x ≤ -y then 4 else 3 := fun x y _ => rfl
  unfold clsD
  rcases hf with ⟨h1, rfl⟩ | ⟨h1, rfl⟩
  · rw [if_pos h1, key _ _ (by omega)]
    by_cases a1 : 0 < d ∧ 4 * -c ≤ d
    · rw [if_pos a1, if_pos a1]; rfl
    · rw [if_neg a1, if_neg a1]
      by_cases a2 : d < 0 ∧ 4 * -c ≤ -d
      · rw [if_pos a2, if_pos a2]; rfl
      · rw [if_neg a2, if_neg a2, if_neg (show ¬ (0 < c ∧ 0 < d ∧ c ≤ d) by omega), if_neg (show ¬ (0 < c ∧ d < 0 ∧ c ≤ -d) by omega), if_neg (show ¬ 0 < c by omega)]
        by_cases a3 : 0 < d ∧ -c ≤ d
        · rw [if_pos a3, if_pos a3]; rfl
        · rw [if_neg a3, if_neg a3]
          by_cases a4 : d < 0 ∧ -c ≤ -d
          · rw [if_pos a4, if_pos a4]; rfl
          · rw [if_neg a4, if_neg a4]; rfl
  · rw [if_neg (by omega), key _ _ h1]
    by_cases a1 : 0 < d ∧ 4 * f ≤ d
    · rw [if_pos a1, if_pos a1]
    · rw [if_neg a1, if_neg a1]
      by_cases a2 : d < 0 ∧ 4 * f ≤ -d
      · rw [if_pos a2, if_pos a2]
      · rw [if_neg a2, if_neg a2]
        have a0 : 0 < f := by omega
        by_cases a3 : 0 < d ∧ f ≤ d
        · rw [if_pos a3, if_pos ⟨a0, a3⟩]
        · rw [if_neg a3, if_neg (show ¬ (0 < f ∧ 0 < d ∧ f ≤ d) by omega)]
          by_cases a4 : d < 0 ∧ f ≤ -d
          · rw [if_pos a4, if_pos ⟨a0, a4⟩]
          · rw [if_neg a4, if_neg (show ¬ (0 < f ∧ d < 0 ∧ f ≤ -d) by omega), if_pos a0]
theorem rb_within {n : Int} {r : Bool} (h : decide (-4095 ≤ n ∧ n ≤ 4095) = r) (w : World) : Calls Try.prog 55 #[.int .i64 n, .int .i64 (-4095), .int .i64 4095] w fun e w' => e = .returned (.bool r) ∧ w' = w := by
  subst h
  by_cases h1 : -4095 ≤ n <;> by_cases h2 : n ≤ 4095 <;>
  · go_enter Try.func55, Try.ntmps55
    go_wp2
    go_ret
    exact ⟨by simp [h1, h2], rfl⟩
theorem rb_far (n : Int) (hn : -100000000 ≤ n ∧ n ≤ 100000000) (w : World) : Calls Try.prog 56 #[.int .i64 n] w fun e w' => e = .returned (.int .i64 (if n < 0 then -n else n)) ∧ w' = w := by
  by_cases h : n < 0
  · rw [if_pos h]
    go_enter Try.func56, Try.ntmps56
    go_wp2
    go_ret
    exact ⟨rfl, rfl⟩
  · rw [if_neg h]
    go_enter Try.func56, Try.ntmps56
    go_wp2
    go_ret
    exact ⟨rfl, rfl⟩
theorem rb_far_q {n f : Int} (hn : -100000000 ≤ n ∧ n ≤ 100000000) (hf : (if n < 0 then -n else n) = f) (w : World) : Calls Try.prog 56 #[.int .i64 n] w fun e w' => e = .returned (.int .i64 f) ∧ w' = w := by
  rw [← hf]; exact rb_far n hn w
theorem rb_mirror (c : Int) (hc : (Lit.int .i64 c).wf = true) (w : World) : Calls Try.prog 25 #[.int .i64 c] w fun e w' => e = .returned (.int .i64 (mirC c)) ∧ w' = w := by
  have HR : Hid (mirC c = if c = 2 ∨ c = 3 ∨ c = 4 then c + 4 else if c = 6 ∨ c = 7 ∨ c = 8 then c - 4 else c) := Lib.hid rfl
  by_cases h : c = 2 ∨ c = 3 ∨ c = 4 ∨ c = 6 ∨ c = 7 ∨ c = 8
  · rcases h with rfl | rfl | rfl | rfl | rfl | rfl <;>
    · go_enter Try.func25, Try.ntmps25
      go_wp2
      go_ret
      exact ⟨by rw [HR.out]; rfl, rfl⟩
  · have b2 : (c == 2) = false := by rw [beq_eq_false_iff_ne]; omega
    have b3 : (c == 3) = false := by rw [beq_eq_false_iff_ne]; omega
    have b4 : (c == 4) = false := by rw [beq_eq_false_iff_ne]; omega
    have b6 : (c == 6) = false := by rw [beq_eq_false_iff_ne]; omega
    have b7 : (c == 7) = false := by rw [beq_eq_false_iff_ne]; omega
    have b8 : (c == 8) = false := by rw [beq_eq_false_iff_ne]; omega
    have HH := Lib.hid h
    clear h
    go_enter Try.func25, Try.ntmps25
    go_wp2
    go_ret
    exact ⟨by have := HH.out; rw [HR.out, if_neg (by omega), if_neg (by omega)]; rfl, rfl⟩
theorem rb_mul {a b : Int} (h1 : -4095 ≤ a ∧ a ≤ 4095) (h2 : -4095 ≤ b ∧ b ≤ 4095) : -16769025 ≤ a * b ∧ a * b ≤ 16769025 := by
  have e1 : 0 ≤ (4095 - a) * (4095 + b) := Int.mul_nonneg (by omega) (by omega)
  have e2 : 0 ≤ (4095 + a) * (4095 - b) := Int.mul_nonneg (by omega) (by omega)
  have e3 : 0 ≤ (4095 - a) * (4095 - b) := Int.mul_nonneg (by omega) (by omega)
  have e4 : 0 ≤ (4095 + a) * (4095 + b) := Int.mul_nonneg (by omega) (by omega)
  rw [Int.sub_mul, Int.mul_add, Int.mul_add] at e1
  rw [Int.add_mul, Int.mul_sub, Int.mul_sub] at e2
  rw [Int.sub_mul, Int.mul_sub, Int.mul_sub] at e3
  rw [Int.add_mul, Int.mul_add, Int.mul_add] at e4
  constructor <;> omega
theorem run_indexA4 {P : Program} (wx : World) (t e : TypeId) (i : TypeInfo) (ht : P.underlying t = some (.array 4 e)) (hi : P.info? e = some i) (hs : i.size = 1) (nb j : Nat) (hj : j < 4) :
    (Instr.indexAt t (.pointer (some ⟨nb, 0, none⟩)) (.int .i64 (j : Int))).run P wx = .ok (.pointer (some ⟨nb, j, none⟩)) wx := by
  rcases (show j = 0 ∨ j = 1 ∨ j = 2 ∨ j = 3 by omega) with rfl | rfl | rfl | rfl <;> simp [Instr.indexAt, run_underlying ht, asIntOf, Go.sizeOf, typeInfo, hi, hs, Instr.sureAddr, Addr.add]

set_option maxHeartbeats 64000000 in
set_option maxRecDepth 100000 in
theorem rclass_any (ax ay bx dy : Int) (w : World) : Calls Try.prog 21 #[.int .i64 ax, .int .i64 ay, .int .i64 bx, .int .i64 dy] w fun e w' => e = .returned (.int .i64 (clsC ax ay bx dy)) ∧ Mod (fun _ => False) w w' := by
  obtain ⟨iI, hiI, hzI, hsI, hbI⟩ := info_parts GR.infoI
  obtain ⟨res, hres⟩ : ∃ r, clsC ax ay bx dy = r := ⟨_, rfl⟩
  rw [hres]
  have HRES := Lib.hid hres
  clear hres
  obtain ⟨p, hp⟩ : ∃ p, w.heap.size = p := ⟨_, rfl⟩
  obtain ⟨W0, hW0⟩ : ∃ W, w.alloc (.cells #[.int .i64 ax, .int .i64 ay, .int .i64 bx, .int .i64 dy] 92) = W := ⟨_, rfl⟩
  have hB0 : Blk W0 p 92 [.int .i64 ax, .int .i64 ay, .int .i64 bx, .int .i64 dy] := by rw [← hW0, ← hp]; exact Blk.new w 92 [.int .i64 ax, .int .i64 ay, .int .i64 bx, .int .i64 dy]
  have HM0 : Hid (Mod (fun _ => False) w W0) := Lib.hid (by rw [← hW0]; exact Mod.alloc _ _ _)
  go_enter Try.func21, Try.ntmps21
  go_wp2_with fail
  clear hp hW0
  have HB := Lib.hid hB0
  clear hB0
  go_loopw [10] (fun i wr => ∃ j : Nat, j ≤ 4 ∧ i = .int .i64 j ∧ wr = W0 ∧ ∀ k, k < j → ∀ x, ([ax, ay, bx, dy] : List Int)[k]? = some x → -4095 ≤ x ∧ x ≤ 4095) (fun i _ => 4 - (intOf i).toNat)
  case atStart => exact ⟨0, by omega, rfl, rfl, fun k h => by omega⟩
  case round =>
    obtain ⟨j, hj, rfl, hwr, hall⟩ := hrel
    subst hwr
    have HA := Lib.hid hall
    clear hall
    by_cases hlt : j < 4
    · obtain ⟨x, hx⟩ : ∃ x, ([ax, ay, bx, dy] : List Int)[j]? = some x := ⟨_, List.getElem?_eq_getElem (by simpa using hlt)⟩
      have kx : wr.cell? ⟨p, j, none⟩ = some (.int .i64 x) := HB.out.cell j (by
        have := congrArg (Option.map (Value.int .i64)) hx
        simpa [← List.getElem?_map] using this)
      have hix := fun wx => run_indexA4 (P := Try.prog) wx 92 3 iI Try.underlying92 hiI hsI p j hlt
      have HX := Lib.hid hx
      clear hx
      by_cases hin : -4095 ≤ x ∧ x ≤ 4095
      · have d1 : decide (-4095 ≤ x ∧ x ≤ 4095) = true := decide_eq_true hin
        have HIN := Lib.hid hin
        clear hin
        go_wp2_with (go_at_call 55; refine (rb_within d1 _).mono ?_; rintro e w' ⟨rfl, rfl⟩)
        go_roundw
        case rel =>
          refine ⟨j + 1, hlt, by go_num, by first | rfl | trivial, fun k hk y hy => ?_⟩
          by_cases e : k = j
          · subst e; rw [HX.out] at hy; cases hy; exact HIN.out
          · exact HA.out k (by omega) y hy
        case measure => simp [intOf]; omega
      · have d1 : decide (-4095 ≤ x ∧ x ≤ 4095) = false := decide_eq_false hin
        have HIN := Lib.hid hin
        clear hin
        go_wp2_with (go_at_call 55; refine (rb_within d1 _).mono ?_; rintro e w' ⟨rfl, rfl⟩)
        go_ret
        refine ⟨?_, HM0.out⟩
        have h1 := HIN.out
        have h2 := HX.out
        have h3 : res = 0 := by
          rw [← HRES.out]
          unfold clsC
          rw [if_neg]
          rw [wayC_iff, wayC_iff]
          rcases (show j = 0 ∨ j = 1 ∨ j = 2 ∨ j = 3 by omega) with rfl | rfl | rfl | rfl <;> simp at h2 <;> subst h2 <;> omega
        rw [h3]; rfl
    · obtain rfl : j = 4 := by omega
      have b1 := HA.out 0 (by omega) ax rfl
      have b2 := HA.out 1 (by omega) ay rfl
      have b3 := HA.out 2 (by omega) bx rfl
      have b4 := HA.out 3 (by omega) dy rfl
      have hcl : res = if (ax = 0 ∧ ay = 0) ∨ (bx = 0 ∧ dy = 0) then 0 else clsD (ax * dy - ay * bx) (ax * bx + ay * dy) := by
        rw [← HRES.out]
        have ha := wayC_iff ax ay
        have hb := wayC_iff bx dy
        unfold clsC
        by_cases hz : (ax = 0 ∧ ay = 0) ∨ (bx = 0 ∧ dy = 0)
        · rw [if_pos hz, if_neg (fun h => by have h1 := ha.1 h.1; have h2 := hb.1 h.2; omega)]
        · rw [if_neg hz, if_pos ⟨ha.2 (by omega), hb.2 (by omega)⟩]
      have m1 := rb_mul b1 b4
      have m2 := rb_mul b2 b3
      have m3 := rb_mul b1 b3
      have m4 := rb_mul b2 b4
      have hcd : (ax ≠ 0 ∨ ay ≠ 0) → (bx ≠ 0 ∨ dy ≠ 0) → ¬ (ax * dy - ay * bx = 0 ∧ ax * bx + ay * dy = 0) := cross_dot
      obtain ⟨P1, hP1⟩ : ∃ x, ax * dy = x := ⟨_, rfl⟩
      obtain ⟨P2, hP2⟩ : ∃ x, ay * bx = x := ⟨_, rfl⟩
      obtain ⟨P3, hP3⟩ : ∃ x, ax * bx = x := ⟨_, rfl⟩
      obtain ⟨P4, hP4⟩ : ∃ x, ay * dy = x := ⟨_, rfl⟩
      rw [hP1, hP2, hP3, hP4] at hcl hcd
      rw [hP1] at m1
      rw [hP2] at m2
      rw [hP3] at m3
      rw [hP4] at m4
      obtain ⟨c, hc⟩ : ∃ x, P1 - P2 = x := ⟨_, rfl⟩
      obtain ⟨d, hd⟩ : ∃ x, P3 + P4 = x := ⟨_, rfl⟩
      rw [hc, hd] at hcl hcd
      have bc1 : -100000000 ≤ c := by omega
      have bc2 : c ≤ 100000000 := by omega
      have bd1 : -100000000 ≤ d := by omega
      have bd2 : d ≤ 100000000 := by omega
      obtain ⟨f, hf⟩ : ∃ f, (if c < 0 then -c else c) = f := ⟨_, rfl⟩
      have HF := Lib.hid hf
      have hf2 : (c < 0 ∧ f = -c) ∨ (0 ≤ c ∧ f = c) := by rw [← hf]; split <;> omega
      have bf1 : 0 ≤ f := by omega
      have bf2 : f ≤ 100000000 := by omega
      have HF2 := Lib.hid hf2
      clear hf hf2
      have HCL := Lib.hid hcl
      have HCD := Lib.hid hcd
      clear hcl hcd HA HB HRES hlt hj
      by_cases hz : (ax = 0 ∧ ay = 0) ∨ (bx = 0 ∧ dy = 0)
      · have h0 : res = 0 := by rw [HCL.out, if_pos hz]
        subst h0
        by_cases hax : ax = 0
        · have z1 : (ax == 0) = true := by rw [hax]; rfl
          by_cases hay : ay = 0
          · have z2 : (ay == 0) = true := by rw [hay]; rfl
            clear hax hay hz
            clear HCL HCD HF HF2
            go_wp2_with fail
            go_ret
            exact ⟨rfl, HM0.out⟩
          · have z2 : (ay == 0) = false := by rw [beq_eq_false_iff_ne]; exact hay
            obtain ⟨hbx, hdy⟩ := hz.resolve_left (fun h => hay h.2)
            have z3 : (bx == 0) = true := by rw [hbx]; rfl
            have z4 : (dy == 0) = true := by rw [hdy]; rfl
            clear hax hay hbx hdy hz
            clear HCL HCD HF HF2
            go_wp2_with fail
            go_ret
            exact ⟨rfl, HM0.out⟩
        · have z1 : (ax == 0) = false := by rw [beq_eq_false_iff_ne]; exact hax
          obtain ⟨hbx, hdy⟩ := hz.resolve_left (fun h => hax h.1)
          have z3 : (bx == 0) = true := by rw [hbx]; rfl
          have z4 : (dy == 0) = true := by rw [hdy]; rfl
          clear hax hbx hdy hz
          clear HCL HCD HF HF2
          go_wp2_with fail
          go_ret
          exact ⟨rfl, HM0.out⟩
      · have hn0 : ¬ (c = 0 ∧ d = 0) := HCD.out (by omega) (by omega)
        have HZ : Hid (res = if 0 < d ∧ 4 * f ≤ d then 1 else if d < 0 ∧ 4 * f ≤ -d then 5 else if 0 < c ∧ 0 < d ∧ c ≤ d then 2 else if 0 < c ∧ d < 0 ∧ c ≤ -d then 4 else if 0 < c then 3 else if 0 < d ∧ -c ≤ d then 6 else if d < 0 ∧ -c ≤ -d then 8 else 7) := Lib.hid (by rw [HCL.out, if_neg hz]; exact clsD_R c d f HF2.out hn0)
        have HN0 := Lib.hid hn0
        clear HCL HCD hn0
        go_upto_region 7 with fail
        go_cut [40] (fun cv wx => cv = .bool false ∧ wr = wx)
        case first =>
          by_cases hax : ax = 0
          · have z1 : (ax == 0) = true := by rw [hax]; rfl
            have hay : ay ≠ 0 := fun h => hz (.inl ⟨hax, h⟩)
            have z2 : (ay == 0) = false := by rw [beq_eq_false_iff_ne]; exact hay
            clear hax hay
            by_cases hbx : bx = 0
            · have z3 : (bx == 0) = true := by rw [hbx]; rfl
              have hdy : dy ≠ 0 := fun h => hz (.inr ⟨hbx, h⟩)
              have z4 : (dy == 0) = false := by rw [beq_eq_false_iff_ne]; exact hdy
              clear hbx hdy hz
              go_wp2_with fail
              go_meet
              exact ⟨rfl, rfl⟩
            · have z3 : (bx == 0) = false := by rw [beq_eq_false_iff_ne]; exact hbx
              clear hbx hz
              go_wp2_with fail
              go_meet
              exact ⟨rfl, rfl⟩
          · have z1 : (ax == 0) = false := by rw [beq_eq_false_iff_ne]; exact hax
            clear hax
            by_cases hbx : bx = 0
            · have z3 : (bx == 0) = true := by rw [hbx]; rfl
              have hdy : dy ≠ 0 := fun h => hz (.inr ⟨hbx, h⟩)
              have z4 : (dy == 0) = false := by rw [beq_eq_false_iff_ne]; exact hdy
              clear hbx hdy hz
              go_wp2_with fail
              go_meet
              exact ⟨rfl, rfl⟩
            · have z3 : (bx == 0) = false := by rw [beq_eq_false_iff_ne]; exact hbx
              clear hbx hz
              go_wp2_with fail
              go_meet
              exact ⟨rfl, rfl⟩
        case rest =>
          obtain ⟨hcv, hwx2⟩ := hcut
          subst hwx2
          subst hcv
          clear hz
          by_cases g0 : 0 < d
          · skip
            by_cases g1 : 4 * f ≤ d
            · skip
              have t1 : decide (4 * f ≤ d) = true := by simp; omega
              have t2 : decide (0 < d) = true := by simp; omega
              have hv : res = 1 := by rw [HZ.out, if_pos (by omega)]
              clear HZ HN0 HF2 g0 g1
              subst hv
              go_wp2_with (go_at_call 56; refine (rb_far_q ⟨bc1, bc2⟩ HF.out _).mono ?_; rintro e w' ⟨rfl, rfl⟩)
              go_ret
              exact ⟨rfl, HM0.out⟩
            · skip
              by_cases g2 : 0 < c
              · skip
                by_cases g3 : c ≤ d
                · skip
                  have t3 : decide (0 < d) = true := by simp; omega
                  have t4 : decide (d < 0) = false := by simp; omega
                  have t5 : decide (4 * f ≤ d) = false := by simp; omega
                  have t6 : decide (0 < c) = true := by simp; omega
                  have t7 : decide (c ≤ d) = true := by simp; omega
                  have hv : res = 2 := by rw [HZ.out, if_neg (by omega), if_neg (by omega), if_pos (by omega)]
                  clear HZ HN0 HF2 g0 g1 g2 g3
                  subst hv
                  go_wp2_with (go_at_call 56; refine (rb_far_q ⟨bc1, bc2⟩ HF.out _).mono ?_; rintro e w' ⟨rfl, rfl⟩)
                  go_ret
                  exact ⟨rfl, HM0.out⟩
                · skip
                  have t8 : decide (0 < d) = true := by simp; omega
                  have t9 : decide (d < 0) = false := by simp; omega
                  have t10 : decide (4 * f ≤ d) = false := by simp; omega
                  have t11 : decide (0 < c) = true := by simp; omega
                  have t12 : decide (c ≤ d) = false := by simp; omega
                  have hv : res = 3 := by rw [HZ.out, if_neg (by omega), if_neg (by omega), if_neg (by omega), if_neg (by omega), if_pos (by omega)]
                  clear HZ HN0 HF2 g0 g1 g2 g3
                  subst hv
                  go_wp2_with (go_at_call 56; refine (rb_far_q ⟨bc1, bc2⟩ HF.out _).mono ?_; rintro e w' ⟨rfl, rfl⟩)
                  go_ret
                  exact ⟨rfl, HM0.out⟩
              · skip
                by_cases g3 : -c ≤ d
                · skip
                  have t13 : decide (0 < d) = true := by simp; omega
                  have t14 : decide (d < 0) = false := by simp; omega
                  have t15 : decide (4 * f ≤ d) = false := by simp; omega
                  have t16 : decide (0 < c) = false := by simp; omega
                  have t17 : decide (-c ≤ d) = true := by simp; omega
                  have hv : res = 6 := by rw [HZ.out, if_neg (by omega), if_neg (by omega), if_neg (by omega), if_neg (by omega), if_neg (by omega), if_pos (by omega)]
                  clear HZ HN0 HF2 g0 g1 g2 g3
                  subst hv
                  go_wp2_with (go_at_call 56; refine (rb_far_q ⟨bc1, bc2⟩ HF.out _).mono ?_; rintro e w' ⟨rfl, rfl⟩)
                  go_ret
                  exact ⟨rfl, HM0.out⟩
                · skip
                  have t18 : decide (0 < d) = true := by simp; omega
                  have t19 : decide (d < 0) = false := by simp; omega
                  have t20 : decide (4 * f ≤ d) = false := by simp; omega
                  have t21 : decide (0 < c) = false := by simp; omega
                  have t22 : decide (-c ≤ d) = false := by simp; omega
                  have hv : res = 7 := by rw [HZ.out, if_neg (by omega), if_neg (by omega), if_neg (by omega), if_neg (by omega), if_neg (by omega), if_neg (by omega), if_neg (by omega)]
                  clear HZ HN0 HF2 g0 g1 g2 g3
                  subst hv
                  go_wp2_with (go_at_call 56; refine (rb_far_q ⟨bc1, bc2⟩ HF.out _).mono ?_; rintro e w' ⟨rfl, rfl⟩)
                  go_ret
                  exact ⟨rfl, HM0.out⟩
          · skip
            by_cases g9 : d < 0
            · skip
              by_cases g1 : 4 * f ≤ -d
              · skip
                have t23 : decide (4 * f ≤ -d) = true := by simp; omega
                have t24 : decide (0 < d) = false := by simp; omega
                have t25 : decide (d < 0) = true := by simp; omega
                have hv : res = 5 := by rw [HZ.out, if_neg (by omega), if_pos (by omega)]
                clear HZ HN0 HF2 g0 g9 g1
                subst hv
                go_wp2_with (go_at_call 56; refine (rb_far_q ⟨bc1, bc2⟩ HF.out _).mono ?_; rintro e w' ⟨rfl, rfl⟩)
                go_ret
                exact ⟨rfl, HM0.out⟩
              · skip
                by_cases g2 : 0 < c
                · skip
                  by_cases g3 : c ≤ -d
                  · skip
                    have t26 : decide (0 < d) = false := by simp; omega
                    have t27 : decide (d < 0) = true := by simp; omega
                    have t28 : decide (4 * f ≤ -d) = false := by simp; omega
                    have t29 : decide (0 < c) = true := by simp; omega
                    have t30 : decide (c ≤ -d) = true := by simp; omega
                    have hv : res = 4 := by rw [HZ.out, if_neg (by omega), if_neg (by omega), if_neg (by omega), if_pos (by omega)]
                    clear HZ HN0 HF2 g0 g9 g1 g2 g3
                    subst hv
                    go_wp2_with (go_at_call 56; refine (rb_far_q ⟨bc1, bc2⟩ HF.out _).mono ?_; rintro e w' ⟨rfl, rfl⟩)
                    go_ret
                    exact ⟨rfl, HM0.out⟩
                  · skip
                    have t31 : decide (0 < d) = false := by simp; omega
                    have t32 : decide (d < 0) = true := by simp; omega
                    have t33 : decide (4 * f ≤ -d) = false := by simp; omega
                    have t34 : decide (0 < c) = true := by simp; omega
                    have t35 : decide (c ≤ -d) = false := by simp; omega
                    have hv : res = 3 := by rw [HZ.out, if_neg (by omega), if_neg (by omega), if_neg (by omega), if_neg (by omega), if_pos (by omega)]
                    clear HZ HN0 HF2 g0 g9 g1 g2 g3
                    subst hv
                    go_wp2_with (go_at_call 56; refine (rb_far_q ⟨bc1, bc2⟩ HF.out _).mono ?_; rintro e w' ⟨rfl, rfl⟩)
                    go_ret
                    exact ⟨rfl, HM0.out⟩
                · skip
                  by_cases g3 : -c ≤ -d
                  · skip
                    have t36 : decide (0 < d) = false := by simp; omega
                    have t37 : decide (d < 0) = true := by simp; omega
                    have t38 : decide (4 * f ≤ -d) = false := by simp; omega
                    have t39 : decide (0 < c) = false := by simp; omega
                    have t40 : decide (d ≤ c) = true := by simp; omega
                    have hv : res = 8 := by rw [HZ.out, if_neg (by omega), if_neg (by omega), if_neg (by omega), if_neg (by omega), if_neg (by omega), if_neg (by omega), if_pos (by omega)]
                    clear HZ HN0 HF2 g0 g9 g1 g2 g3
                    subst hv
                    go_wp2_with (go_at_call 56; refine (rb_far_q ⟨bc1, bc2⟩ HF.out _).mono ?_; rintro e w' ⟨rfl, rfl⟩)
                    go_ret
                    exact ⟨rfl, HM0.out⟩
                  · skip
                    have t41 : decide (0 < d) = false := by simp; omega
                    have t42 : decide (d < 0) = true := by simp; omega
                    have t43 : decide (4 * f ≤ -d) = false := by simp; omega
                    have t44 : decide (0 < c) = false := by simp; omega
                    have t45 : decide (d ≤ c) = false := by simp; omega
                    have hv : res = 7 := by rw [HZ.out, if_neg (by omega), if_neg (by omega), if_neg (by omega), if_neg (by omega), if_neg (by omega), if_neg (by omega), if_neg (by omega)]
                    clear HZ HN0 HF2 g0 g9 g1 g2 g3
                    subst hv
                    go_wp2_with (go_at_call 56; refine (rb_far_q ⟨bc1, bc2⟩ HF.out _).mono ?_; rintro e w' ⟨rfl, rfl⟩)
                    go_ret
                    exact ⟨rfl, HM0.out⟩
            · skip
              by_cases g2 : 0 < c
              · skip
                have t46 : decide (0 < d) = false := by simp; omega
                have t47 : decide (d < 0) = false := by simp; omega
                have t48 : decide (0 < c) = true := by simp; omega
                have hv : res = 3 := by rw [HZ.out, if_neg (by omega), if_neg (by omega), if_neg (by omega), if_neg (by omega), if_pos (by omega)]
                clear HZ HN0 HF2 g0 g9 g2
                subst hv
                go_wp2_with (go_at_call 56; refine (rb_far_q ⟨bc1, bc2⟩ HF.out _).mono ?_; rintro e w' ⟨rfl, rfl⟩)
                go_ret
                exact ⟨rfl, HM0.out⟩
              · skip
                have t49 : decide (0 < d) = false := by simp; omega
                have t50 : decide (d < 0) = false := by simp; omega
                have t51 : decide (0 < c) = false := by simp; omega
                have hv : res = 7 := by rw [HZ.out, if_neg (by omega), if_neg (by omega), if_neg (by omega), if_neg (by omega), if_neg (by omega), if_neg (by omega), if_neg (by omega)]
                clear HZ HN0 HF2 g0 g9 g2
                subst hv
                go_wp2_with (go_at_call 56; refine (rb_far_q ⟨bc1, bc2⟩ HF.out _).mono ?_; rintro e w' ⟨rfl, rfl⟩)
                go_ret
                exact ⟨rfl, HM0.out⟩
end Go.Proofs.Ytagmnkobigecnaa
namespace Go.Proofs.Ytagmnkobigecnaa
open Go.RowKit Mile
set_option maxRecDepth 100000
theorem vec_in (G : GD) (xe px py : Nat) (h : xe < G.E.length) (hx : (G.E[xe]).1 = (px : Int)) (hy : (G.E[xe]).2.1 = (py : Int)) (hp : px < G.N.length) (hq : py < G.N.length) :
    vecX G (xe : Int) = (G.N[py]).1 - (G.N[px]).1 ∧ vecY G (xe : Int) = (G.N[py]).2 - (G.N[px]).2 := by
  have e1 : ndv G (px : Int) = G.N[px] := by unfold ndv; rw [if_pos ⟨by omega, by omega⟩, nAt_eq G px hp]
  have e2 : ndv G (py : Int) = G.N[py] := by unfold ndv; rw [if_pos ⟨by omega, by omega⟩, nAt_eq G py hq]
  unfold vecX vecY
  rw [if_pos ⟨by omega, by omega⟩, if_pos ⟨by omega, by omega⟩, eAt_eq G xe h, hx, hy, e1, e2]
  exact ⟨rfl, rfl⟩
theorem vec_out (G : GD) (v : Int) (h : ¬ (0 ≤ v ∧ v < (G.E.length : Int))) : vecX G v = 0 ∧ vecY G v = 0 := by
  unfold vecX vecY; rw [if_neg h, if_neg h]; exact ⟨rfl, rfl⟩
theorem bendG_outA (G : GD) (a b : Int) (h : ¬ (0 ≤ a ∧ a < (G.E.length : Int))) : bendG G a b = 0 := by
  obtain ⟨h1, h2⟩ := vec_out G a h
  unfold bendG; rw [h1, h2]; unfold clsC; rw [if_neg]; rintro ⟨e, _⟩; exact absurd e (by decide)
theorem bendG_outB (G : GD) (a b : Int) (h : ¬ (0 ≤ b ∧ b < (G.E.length : Int))) : bendG G a b = 0 := by
  obtain ⟨h1, h2⟩ := vec_out G b h
  unfold bendG; rw [h1, h2]; unfold clsC; rw [if_neg]; rintro ⟨_, e⟩; exact absurd e (by decide)
theorem ed_in (G : GD) (hm : May G) (xe : Nat) (h : xe < G.E.length) : ∃ px py : Nat, (G.E[xe]).1 = (px : Int) ∧ (G.E[xe]).2.1 = (py : Int) ∧ px < G.N.length ∧ py < G.N.length := by
  obtain ⟨⟨a1, a2⟩, ⟨b1, b2⟩, _⟩ := hm.2.2.1 _ (List.getElem_mem h)
  obtain ⟨px, hp⟩ := Int.eq_ofNat_of_zero_le a1
  obtain ⟨py, hq⟩ := Int.eq_ofNat_of_zero_le b1
  exact ⟨px, py, hp, hq, by omega, by omega⟩
theorem nd_in (G : GD) (hm : May G) (px : Nat) (h : px < G.N.length) : (0 ≤ (G.N[px]).1 ∧ (G.N[px]).1 ≤ 4095) ∧ (0 ≤ (G.N[px]).2 ∧ (G.N[px]).2 ≤ 4095) := hm.2.1 _ (List.getElem_mem h)
/-- What each operation of the statement leaves. -/
def rbn_r3_0_V (xe : Nat) (px : Nat) (py : Nat) (u0 : Int) (u1 : Int) (v0 : Int) (v1 : Int) (a1 : Option Addr) (a2 : Option Addr) (n1 : Nat) (d1 : Nat) (n2 : Nat) (d2 : Nat) (bx : Nat) (eab : Nat) (eao : Nat) (fab : Nat) (fao : Nat) (gab : Nat) (gao : Nat) (B0 : Nat) : List Value :=
  [.pointer (some ⟨bx, 0, none⟩),
   .slice a1 n1 d1,
   .pointer (some ⟨bx, 1, none⟩),
   .slice a2 n2 d2,
   .int .i64 (xe : Int),
   .pointer (some ⟨eab, eao, none⟩),
   .pointer (some ⟨eab, eao, none⟩),
   .int .i64 (px : Int),
   .pointer (some ⟨fab, fao, none⟩),
   .agg #[.int .i64 u0, .int .i64 u1],
   .pointer (some ⟨bx, 0, none⟩),
   .slice a1 n1 d1,
   .pointer (some ⟨bx, 1, none⟩),
   .slice a2 n2 d2,
   .int .i64 (xe : Int),
   .pointer (some ⟨eab, eao, none⟩),
   .pointer (some ⟨eab, eao + 1, none⟩),
   .int .i64 (py : Int),
   .pointer (some ⟨gab, gao, none⟩),
   .agg #[.int .i64 v0, .int .i64 v1],
   undef,
   undef,
   undef,
   undef]
def rbn_r3_0_D : List (List Nat) := [[], [0], [], [2], [], [3, 4], [5], [6], [1, 7], [8], [], [10], [], [12], [], [13, 14], [15], [16], [11, 17], [18], [], [], [9, 20], [19, 21]]
def rbn_r3_0_K (xe : Nat) (px : Nat) (py : Nat) (u0 : Int) (u1 : Int) (v0 : Int) (v1 : Int) (a1 : Option Addr) (a2 : Option Addr) (n1 : Nat) (d1 : Nat) (n2 : Nat) (d2 : Nat) (bx : Nat) (eab : Nat) (eao : Nat) (fab : Nat) (fao : Nat) (gab : Nat) (gao : Nat) (B0 : Nat) : Two := ⟨B0, 70, [.int .i64 0, .int .i64 0], [.int .i64 u0, .int .i64 u1], [.int .i64 v0, .int .i64 v1], 20, 22, 21, 23⟩

/-- What each operation of the statement leaves. -/
def rbn_r4_1_V (ye : Nat) (qx : Nat) (qy : Nat) (r0 : Int) (r1 : Int) (s0 : Int) (s1 : Int) (a1 : Option Addr) (a2 : Option Addr) (n1 : Nat) (d1 : Nat) (n2 : Nat) (d2 : Nat) (bx : Nat) (ebb : Nat) (ebo : Nat) (fbb : Nat) (fbo : Nat) (gbb : Nat) (gbo : Nat) (B0 : Nat) : List Value :=
  [.pointer (some ⟨bx, 0, none⟩),
   .slice a1 n1 d1,
   .pointer (some ⟨bx, 1, none⟩),
   .slice a2 n2 d2,
   .int .i64 (ye : Int),
   .pointer (some ⟨ebb, ebo, none⟩),
   .pointer (some ⟨ebb, ebo, none⟩),
   .int .i64 (qx : Int),
   .pointer (some ⟨fbb, fbo, none⟩),
   .agg #[.int .i64 r0, .int .i64 r1],
   .pointer (some ⟨bx, 0, none⟩),
   .slice a1 n1 d1,
   .pointer (some ⟨bx, 1, none⟩),
   .slice a2 n2 d2,
   .int .i64 (ye : Int),
   .pointer (some ⟨ebb, ebo, none⟩),
   .pointer (some ⟨ebb, ebo + 1, none⟩),
   .int .i64 (qy : Int),
   .pointer (some ⟨gbb, gbo, none⟩),
   .agg #[.int .i64 s0, .int .i64 s1],
   undef,
   undef,
   undef,
   undef]
def rbn_r4_1_D : List (List Nat) := [[], [0], [], [2], [], [3, 4], [5], [6], [1, 7], [8], [], [10], [], [12], [], [13, 14], [15], [16], [11, 17], [18], [], [], [9, 20], [19, 21]]
def rbn_r4_1_K (ye : Nat) (qx : Nat) (qy : Nat) (r0 : Int) (r1 : Int) (s0 : Int) (s1 : Int) (a1 : Option Addr) (a2 : Option Addr) (n1 : Nat) (d1 : Nat) (n2 : Nat) (d2 : Nat) (bx : Nat) (ebb : Nat) (ebo : Nat) (fbb : Nat) (fbo : Nat) (gbb : Nat) (gbo : Nat) (B0 : Nat) : Two := ⟨B0, 70, [.int .i64 0, .int .i64 0], [.int .i64 r0, .int .i64 r1], [.int .i64 s0, .int .i64 s1], 20, 22, 21, 23⟩

set_option maxHeartbeats 64000000 in
theorem r4bend_any (G : GD) (hmay : May G) (w : World) (a1 : Option Addr) (n1 d1 : Nat) (a2 : Option Addr) (n2 d2 : Nat) (a3 : Option Addr) (n3 d3 : Nat) (h : GV w a1 n1 d1 a2 n2 d2 a3 n3 d3 G) (q2 : n2 ≤ 100000) (q1 : n1 ≤ 100000) (va vb : Int) :
    Calls Try.prog 23 #[.agg #[.slice a1 n1 d1, .slice a2 n2 d2, .slice a3 n3 d3], .int .i64 va, .int .i64 vb] w fun e w' => e = .returned (.int .i64 (bendG G va vb)) ∧ Mod (fun _ => False) w w' := by
  obtain ⟨iE, hiE, hzE, hsE, hbE⟩ := info_parts GR.infoE
  obtain ⟨iN, hiN, hzN, hsN, hbN⟩ := info_parts GR.infoN
  have HMAY := Lib.hid hmay
  have he := Lib.hid h.e
  have hn := Lib.hid h.n
  clear hmay
  have HS : Hid (Ev (Mod (fun _ => False) w) w) := Lib.hid (Ev.mod w)
  replace HS := Lib.hid ((Ev.gv h).and HS.out)
  clear h
  by_cases hva : 0 ≤ va ∧ va < (G.E.length : Int)
  case neg =>
    rw [bendG_outA G va vb hva]
    have HVA := Lib.hid hva
    clear hva
    go_enter Try.func23, Try.ntmps23
    go_upto_region 1 with fail
    obtain ⟨bx, hbx⟩ : ∃ b, w.heap.size = b := ⟨_, rfl⟩
    obtain ⟨wq1, hwq1⟩ : ∃ W, World.alloc w (.cells #[.slice a1 n1 d1, .slice a2 n2 d2, .slice a3 n3 d3] 28) = W := ⟨_, rfl⟩
    have hBbx : Blk wq1 bx 28 [.slice a1 n1 d1, .slice a2 n2 d2, .slice a3 n3 d3] := by rw [← hwq1, ← hbx]; exact Blk.new _ 28 [.slice a1 n1 d1, .slice a2 n2 d2, .slice a3 n3 d3]
    have hzbx : wq1.heap.size = bx + 1 := by rw [← hwq1, ← hbx]; exact heap_size_alloc _ _
    replace HS := Lib.hid (HS.out.step (w' := wq1) (by rw [← hwq1]; exact Mod.alloc _ _ _))
    replace HS := Lib.hid ((Ev.blk hBbx).and HS.out)
    try rw [hwq1]
    try rw [hbx]
    clear hzbx hBbx hbx hwq1
    have hbbx := (HS.out.now).1
    have qbx_0 := hbbx.cell 0 rfl
    have qbx_1 := hbbx.cell 1 rfl
    have qbx_2 := hbbx.cell 2 rfl
    have lbx := hbbx.lt
    clear hbbx
    go_wp2_with fail
    refine (r4edge_any G _ a1 n1 d1 a2 n2 d2 a3 n3 d3 ((HS.out.now).2.1) q2 va).mono ?_
    rintro e wq2 ⟨rfl, hmm⟩
    replace HS := Lib.hid (HS.out.step hmm)
    clear hmm
    clear qbx_0 qbx_1 qbx_2 lbx
    have hbbx := (HS.out.now).1
    have qbx_0 := hbbx.cell 0 rfl
    have qbx_1 := hbbx.cell 1 rfl
    have qbx_2 := hbbx.cell 2 rfl
    have lbx := hbbx.lt
    clear hbbx
    rw [decide_eq_false HVA.out]
    go_wp2_with fail
    go_ret
    exact ⟨rfl, (HS.out.now).2.2⟩
  case pos =>
    by_cases hvb : 0 ≤ vb ∧ vb < (G.E.length : Int)
    case neg =>
      rw [bendG_outB G va vb hvb]
      have HVA := Lib.hid hva
      have HVB := Lib.hid hvb
      clear hva hvb
      go_enter Try.func23, Try.ntmps23
      go_upto_region 1 with fail
      obtain ⟨bx, hbx⟩ : ∃ b, w.heap.size = b := ⟨_, rfl⟩
      obtain ⟨wq3, hwq3⟩ : ∃ W, World.alloc w (.cells #[.slice a1 n1 d1, .slice a2 n2 d2, .slice a3 n3 d3] 28) = W := ⟨_, rfl⟩
      have hBbx : Blk wq3 bx 28 [.slice a1 n1 d1, .slice a2 n2 d2, .slice a3 n3 d3] := by rw [← hwq3, ← hbx]; exact Blk.new _ 28 [.slice a1 n1 d1, .slice a2 n2 d2, .slice a3 n3 d3]
      have hzbx : wq3.heap.size = bx + 1 := by rw [← hwq3, ← hbx]; exact heap_size_alloc _ _
      replace HS := Lib.hid (HS.out.step (w' := wq3) (by rw [← hwq3]; exact Mod.alloc _ _ _))
      replace HS := Lib.hid ((Ev.blk hBbx).and HS.out)
      try rw [hwq3]
      try rw [hbx]
      clear hzbx hBbx hbx hwq3
      have hbbx := (HS.out.now).1
      have qbx_0 := hbbx.cell 0 rfl
      have qbx_1 := hbbx.cell 1 rfl
      have qbx_2 := hbbx.cell 2 rfl
      have lbx := hbbx.lt
      clear hbbx
      go_wp2_with fail
      refine (r4edge_any G _ a1 n1 d1 a2 n2 d2 a3 n3 d3 ((HS.out.now).2.1) q2 va).mono ?_
      rintro e wq4 ⟨rfl, hmm⟩
      replace HS := Lib.hid (HS.out.step hmm)
      clear hmm
      clear qbx_0 qbx_1 qbx_2 lbx
      have hbbx := (HS.out.now).1
      have qbx_0 := hbbx.cell 0 rfl
      have qbx_1 := hbbx.cell 1 rfl
      have qbx_2 := hbbx.cell 2 rfl
      have lbx := hbbx.lt
      clear hbbx
      rw [decide_eq_true HVA.out]
      go_wp2_with fail
      refine (r4edge_any G _ a1 n1 d1 a2 n2 d2 a3 n3 d3 ((HS.out.now).2.1) q2 vb).mono ?_
      rintro e wq5 ⟨rfl, hmm⟩
      replace HS := Lib.hid (HS.out.step hmm)
      clear hmm
      clear qbx_0 qbx_1 qbx_2 lbx
      have hbbx := (HS.out.now).1
      have qbx_0 := hbbx.cell 0 rfl
      have qbx_1 := hbbx.cell 1 rfl
      have qbx_2 := hbbx.cell 2 rfl
      have lbx := hbbx.lt
      clear hbbx
      rw [decide_eq_false HVB.out]
      go_wp2_with fail
      go_ret
      exact ⟨rfl, (HS.out.now).2.2⟩
    case pos =>
      obtain ⟨xe, rfl⟩ := Int.eq_ofNat_of_zero_le hva.1
      have hxel : xe < G.E.length := by omega
      have hxen : xe < n2 := by have := he.out; omega
      have HDa := Lib.hid (decide_eq_true hva)
      clear hva
      obtain ⟨px, py, hxa, hya, hpa, hqa⟩ := ed_in G HMAY.out xe hxel
      have hvca := vec_in G xe px py hxel hxa hya hpa hqa
      have hpna : px < n1 := by have := hn.out; omega
      have hqna : py < n1 := by have := hn.out; omega
      have nb1a := nd_in G HMAY.out px hpa
      have nb2a := nd_in G HMAY.out py hqa
      have HXa := Lib.hid hxa
      have HYa := Lib.hid hya
      clear hxa hya
      obtain ⟨ye, rfl⟩ := Int.eq_ofNat_of_zero_le hvb.1
      have hyel : ye < G.E.length := by omega
      have hyen : ye < n2 := by have := he.out; omega
      have HDb := Lib.hid (decide_eq_true hvb)
      clear hvb
      obtain ⟨qx, qy, hxb, hyb, hpb, hqb⟩ := ed_in G HMAY.out ye hyel
      have hvcb := vec_in G ye qx qy hyel hxb hyb hpb hqb
      have hpnb : qx < n1 := by have := hn.out; omega
      have hqnb : qy < n1 := by have := hn.out; omega
      have nb1b := nd_in G HMAY.out qx hpb
      have nb2b := nd_in G HMAY.out qy hqb
      have HXb := Lib.hid hxb
      have HYb := Lib.hid hyb
      clear hxb hyb
      obtain ⟨u0, Hu00⟩ : ∃ qz, (G.N[px]).1 = qz := ⟨_, rfl⟩
      have Hu0 := Lib.hid Hu00
      clear Hu00
      rw [Hu0.out] at hvca nb1a
      obtain ⟨u1, Hu10⟩ : ∃ qz, (G.N[px]).2 = qz := ⟨_, rfl⟩
      have Hu1 := Lib.hid Hu10
      clear Hu10
      rw [Hu1.out] at hvca nb1a
      obtain ⟨v0, Hv00⟩ : ∃ qz, (G.N[py]).1 = qz := ⟨_, rfl⟩
      have Hv0 := Lib.hid Hv00
      clear Hv00
      rw [Hv0.out] at hvca nb2a
      obtain ⟨v1, Hv10⟩ : ∃ qz, (G.N[py]).2 = qz := ⟨_, rfl⟩
      have Hv1 := Lib.hid Hv10
      clear Hv10
      rw [Hv1.out] at hvca nb2a
      obtain ⟨⟨ka1, ka2⟩, ka3, ka4⟩ := nb1a
      obtain ⟨⟨ka5, ka6⟩, ka7, ka8⟩ := nb2a
      obtain ⟨r0, Hr00⟩ : ∃ qz, (G.N[qx]).1 = qz := ⟨_, rfl⟩
      have Hr0 := Lib.hid Hr00
      clear Hr00
      rw [Hr0.out] at hvcb nb1b
      obtain ⟨r1, Hr10⟩ : ∃ qz, (G.N[qx]).2 = qz := ⟨_, rfl⟩
      have Hr1 := Lib.hid Hr10
      clear Hr10
      rw [Hr1.out] at hvcb nb1b
      obtain ⟨s0, Hs00⟩ : ∃ qz, (G.N[qy]).1 = qz := ⟨_, rfl⟩
      have Hs0 := Lib.hid Hs00
      clear Hs00
      rw [Hs0.out] at hvcb nb2b
      obtain ⟨s1, Hs10⟩ : ∃ qz, (G.N[qy]).2 = qz := ⟨_, rfl⟩
      have Hs1 := Lib.hid Hs10
      clear Hs10
      rw [Hs1.out] at hvcb nb2b
      obtain ⟨⟨kb1, kb2⟩, kb3, kb4⟩ := nb1b
      obtain ⟨⟨kb5, kb6⟩, kb7, kb8⟩ := nb2b
      have HR : Hid (bendG G (xe : Int) (ye : Int) = clsC (v0 - u0) (v1 - u1) (s0 - r0) (s1 - r1)) := Lib.hid (by unfold bendG; rw [hvca.1, hvca.2, hvcb.1, hvcb.2])
      clear hvca hvcb
      obtain ⟨x2, Hx20⟩ : ∃ qz, (G.E[xe]).2.2 = qz := ⟨_, rfl⟩
      have Hx2 := Lib.hid Hx20
      clear Hx20
      obtain ⟨y2, Hy20⟩ : ∃ qz, (G.E[ye]).2.2 = qz := ⟨_, rfl⟩
      have Hy2 := Lib.hid Hy20
      clear Hy20
      go_enter Try.func23, Try.ntmps23
      go_upto_region 1 with fail
      obtain ⟨bx, hbx⟩ : ∃ b, w.heap.size = b := ⟨_, rfl⟩
      obtain ⟨wq6, hwq6⟩ : ∃ W, World.alloc w (.cells #[.slice a1 n1 d1, .slice a2 n2 d2, .slice a3 n3 d3] 28) = W := ⟨_, rfl⟩
      have hBbx : Blk wq6 bx 28 [.slice a1 n1 d1, .slice a2 n2 d2, .slice a3 n3 d3] := by rw [← hwq6, ← hbx]; exact Blk.new _ 28 [.slice a1 n1 d1, .slice a2 n2 d2, .slice a3 n3 d3]
      have hzbx : wq6.heap.size = bx + 1 := by rw [← hwq6, ← hbx]; exact heap_size_alloc _ _
      replace HS := Lib.hid (HS.out.step (w' := wq6) (by rw [← hwq6]; exact Mod.alloc _ _ _))
      replace HS := Lib.hid ((Ev.blk hBbx).and HS.out)
      try rw [hwq6]
      try rw [hbx]
      clear hzbx hBbx hbx hwq6
      have hbbx := (HS.out.now).1
      have qbx_0 := hbbx.cell 0 rfl
      have qbx_1 := hbbx.cell 1 rfl
      have qbx_2 := hbbx.cell 2 rfl
      have lbx := hbbx.lt
      clear hbbx
      go_wp2_with fail
      refine (r4edge_any G _ a1 n1 d1 a2 n2 d2 a3 n3 d3 ((HS.out.now).2.1) q2 (xe : Int)).mono ?_
      rintro e wq7 ⟨rfl, hmm⟩
      replace HS := Lib.hid (HS.out.step hmm)
      clear hmm
      clear qbx_0 qbx_1 qbx_2 lbx
      have hbbx := (HS.out.now).1
      have qbx_0 := hbbx.cell 0 rfl
      have qbx_1 := hbbx.cell 1 rfl
      have qbx_2 := hbbx.cell 2 rfl
      have lbx := hbbx.lt
      clear hbbx
      rw [HDa.out]
      go_wp2_with fail
      refine (r4edge_any G _ a1 n1 d1 a2 n2 d2 a3 n3 d3 ((HS.out.now).2.1) q2 (ye : Int)).mono ?_
      rintro e wq8 ⟨rfl, hmm⟩
      replace HS := Lib.hid (HS.out.step hmm)
      clear hmm
      clear qbx_0 qbx_1 qbx_2 lbx
      have hbbx := (HS.out.now).1
      have qbx_0 := hbbx.cell 0 rfl
      have qbx_1 := hbbx.cell 1 rfl
      have qbx_2 := hbbx.cell 2 rfl
      have lbx := hbbx.lt
      clear hbbx
      rw [HDb.out]
      obtain ⟨eab, eao, hpl, e0, e1, e2⟩ := rd3 (HS.out.now).2.1.re xe hxel
      have hix := fun wx => run_indexS (P := Try.prog) wx 25 41 iE 3 Try.underlying25 hiE hsE a2 n2 d2 xe hxen ((HS.out.now).2.1.re.some_ (by have := hxen; omega))
      rw [hpl] at hix
      have HIea := Lib.hid hix
      clear hix hpl
      rw [HXa.out] at e0
      replace HS := Lib.hid ((Ev.cell e0).and HS.out)
      clear e0
      rw [HYa.out] at e1
      replace HS := Lib.hid ((Ev.cell e1).and HS.out)
      clear e1
      rw [Hx2.out] at e2
      replace HS := Lib.hid ((Ev.cell e2).and HS.out)
      clear e2
      obtain ⟨ebb, ebo, hpl, e0, e1, e2⟩ := rd3 (HS.out.now).2.2.2.2.1.re ye hyel
      have hix := fun wx => run_indexS (P := Try.prog) wx 25 41 iE 3 Try.underlying25 hiE hsE a2 n2 d2 ye hyen ((HS.out.now).2.2.2.2.1.re.some_ (by have := hyen; omega))
      rw [hpl] at hix
      have HIeb := Lib.hid hix
      clear hix hpl
      rw [HXb.out] at e0
      replace HS := Lib.hid ((Ev.cell e0).and HS.out)
      clear e0
      rw [HYb.out] at e1
      replace HS := Lib.hid ((Ev.cell e1).and HS.out)
      clear e1
      rw [Hy2.out] at e2
      replace HS := Lib.hid ((Ev.cell e2).and HS.out)
      clear e2
      obtain ⟨fab, fao, hpl, e0, e1⟩ := rd2 (HS.out.now).2.2.2.2.2.2.2.1.rn px hpa
      have hix := fun wx => run_indexS (P := Try.prog) wx 24 70 iN 2 Try.underlying24 hiN hsN a1 n1 d1 px hpna ((HS.out.now).2.2.2.2.2.2.2.1.rn.some_ (by have := hpna; omega))
      rw [hpl] at hix
      have HIfa := Lib.hid hix
      clear hix hpl
      rw [Hu0.out] at e0
      replace HS := Lib.hid ((Ev.cell e0).and HS.out)
      clear e0
      rw [Hu1.out] at e1
      replace HS := Lib.hid ((Ev.cell e1).and HS.out)
      clear e1
      obtain ⟨gab, gao, hpl, e0, e1⟩ := rd2 (HS.out.now).2.2.2.2.2.2.2.2.2.1.rn py hqa
      have hix := fun wx => run_indexS (P := Try.prog) wx 24 70 iN 2 Try.underlying24 hiN hsN a1 n1 d1 py hqna ((HS.out.now).2.2.2.2.2.2.2.2.2.1.rn.some_ (by have := hqna; omega))
      rw [hpl] at hix
      have HIga := Lib.hid hix
      clear hix hpl
      rw [Hv0.out] at e0
      replace HS := Lib.hid ((Ev.cell e0).and HS.out)
      clear e0
      rw [Hv1.out] at e1
      replace HS := Lib.hid ((Ev.cell e1).and HS.out)
      clear e1
      obtain ⟨fbb, fbo, hpl, e0, e1⟩ := rd2 (HS.out.now).2.2.2.2.2.2.2.2.2.2.2.1.rn qx hpb
      have hix := fun wx => run_indexS (P := Try.prog) wx 24 70 iN 2 Try.underlying24 hiN hsN a1 n1 d1 qx hpnb ((HS.out.now).2.2.2.2.2.2.2.2.2.2.2.1.rn.some_ (by have := hpnb; omega))
      rw [hpl] at hix
      have HIfb := Lib.hid hix
      clear hix hpl
      rw [Hr0.out] at e0
      replace HS := Lib.hid ((Ev.cell e0).and HS.out)
      clear e0
      rw [Hr1.out] at e1
      replace HS := Lib.hid ((Ev.cell e1).and HS.out)
      clear e1
      obtain ⟨gbb, gbo, hpl, e0, e1⟩ := rd2 (HS.out.now).2.2.2.2.2.2.2.2.2.2.2.2.2.1.rn qy hqb
      have hix := fun wx => run_indexS (P := Try.prog) wx 24 70 iN 2 Try.underlying24 hiN hsN a1 n1 d1 qy hqnb ((HS.out.now).2.2.2.2.2.2.2.2.2.2.2.2.2.1.rn.some_ (by have := hqnb; omega))
      rw [hpl] at hix
      have HIgb := Lib.hid hix
      clear hix hpl
      rw [Hs0.out] at e0
      replace HS := Lib.hid ((Ev.cell e0).and HS.out)
      clear e0
      rw [Hs1.out] at e1
      replace HS := Lib.hid ((Ev.cell e1).and HS.out)
      clear e1
      go_upto_region 3 with fail
      clear qbx_0 qbx_1 qbx_2 lbx
      obtain ⟨B0, hB0⟩ : ∃ n, wq8.heap.size = n := ⟨_, rfl⟩
      have HB0 := Lib.hid hB0
      clear hB0
      have HSd := Lib.hid HS.out.drew
      have hok : (rbn_r3_0_K xe px py u0 u1 v0 v1 a1 a2 n1 d1 n2 d2 bx eab eao fab fao gab gao B0).ok (fun i => rbn_r3_0_D.getD i []) := ⟨show (20 : Nat) ≠ 22 by decide, show (20 : Nat) ≠ 21 by decide, show (20 : Nat) ≠ 23 by decide, show (22 : Nat) ≠ 21 by decide, show (22 : Nat) ≠ 23 by decide, show (21 : Nat) ≠ 23 by decide, show 20 ∈ rbn_r3_0_D.getD 22 [] by decide, show 21 ∈ rbn_r3_0_D.getD 23 [] by decide⟩
      have HOK := Lib.hid hok
      clear hok
      refine wp_region_two (act := ?actrbn_r3_0) (rbn_r3_0_K xe px py u0 u1 v0 v1 a1 a2 n1 d1 n2 d2 bx eab eao fab fao gab gao B0) (rbn_r3_0_V xe px py u0 u1 v0 v1 a1 a2 n1 d1 n2 d2 bx eab eao fab fao gab gao B0) (fun i => rbn_r3_0_D.getD i []) HOK.out (by kernel_rfl) (by kernel_rfl) (by kernel_rfl) (by kernel_rfl) ?hactrbn_r3_0 ?_ ?_
      case hactrbn_r3_0 => intro vs; simp only [putAll, Nat.zero_add, Nat.reduceAdd, Act.put, List.setIfInBounds_toArray, List.set_cons_succ, List.set_cons_zero]; exact rfl
      · refine opsOkW_cons ?_ ?_
        · intro K vs W L hR hD hC hL hA hK
          replace hR : Mod (fun k => B0 ≤ k) _ _ := hR
          clear hD hC hA
          try dsimp only at hK ⊢
          simp only [Act.put, List.setIfInBounds_toArray, List.set_cons_succ, List.set_cons_zero] at hK
          go_wp2
          exact hK _ _ (twF_of (show (0 : Nat) ≠ 20 by decide) (show (0 : Nat) ≠ 22 by decide) (show (0 : Nat) ≠ 21 by decide) (show (0 : Nat) ≠ 23 by decide) rfl) hL (fun j _ => twA_of (show (0 : Nat) ≠ 20 by decide) (show (0 : Nat) ≠ 21 by decide)) (Mod.refl _ _)
        refine opsOkW_cons ?_ ?_
        · intro K vs W L hR hD hC hL hA hK
          replace hR : Mod (fun k => B0 ≤ k) _ _ := hR
          have dq0 : vs 0 = .pointer (some ⟨bx, 0, none⟩) := twF_val (show (0 : Nat) ≠ 20 by decide) (show (0 : Nat) ≠ 22 by decide) (show (0 : Nat) ≠ 21 by decide) (show (0 : Nat) ≠ 23 by decide) (hL 0 (hD 0 (by decide)))
          clear hD hC hA
          try dsimp only at hK ⊢
          simp only [Act.put, List.setIfInBounds_toArray, List.set_cons_succ, List.set_cons_zero] at hK
          generalize vs 0 = vq0 at hK dq0 ⊢
          subst vq0
          have q0 := ((HSd.out.at ((hR.mono (fun k hk e => by have h := HB0.out; simp at hk; omega)))).2.2.2.2.2.2.2.2.2.2.2.2.2.2.1).cell 0 rfl
          go_wp2
          exact hK _ _ (twF_of (show (1 : Nat) ≠ 20 by decide) (show (1 : Nat) ≠ 22 by decide) (show (1 : Nat) ≠ 21 by decide) (show (1 : Nat) ≠ 23 by decide) rfl) hL (fun j _ => twA_of (show (1 : Nat) ≠ 20 by decide) (show (1 : Nat) ≠ 21 by decide)) (Mod.refl _ _)
        refine opsOkW_cons ?_ ?_
        · intro K vs W L hR hD hC hL hA hK
          replace hR : Mod (fun k => B0 ≤ k) _ _ := hR
          clear hD hC hA
          try dsimp only at hK ⊢
          simp only [Act.put, List.setIfInBounds_toArray, List.set_cons_succ, List.set_cons_zero] at hK
          go_wp2
          exact hK _ _ (twF_of (show (2 : Nat) ≠ 20 by decide) (show (2 : Nat) ≠ 22 by decide) (show (2 : Nat) ≠ 21 by decide) (show (2 : Nat) ≠ 23 by decide) rfl) hL (fun j _ => twA_of (show (2 : Nat) ≠ 20 by decide) (show (2 : Nat) ≠ 21 by decide)) (Mod.refl _ _)
        refine opsOkW_cons ?_ ?_
        · intro K vs W L hR hD hC hL hA hK
          replace hR : Mod (fun k => B0 ≤ k) _ _ := hR
          have dq2 : vs 2 = .pointer (some ⟨bx, 1, none⟩) := twF_val (show (2 : Nat) ≠ 20 by decide) (show (2 : Nat) ≠ 22 by decide) (show (2 : Nat) ≠ 21 by decide) (show (2 : Nat) ≠ 23 by decide) (hL 2 (hD 2 (by decide)))
          clear hD hC hA
          try dsimp only at hK ⊢
          simp only [Act.put, List.setIfInBounds_toArray, List.set_cons_succ, List.set_cons_zero] at hK
          generalize vs 2 = vq2 at hK dq2 ⊢
          subst vq2
          have q0 := ((HSd.out.at ((hR.mono (fun k hk e => by have h := HB0.out; simp at hk; omega)))).2.2.2.2.2.2.2.2.2.2.2.2.2.2.1).cell 1 rfl
          go_wp2
          exact hK _ _ (twF_of (show (3 : Nat) ≠ 20 by decide) (show (3 : Nat) ≠ 22 by decide) (show (3 : Nat) ≠ 21 by decide) (show (3 : Nat) ≠ 23 by decide) rfl) hL (fun j _ => twA_of (show (3 : Nat) ≠ 20 by decide) (show (3 : Nat) ≠ 21 by decide)) (Mod.refl _ _)
        refine opsOkW_cons ?_ ?_
        · intro K vs W L hR hD hC hL hA hK
          replace hR : Mod (fun k => B0 ≤ k) _ _ := hR
          clear hD hC hA
          try dsimp only at hK ⊢
          simp only [Act.put, List.setIfInBounds_toArray, List.set_cons_succ, List.set_cons_zero] at hK
          go_wp2
          exact hK _ _ (twF_of (show (4 : Nat) ≠ 20 by decide) (show (4 : Nat) ≠ 22 by decide) (show (4 : Nat) ≠ 21 by decide) (show (4 : Nat) ≠ 23 by decide) rfl) hL (fun j _ => twA_of (show (4 : Nat) ≠ 20 by decide) (show (4 : Nat) ≠ 21 by decide)) (Mod.refl _ _)
        refine opsOkW_cons ?_ ?_
        · intro K vs W L hR hD hC hL hA hK
          replace hR : Mod (fun k => B0 ≤ k) _ _ := hR
          have dq3 : vs 3 = .slice a2 n2 d2 := twF_val (show (3 : Nat) ≠ 20 by decide) (show (3 : Nat) ≠ 22 by decide) (show (3 : Nat) ≠ 21 by decide) (show (3 : Nat) ≠ 23 by decide) (hL 3 (hD 3 (by decide)))
          have dq4 : vs 4 = .int .i64 (xe : Int) := twF_val (show (4 : Nat) ≠ 20 by decide) (show (4 : Nat) ≠ 22 by decide) (show (4 : Nat) ≠ 21 by decide) (show (4 : Nat) ≠ 23 by decide) (hL 4 (hD 4 (by decide)))
          clear hD hC hA
          try dsimp only at hK ⊢
          simp only [Act.put, List.setIfInBounds_toArray, List.set_cons_succ, List.set_cons_zero] at hK
          generalize vs 3 = vq3 at hK dq3 ⊢
          subst vq3
          generalize vs 4 = vq4 at hK dq4 ⊢
          subst vq4
          have hix := HIea.out
          go_wp2_with fail
          exact hK _ _ (twF_of (show (5 : Nat) ≠ 20 by decide) (show (5 : Nat) ≠ 22 by decide) (show (5 : Nat) ≠ 21 by decide) (show (5 : Nat) ≠ 23 by decide) rfl) hL (fun j _ => twA_of (show (5 : Nat) ≠ 20 by decide) (show (5 : Nat) ≠ 21 by decide)) (Mod.refl _ _)
        refine opsOkW_cons ?_ ?_
        · intro K vs W L hR hD hC hL hA hK
          replace hR : Mod (fun k => B0 ≤ k) _ _ := hR
          have dq5 : vs 5 = .pointer (some ⟨eab, eao, none⟩) := twF_val (show (5 : Nat) ≠ 20 by decide) (show (5 : Nat) ≠ 22 by decide) (show (5 : Nat) ≠ 21 by decide) (show (5 : Nat) ≠ 23 by decide) (hL 5 (hD 5 (by decide)))
          clear hD hC hA
          try dsimp only at hK ⊢
          simp only [Act.put, List.setIfInBounds_toArray, List.set_cons_succ, List.set_cons_zero] at hK
          generalize vs 5 = vq5 at hK dq5 ⊢
          subst vq5
          go_wp2
          exact hK _ _ (twF_of (show (6 : Nat) ≠ 20 by decide) (show (6 : Nat) ≠ 22 by decide) (show (6 : Nat) ≠ 21 by decide) (show (6 : Nat) ≠ 23 by decide) rfl) hL (fun j _ => twA_of (show (6 : Nat) ≠ 20 by decide) (show (6 : Nat) ≠ 21 by decide)) (Mod.refl _ _)
        refine opsOkW_cons ?_ ?_
        · intro K vs W L hR hD hC hL hA hK
          replace hR : Mod (fun k => B0 ≤ k) _ _ := hR
          have dq6 : vs 6 = .pointer (some ⟨eab, eao, none⟩) := twF_val (show (6 : Nat) ≠ 20 by decide) (show (6 : Nat) ≠ 22 by decide) (show (6 : Nat) ≠ 21 by decide) (show (6 : Nat) ≠ 23 by decide) (hL 6 (hD 6 (by decide)))
          clear hD hC hA
          try dsimp only at hK ⊢
          simp only [Act.put, List.setIfInBounds_toArray, List.set_cons_succ, List.set_cons_zero] at hK
          generalize vs 6 = vq6 at hK dq6 ⊢
          subst vq6
          have c0 := (HSd.out.at ((hR.mono (fun k hk e => by have h := HB0.out; simp at hk; omega)))).2.2.2.2.2.2.2.2.2.2.2.2.2.1
          go_wp2
          exact hK _ _ (twF_of (show (7 : Nat) ≠ 20 by decide) (show (7 : Nat) ≠ 22 by decide) (show (7 : Nat) ≠ 21 by decide) (show (7 : Nat) ≠ 23 by decide) rfl) hL (fun j _ => twA_of (show (7 : Nat) ≠ 20 by decide) (show (7 : Nat) ≠ 21 by decide)) (Mod.refl _ _)
        refine opsOkW_cons ?_ ?_
        · intro K vs W L hR hD hC hL hA hK
          replace hR : Mod (fun k => B0 ≤ k) _ _ := hR
          have dq1 : vs 1 = .slice a1 n1 d1 := twF_val (show (1 : Nat) ≠ 20 by decide) (show (1 : Nat) ≠ 22 by decide) (show (1 : Nat) ≠ 21 by decide) (show (1 : Nat) ≠ 23 by decide) (hL 1 (hD 1 (by decide)))
          have dq7 : vs 7 = .int .i64 (px : Int) := twF_val (show (7 : Nat) ≠ 20 by decide) (show (7 : Nat) ≠ 22 by decide) (show (7 : Nat) ≠ 21 by decide) (show (7 : Nat) ≠ 23 by decide) (hL 7 (hD 7 (by decide)))
          clear hD hC hA
          try dsimp only at hK ⊢
          simp only [Act.put, List.setIfInBounds_toArray, List.set_cons_succ, List.set_cons_zero] at hK
          generalize vs 1 = vq1 at hK dq1 ⊢
          subst vq1
          generalize vs 7 = vq7 at hK dq7 ⊢
          subst vq7
          have hix := HIfa.out
          go_wp2_with fail
          exact hK _ _ (twF_of (show (8 : Nat) ≠ 20 by decide) (show (8 : Nat) ≠ 22 by decide) (show (8 : Nat) ≠ 21 by decide) (show (8 : Nat) ≠ 23 by decide) rfl) hL (fun j _ => twA_of (show (8 : Nat) ≠ 20 by decide) (show (8 : Nat) ≠ 21 by decide)) (Mod.refl _ _)
        refine opsOkW_cons ?_ ?_
        · intro K vs W L hR hD hC hL hA hK
          replace hR : Mod (fun k => B0 ≤ k) _ _ := hR
          have dq8 : vs 8 = .pointer (some ⟨fab, fao, none⟩) := twF_val (show (8 : Nat) ≠ 20 by decide) (show (8 : Nat) ≠ 22 by decide) (show (8 : Nat) ≠ 21 by decide) (show (8 : Nat) ≠ 23 by decide) (hL 8 (hD 8 (by decide)))
          clear hD hC hA
          try dsimp only at hK ⊢
          simp only [Act.put, List.setIfInBounds_toArray, List.set_cons_succ, List.set_cons_zero] at hK
          generalize vs 8 = vq8 at hK dq8 ⊢
          subst vq8
          have c0 := (HSd.out.at ((hR.mono (fun k hk e => by have h := HB0.out; simp at hk; omega)))).2.2.2.2.2.2.2.1
          have c1 := (HSd.out.at ((hR.mono (fun k hk e => by have h := HB0.out; simp at hk; omega)))).2.2.2.2.2.2.1
          go_wp2
          exact hK _ _ (twF_of (show (9 : Nat) ≠ 20 by decide) (show (9 : Nat) ≠ 22 by decide) (show (9 : Nat) ≠ 21 by decide) (show (9 : Nat) ≠ 23 by decide) rfl) hL (fun j _ => twA_of (show (9 : Nat) ≠ 20 by decide) (show (9 : Nat) ≠ 21 by decide)) (Mod.refl _ _)
        refine opsOkW_cons ?_ ?_
        · intro K vs W L hR hD hC hL hA hK
          replace hR : Mod (fun k => B0 ≤ k) _ _ := hR
          clear hD hC hA
          try dsimp only at hK ⊢
          simp only [Act.put, List.setIfInBounds_toArray, List.set_cons_succ, List.set_cons_zero] at hK
          go_wp2
          exact hK _ _ (twF_of (show (10 : Nat) ≠ 20 by decide) (show (10 : Nat) ≠ 22 by decide) (show (10 : Nat) ≠ 21 by decide) (show (10 : Nat) ≠ 23 by decide) rfl) hL (fun j _ => twA_of (show (10 : Nat) ≠ 20 by decide) (show (10 : Nat) ≠ 21 by decide)) (Mod.refl _ _)
        refine opsOkW_cons ?_ ?_
        · intro K vs W L hR hD hC hL hA hK
          replace hR : Mod (fun k => B0 ≤ k) _ _ := hR
          have dq10 : vs 10 = .pointer (some ⟨bx, 0, none⟩) := twF_val (show (10 : Nat) ≠ 20 by decide) (show (10 : Nat) ≠ 22 by decide) (show (10 : Nat) ≠ 21 by decide) (show (10 : Nat) ≠ 23 by decide) (hL 10 (hD 10 (by decide)))
          clear hD hC hA
          try dsimp only at hK ⊢
          simp only [Act.put, List.setIfInBounds_toArray, List.set_cons_succ, List.set_cons_zero] at hK
          generalize vs 10 = vq10 at hK dq10 ⊢
          subst vq10
          have q0 := ((HSd.out.at ((hR.mono (fun k hk e => by have h := HB0.out; simp at hk; omega)))).2.2.2.2.2.2.2.2.2.2.2.2.2.2.1).cell 0 rfl
          go_wp2
          exact hK _ _ (twF_of (show (11 : Nat) ≠ 20 by decide) (show (11 : Nat) ≠ 22 by decide) (show (11 : Nat) ≠ 21 by decide) (show (11 : Nat) ≠ 23 by decide) rfl) hL (fun j _ => twA_of (show (11 : Nat) ≠ 20 by decide) (show (11 : Nat) ≠ 21 by decide)) (Mod.refl _ _)
        refine opsOkW_cons ?_ ?_
        · intro K vs W L hR hD hC hL hA hK
          replace hR : Mod (fun k => B0 ≤ k) _ _ := hR
          clear hD hC hA
          try dsimp only at hK ⊢
          simp only [Act.put, List.setIfInBounds_toArray, List.set_cons_succ, List.set_cons_zero] at hK
          go_wp2
          exact hK _ _ (twF_of (show (12 : Nat) ≠ 20 by decide) (show (12 : Nat) ≠ 22 by decide) (show (12 : Nat) ≠ 21 by decide) (show (12 : Nat) ≠ 23 by decide) rfl) hL (fun j _ => twA_of (show (12 : Nat) ≠ 20 by decide) (show (12 : Nat) ≠ 21 by decide)) (Mod.refl _ _)
        refine opsOkW_cons ?_ ?_
        · intro K vs W L hR hD hC hL hA hK
          replace hR : Mod (fun k => B0 ≤ k) _ _ := hR
          have dq12 : vs 12 = .pointer (some ⟨bx, 1, none⟩) := twF_val (show (12 : Nat) ≠ 20 by decide) (show (12 : Nat) ≠ 22 by decide) (show (12 : Nat) ≠ 21 by decide) (show (12 : Nat) ≠ 23 by decide) (hL 12 (hD 12 (by decide)))
          clear hD hC hA
          try dsimp only at hK ⊢
          simp only [Act.put, List.setIfInBounds_toArray, List.set_cons_succ, List.set_cons_zero] at hK
          generalize vs 12 = vq12 at hK dq12 ⊢
          subst vq12
          have q0 := ((HSd.out.at ((hR.mono (fun k hk e => by have h := HB0.out; simp at hk; omega)))).2.2.2.2.2.2.2.2.2.2.2.2.2.2.1).cell 1 rfl
          go_wp2
          exact hK _ _ (twF_of (show (13 : Nat) ≠ 20 by decide) (show (13 : Nat) ≠ 22 by decide) (show (13 : Nat) ≠ 21 by decide) (show (13 : Nat) ≠ 23 by decide) rfl) hL (fun j _ => twA_of (show (13 : Nat) ≠ 20 by decide) (show (13 : Nat) ≠ 21 by decide)) (Mod.refl _ _)
        refine opsOkW_cons ?_ ?_
        · intro K vs W L hR hD hC hL hA hK
          replace hR : Mod (fun k => B0 ≤ k) _ _ := hR
          clear hD hC hA
          try dsimp only at hK ⊢
          simp only [Act.put, List.setIfInBounds_toArray, List.set_cons_succ, List.set_cons_zero] at hK
          go_wp2
          exact hK _ _ (twF_of (show (14 : Nat) ≠ 20 by decide) (show (14 : Nat) ≠ 22 by decide) (show (14 : Nat) ≠ 21 by decide) (show (14 : Nat) ≠ 23 by decide) rfl) hL (fun j _ => twA_of (show (14 : Nat) ≠ 20 by decide) (show (14 : Nat) ≠ 21 by decide)) (Mod.refl _ _)
        refine opsOkW_cons ?_ ?_
        · intro K vs W L hR hD hC hL hA hK
          replace hR : Mod (fun k => B0 ≤ k) _ _ := hR
          have dq13 : vs 13 = .slice a2 n2 d2 := twF_val (show (13 : Nat) ≠ 20 by decide) (show (13 : Nat) ≠ 22 by decide) (show (13 : Nat) ≠ 21 by decide) (show (13 : Nat) ≠ 23 by decide) (hL 13 (hD 13 (by decide)))
          have dq14 : vs 14 = .int .i64 (xe : Int) := twF_val (show (14 : Nat) ≠ 20 by decide) (show (14 : Nat) ≠ 22 by decide) (show (14 : Nat) ≠ 21 by decide) (show (14 : Nat) ≠ 23 by decide) (hL 14 (hD 14 (by decide)))
          clear hD hC hA
          try dsimp only at hK ⊢
          simp only [Act.put, List.setIfInBounds_toArray, List.set_cons_succ, List.set_cons_zero] at hK
          generalize vs 13 = vq13 at hK dq13 ⊢
          subst vq13
          generalize vs 14 = vq14 at hK dq14 ⊢
          subst vq14
          have hix := HIea.out
          go_wp2_with fail
          exact hK _ _ (twF_of (show (15 : Nat) ≠ 20 by decide) (show (15 : Nat) ≠ 22 by decide) (show (15 : Nat) ≠ 21 by decide) (show (15 : Nat) ≠ 23 by decide) rfl) hL (fun j _ => twA_of (show (15 : Nat) ≠ 20 by decide) (show (15 : Nat) ≠ 21 by decide)) (Mod.refl _ _)
        refine opsOkW_cons ?_ ?_
        · intro K vs W L hR hD hC hL hA hK
          replace hR : Mod (fun k => B0 ≤ k) _ _ := hR
          have dq15 : vs 15 = .pointer (some ⟨eab, eao, none⟩) := twF_val (show (15 : Nat) ≠ 20 by decide) (show (15 : Nat) ≠ 22 by decide) (show (15 : Nat) ≠ 21 by decide) (show (15 : Nat) ≠ 23 by decide) (hL 15 (hD 15 (by decide)))
          clear hD hC hA
          try dsimp only at hK ⊢
          simp only [Act.put, List.setIfInBounds_toArray, List.set_cons_succ, List.set_cons_zero] at hK
          generalize vs 15 = vq15 at hK dq15 ⊢
          subst vq15
          go_wp2
          exact hK _ _ (twF_of (show (16 : Nat) ≠ 20 by decide) (show (16 : Nat) ≠ 22 by decide) (show (16 : Nat) ≠ 21 by decide) (show (16 : Nat) ≠ 23 by decide) rfl) hL (fun j _ => twA_of (show (16 : Nat) ≠ 20 by decide) (show (16 : Nat) ≠ 21 by decide)) (Mod.refl _ _)
        refine opsOkW_cons ?_ ?_
        · intro K vs W L hR hD hC hL hA hK
          replace hR : Mod (fun k => B0 ≤ k) _ _ := hR
          have dq16 : vs 16 = .pointer (some ⟨eab, eao + 1, none⟩) := twF_val (show (16 : Nat) ≠ 20 by decide) (show (16 : Nat) ≠ 22 by decide) (show (16 : Nat) ≠ 21 by decide) (show (16 : Nat) ≠ 23 by decide) (hL 16 (hD 16 (by decide)))
          clear hD hC hA
          try dsimp only at hK ⊢
          simp only [Act.put, List.setIfInBounds_toArray, List.set_cons_succ, List.set_cons_zero] at hK
          generalize vs 16 = vq16 at hK dq16 ⊢
          subst vq16
          have c1 := (HSd.out.at ((hR.mono (fun k hk e => by have h := HB0.out; simp at hk; omega)))).2.2.2.2.2.2.2.2.2.2.2.2.1
          go_wp2
          exact hK _ _ (twF_of (show (17 : Nat) ≠ 20 by decide) (show (17 : Nat) ≠ 22 by decide) (show (17 : Nat) ≠ 21 by decide) (show (17 : Nat) ≠ 23 by decide) rfl) hL (fun j _ => twA_of (show (17 : Nat) ≠ 20 by decide) (show (17 : Nat) ≠ 21 by decide)) (Mod.refl _ _)
        refine opsOkW_cons ?_ ?_
        · intro K vs W L hR hD hC hL hA hK
          replace hR : Mod (fun k => B0 ≤ k) _ _ := hR
          have dq11 : vs 11 = .slice a1 n1 d1 := twF_val (show (11 : Nat) ≠ 20 by decide) (show (11 : Nat) ≠ 22 by decide) (show (11 : Nat) ≠ 21 by decide) (show (11 : Nat) ≠ 23 by decide) (hL 11 (hD 11 (by decide)))
          have dq17 : vs 17 = .int .i64 (py : Int) := twF_val (show (17 : Nat) ≠ 20 by decide) (show (17 : Nat) ≠ 22 by decide) (show (17 : Nat) ≠ 21 by decide) (show (17 : Nat) ≠ 23 by decide) (hL 17 (hD 17 (by decide)))
          clear hD hC hA
          try dsimp only at hK ⊢
          simp only [Act.put, List.setIfInBounds_toArray, List.set_cons_succ, List.set_cons_zero] at hK
          generalize vs 11 = vq11 at hK dq11 ⊢
          subst vq11
          generalize vs 17 = vq17 at hK dq17 ⊢
          subst vq17
          have hix := HIga.out
          go_wp2_with fail
          exact hK _ _ (twF_of (show (18 : Nat) ≠ 20 by decide) (show (18 : Nat) ≠ 22 by decide) (show (18 : Nat) ≠ 21 by decide) (show (18 : Nat) ≠ 23 by decide) rfl) hL (fun j _ => twA_of (show (18 : Nat) ≠ 20 by decide) (show (18 : Nat) ≠ 21 by decide)) (Mod.refl _ _)
        refine opsOkW_cons ?_ ?_
        · intro K vs W L hR hD hC hL hA hK
          replace hR : Mod (fun k => B0 ≤ k) _ _ := hR
          have dq18 : vs 18 = .pointer (some ⟨gab, gao, none⟩) := twF_val (show (18 : Nat) ≠ 20 by decide) (show (18 : Nat) ≠ 22 by decide) (show (18 : Nat) ≠ 21 by decide) (show (18 : Nat) ≠ 23 by decide) (hL 18 (hD 18 (by decide)))
          clear hD hC hA
          try dsimp only at hK ⊢
          simp only [Act.put, List.setIfInBounds_toArray, List.set_cons_succ, List.set_cons_zero] at hK
          generalize vs 18 = vq18 at hK dq18 ⊢
          subst vq18
          have c0 := (HSd.out.at ((hR.mono (fun k hk e => by have h := HB0.out; simp at hk; omega)))).2.2.2.2.2.1
          have c1 := (HSd.out.at ((hR.mono (fun k hk e => by have h := HB0.out; simp at hk; omega)))).2.2.2.2.1
          go_wp2
          exact hK _ _ (twF_of (show (19 : Nat) ≠ 20 by decide) (show (19 : Nat) ≠ 22 by decide) (show (19 : Nat) ≠ 21 by decide) (show (19 : Nat) ≠ 23 by decide) rfl) hL (fun j _ => twA_of (show (19 : Nat) ≠ 20 by decide) (show (19 : Nat) ≠ 21 by decide)) (Mod.refl _ _)
        refine opsOkW_cons ?_ ?_
        · intro K vs W L hR hD hC hL hA hK
          replace hR : Mod (fun k => B0 ≤ k) _ _ := hR
          clear hD hC hA
          try dsimp only at hK ⊢
          simp only [Act.put, List.setIfInBounds_toArray, List.set_cons_succ, List.set_cons_zero] at hK
          have hz : B0 ≤ W.heap.size := by have h := HB0.out; have h2 := hR.size; simp at h2; omega
          obtain ⟨f1, f2, f3⟩ := twF_makeM HOK.out hz L hL (Mod.alloc (fun _ => False) W _) (Blk.new W 70 [.int .i64 0, .int .i64 0])
          go_wp2
          exact hK _ _ f1 f2 f3 (Mod.alloc _ _ _)
        refine opsOkW_cons ?_ ?_
        · intro K vs W L hR hD hC hL hA hK
          replace hR : Mod (fun k => B0 ≤ k) _ _ := hR
          clear hD hC hA
          try dsimp only at hK ⊢
          simp only [Act.put, List.setIfInBounds_toArray, List.set_cons_succ, List.set_cons_zero] at hK
          have hz : B0 ≤ W.heap.size := by have h := HB0.out; have h2 := hR.size; simp at h2; omega
          obtain ⟨f1, f2, f3⟩ := twF_makeN HOK.out hz L hL (Mod.alloc (fun _ => False) W _) (Blk.new W 70 [.int .i64 0, .int .i64 0])
          go_wp2
          exact hK _ _ f1 f2 f3 (Mod.alloc _ _ _)
        refine opsOkW_cons ?_ ?_
        · intro K vs W L hR hD hC hL hA hK
          replace hR : Mod (fun k => B0 ≤ k) _ _ := hR
          obtain ⟨bb, hvb, hB, hbl⟩ := twF_m (hL 20 (hD 20 (by decide)))
          have dq9 : vs 9 = .agg #[.int .i64 u0, .int .i64 u1] := twF_val (show (9 : Nat) ≠ 20 by decide) (show (9 : Nat) ≠ 22 by decide) (show (9 : Nat) ≠ 21 by decide) (show (9 : Nat) ≠ 23 by decide) (hL 9 (hD 9 (by decide)))
          try dsimp only at hK ⊢
          simp only [Act.put, List.setIfInBounds_toArray, List.set_cons_succ, List.set_cons_zero] at hK
          rw [dq9] at hK ⊢
          replace hvb : vs 20 = .pointer (some ⟨bb, 0, none⟩) := hvb
          have hv2 := hvb
          rw [hvb] at hK ⊢
          rcases hbl with hbl | hbl
          all_goals
            have c0 := hbl.cell 0 rfl
            have c1 := hbl.cell 1 rfl
            have f0 := hbl.free 0
            have f1 := hbl.free 1
            have hmd : Mod (fun k => k = bb) W (World.setCell (World.setCell (W) ⟨bb, 0, none⟩ (.int .i64 u0)) ⟨bb, 1, none⟩ (.int .i64 u1)) := ((Mod.setCell (F := fun k => k = bb) (W) ⟨bb, 0, none⟩ (.int .i64 u0) rfl).trans (Mod.setCell (F := fun k => k = bb) (World.setCell (W) ⟨bb, 0, none⟩ (.int .i64 u0)) ⟨bb, 1, none⟩ (.int .i64 u1) rfl) (fun _ _ e => e) (fun _ _ e => e))
            have hbq : Blk (World.setCell (World.setCell (W) ⟨bb, 0, none⟩ (.int .i64 u0)) ⟨bb, 1, none⟩ (.int .i64 u1)) bb 70 [.int .i64 u0, .int .i64 u1] := ((hbl.set 0 (.int .i64 u0)).set 1 (.int .i64 u1))
            have hff := twF_fillM (v := undef) HOK.out hv2 hB L (hD 20 (by decide)) hC hL hA hmd hbq
            have hms : Mod (fun k => B0 ≤ k) W (World.setCell (World.setCell (W) ⟨bb, 0, none⟩ (.int .i64 u0)) ⟨bb, 1, none⟩ (.int .i64 u1)) := hmd.mono (fun k _ e => by rw [e]; exact hB)
            have HFF := Lib.hid hff
            have HMS := Lib.hid hms
            clear hff hms hmd hbq hC hL hA hD
            go_wp2
            exact hK undef _ HFF.out.1 HFF.out.2 (fun j _ => twA_of (show (22 : Nat) ≠ 20 by decide) (show (22 : Nat) ≠ 21 by decide)) HMS.out
        refine opsOkW_cons ?_ ?_
        · intro K vs W L hR hD hC hL hA hK
          replace hR : Mod (fun k => B0 ≤ k) _ _ := hR
          obtain ⟨bb, hvb, hB, hbl⟩ := twF_n HOK.out (hL 21 (hD 21 (by decide)))
          have dq19 : vs 19 = .agg #[.int .i64 v0, .int .i64 v1] := twF_val (show (19 : Nat) ≠ 20 by decide) (show (19 : Nat) ≠ 22 by decide) (show (19 : Nat) ≠ 21 by decide) (show (19 : Nat) ≠ 23 by decide) (hL 19 (hD 19 (by decide)))
          try dsimp only at hK ⊢
          simp only [Act.put, List.setIfInBounds_toArray, List.set_cons_succ, List.set_cons_zero] at hK
          rw [dq19] at hK ⊢
          replace hvb : vs 21 = .pointer (some ⟨bb, 0, none⟩) := hvb
          have hv2 := hvb
          rw [hvb] at hK ⊢
          rcases hbl with hbl | hbl
          all_goals
            have c0 := hbl.cell 0 rfl
            have c1 := hbl.cell 1 rfl
            have f0 := hbl.free 0
            have f1 := hbl.free 1
            have hmd : Mod (fun k => k = bb) W (World.setCell (World.setCell (W) ⟨bb, 0, none⟩ (.int .i64 v0)) ⟨bb, 1, none⟩ (.int .i64 v1)) := ((Mod.setCell (F := fun k => k = bb) (W) ⟨bb, 0, none⟩ (.int .i64 v0) rfl).trans (Mod.setCell (F := fun k => k = bb) (World.setCell (W) ⟨bb, 0, none⟩ (.int .i64 v0)) ⟨bb, 1, none⟩ (.int .i64 v1) rfl) (fun _ _ e => e) (fun _ _ e => e))
            have hbq : Blk (World.setCell (World.setCell (W) ⟨bb, 0, none⟩ (.int .i64 v0)) ⟨bb, 1, none⟩ (.int .i64 v1)) bb 70 [.int .i64 v0, .int .i64 v1] := ((hbl.set 0 (.int .i64 v0)).set 1 (.int .i64 v1))
            have hff := twF_fillN (v := undef) HOK.out hv2 hB L (hD 21 (by decide)) hC hL hA hmd hbq
            have hms : Mod (fun k => B0 ≤ k) W (World.setCell (World.setCell (W) ⟨bb, 0, none⟩ (.int .i64 v0)) ⟨bb, 1, none⟩ (.int .i64 v1)) := hmd.mono (fun k _ e => by rw [e]; exact hB)
            have HFF := Lib.hid hff
            have HMS := Lib.hid hms
            clear hff hms hmd hbq hC hL hA hD
            go_wp2
            exact hK undef _ HFF.out.1 HFF.out.2 (fun j _ => twA_of (show (23 : Nat) ≠ 20 by decide) (show (23 : Nat) ≠ 21 by decide)) HMS.out
        exact opsOkW_nil
      · intro vs wq9 hR hF hAp
        replace hR : Mod (fun k => B0 ≤ k) _ _ := hR
        clear hAp
        obtain ⟨ba, hvb, _, hbl⟩ := twF_s HOK.out (hF 22 (by decide))
        obtain ⟨bb_, hvc, _, hbm⟩ := twF_t HOK.out (hF 23 (by decide))
        replace hvb : vs 20 = .pointer (some ⟨ba, 0, none⟩) := hvb
        replace hvc : vs 21 = .pointer (some ⟨bb_, 0, none⟩) := hvc
        clear hF
        try dsimp only
        rw [hvb, hvc]
        replace HS := Lib.hid (HSd.out.step (hR.mono (fun k hk e => by have h := HB0.out; simp at hk; omega)))
        clear HSd hR hvb hvc HOK
        replace HS := Lib.hid ((Ev.blk hbl).and HS.out)
        replace HS := Lib.hid ((Ev.blk hbm).and HS.out)
        clear hbl hbm
        have hbbx := (HS.out.now).2.2.2.2.2.2.2.2.2.2.2.2.2.2.2.2.1
        have qbx_0 := hbbx.cell 0 rfl
        have qbx_1 := hbbx.cell 1 rfl
        have qbx_2 := hbbx.cell 2 rfl
        have lbx := hbbx.lt
        clear hbbx
        have hbba := (HS.out.now).2.1
        have qba_0 := hbba.cell 0 rfl
        have qba_1 := hbba.cell 1 rfl
        have lba := hbba.lt
        clear hbba
        have hbbb_ := (HS.out.now).1
        have qbb__0 := hbbb_.cell 0 rfl
        have qbb__1 := hbbb_.cell 1 rfl
        have lbb_ := hbbb_.lt
        clear hbbb_
        clear HB0
        go_upto_region 4 with fail
        clear qbx_0 qbx_1 qbx_2 lbx qba_0 qba_1 lba qbb__0 qbb__1 lbb_
        obtain ⟨B0, hB0⟩ : ∃ n, wq9.heap.size = n := ⟨_, rfl⟩
        have HB0 := Lib.hid hB0
        clear hB0
        have HSd := Lib.hid HS.out.drew
        have hok : (rbn_r4_1_K ye qx qy r0 r1 s0 s1 a1 a2 n1 d1 n2 d2 bx ebb ebo fbb fbo gbb gbo B0).ok (fun i => rbn_r4_1_D.getD i []) := ⟨show (20 : Nat) ≠ 22 by decide, show (20 : Nat) ≠ 21 by decide, show (20 : Nat) ≠ 23 by decide, show (22 : Nat) ≠ 21 by decide, show (22 : Nat) ≠ 23 by decide, show (21 : Nat) ≠ 23 by decide, show 20 ∈ rbn_r4_1_D.getD 22 [] by decide, show 21 ∈ rbn_r4_1_D.getD 23 [] by decide⟩
        have HOK := Lib.hid hok
        clear hok
        refine wp_region_two (act := ?actrbn_r4_1) (rbn_r4_1_K ye qx qy r0 r1 s0 s1 a1 a2 n1 d1 n2 d2 bx ebb ebo fbb fbo gbb gbo B0) (rbn_r4_1_V ye qx qy r0 r1 s0 s1 a1 a2 n1 d1 n2 d2 bx ebb ebo fbb fbo gbb gbo B0) (fun i => rbn_r4_1_D.getD i []) HOK.out (by kernel_rfl) (by kernel_rfl) (by kernel_rfl) (by kernel_rfl) ?hactrbn_r4_1 ?_ ?_
        case hactrbn_r4_1 => intro vs; simp only [putAll, Nat.zero_add, Nat.reduceAdd, Act.put, List.setIfInBounds_toArray, List.set_cons_succ, List.set_cons_zero]; exact rfl
        · refine opsOkW_cons ?_ ?_
          · intro K vs W L hR hD hC hL hA hK
            replace hR : Mod (fun k => B0 ≤ k) _ _ := hR
            clear hD hC hA
            try dsimp only at hK ⊢
            simp only [Act.put, List.setIfInBounds_toArray, List.set_cons_succ, List.set_cons_zero] at hK
            go_wp2
            exact hK _ _ (twF_of (show (0 : Nat) ≠ 20 by decide) (show (0 : Nat) ≠ 22 by decide) (show (0 : Nat) ≠ 21 by decide) (show (0 : Nat) ≠ 23 by decide) rfl) hL (fun j _ => twA_of (show (0 : Nat) ≠ 20 by decide) (show (0 : Nat) ≠ 21 by decide)) (Mod.refl _ _)
          refine opsOkW_cons ?_ ?_
          · intro K vs W L hR hD hC hL hA hK
            replace hR : Mod (fun k => B0 ≤ k) _ _ := hR
            have dq0 : vs 0 = .pointer (some ⟨bx, 0, none⟩) := twF_val (show (0 : Nat) ≠ 20 by decide) (show (0 : Nat) ≠ 22 by decide) (show (0 : Nat) ≠ 21 by decide) (show (0 : Nat) ≠ 23 by decide) (hL 0 (hD 0 (by decide)))
            clear hD hC hA
            try dsimp only at hK ⊢
            simp only [Act.put, List.setIfInBounds_toArray, List.set_cons_succ, List.set_cons_zero] at hK
            generalize vs 0 = vq0 at hK dq0 ⊢
            subst vq0
            have q0 := ((HSd.out.at ((hR.mono (fun k hk e => by have h := HB0.out; simp at hk; omega)))).2.2.2.2.2.2.2.2.2.2.2.2.2.2.2.2.1).cell 0 rfl
            go_wp2
            exact hK _ _ (twF_of (show (1 : Nat) ≠ 20 by decide) (show (1 : Nat) ≠ 22 by decide) (show (1 : Nat) ≠ 21 by decide) (show (1 : Nat) ≠ 23 by decide) rfl) hL (fun j _ => twA_of (show (1 : Nat) ≠ 20 by decide) (show (1 : Nat) ≠ 21 by decide)) (Mod.refl _ _)
          refine opsOkW_cons ?_ ?_
          · intro K vs W L hR hD hC hL hA hK
            replace hR : Mod (fun k => B0 ≤ k) _ _ := hR
            clear hD hC hA
            try dsimp only at hK ⊢
            simp only [Act.put, List.setIfInBounds_toArray, List.set_cons_succ, List.set_cons_zero] at hK
            go_wp2
            exact hK _ _ (twF_of (show (2 : Nat) ≠ 20 by decide) (show (2 : Nat) ≠ 22 by decide) (show (2 : Nat) ≠ 21 by decide) (show (2 : Nat) ≠ 23 by decide) rfl) hL (fun j _ => twA_of (show (2 : Nat) ≠ 20 by decide) (show (2 : Nat) ≠ 21 by decide)) (Mod.refl _ _)
          refine opsOkW_cons ?_ ?_
          · intro K vs W L hR hD hC hL hA hK
            replace hR : Mod (fun k => B0 ≤ k) _ _ := hR
            have dq2 : vs 2 = .pointer (some ⟨bx, 1, none⟩) := twF_val (show (2 : Nat) ≠ 20 by decide) (show (2 : Nat) ≠ 22 by decide) (show (2 : Nat) ≠ 21 by decide) (show (2 : Nat) ≠ 23 by decide) (hL 2 (hD 2 (by decide)))
            clear hD hC hA
            try dsimp only at hK ⊢
            simp only [Act.put, List.setIfInBounds_toArray, List.set_cons_succ, List.set_cons_zero] at hK
            generalize vs 2 = vq2 at hK dq2 ⊢
            subst vq2
            have q0 := ((HSd.out.at ((hR.mono (fun k hk e => by have h := HB0.out; simp at hk; omega)))).2.2.2.2.2.2.2.2.2.2.2.2.2.2.2.2.1).cell 1 rfl
            go_wp2
            exact hK _ _ (twF_of (show (3 : Nat) ≠ 20 by decide) (show (3 : Nat) ≠ 22 by decide) (show (3 : Nat) ≠ 21 by decide) (show (3 : Nat) ≠ 23 by decide) rfl) hL (fun j _ => twA_of (show (3 : Nat) ≠ 20 by decide) (show (3 : Nat) ≠ 21 by decide)) (Mod.refl _ _)
          refine opsOkW_cons ?_ ?_
          · intro K vs W L hR hD hC hL hA hK
            replace hR : Mod (fun k => B0 ≤ k) _ _ := hR
            clear hD hC hA
            try dsimp only at hK ⊢
            simp only [Act.put, List.setIfInBounds_toArray, List.set_cons_succ, List.set_cons_zero] at hK
            go_wp2
            exact hK _ _ (twF_of (show (4 : Nat) ≠ 20 by decide) (show (4 : Nat) ≠ 22 by decide) (show (4 : Nat) ≠ 21 by decide) (show (4 : Nat) ≠ 23 by decide) rfl) hL (fun j _ => twA_of (show (4 : Nat) ≠ 20 by decide) (show (4 : Nat) ≠ 21 by decide)) (Mod.refl _ _)
          refine opsOkW_cons ?_ ?_
          · intro K vs W L hR hD hC hL hA hK
            replace hR : Mod (fun k => B0 ≤ k) _ _ := hR
            have dq3 : vs 3 = .slice a2 n2 d2 := twF_val (show (3 : Nat) ≠ 20 by decide) (show (3 : Nat) ≠ 22 by decide) (show (3 : Nat) ≠ 21 by decide) (show (3 : Nat) ≠ 23 by decide) (hL 3 (hD 3 (by decide)))
            have dq4 : vs 4 = .int .i64 (ye : Int) := twF_val (show (4 : Nat) ≠ 20 by decide) (show (4 : Nat) ≠ 22 by decide) (show (4 : Nat) ≠ 21 by decide) (show (4 : Nat) ≠ 23 by decide) (hL 4 (hD 4 (by decide)))
            clear hD hC hA
            try dsimp only at hK ⊢
            simp only [Act.put, List.setIfInBounds_toArray, List.set_cons_succ, List.set_cons_zero] at hK
            generalize vs 3 = vq3 at hK dq3 ⊢
            subst vq3
            generalize vs 4 = vq4 at hK dq4 ⊢
            subst vq4
            have hix := HIeb.out
            go_wp2_with fail
            exact hK _ _ (twF_of (show (5 : Nat) ≠ 20 by decide) (show (5 : Nat) ≠ 22 by decide) (show (5 : Nat) ≠ 21 by decide) (show (5 : Nat) ≠ 23 by decide) rfl) hL (fun j _ => twA_of (show (5 : Nat) ≠ 20 by decide) (show (5 : Nat) ≠ 21 by decide)) (Mod.refl _ _)
          refine opsOkW_cons ?_ ?_
          · intro K vs W L hR hD hC hL hA hK
            replace hR : Mod (fun k => B0 ≤ k) _ _ := hR
            have dq5 : vs 5 = .pointer (some ⟨ebb, ebo, none⟩) := twF_val (show (5 : Nat) ≠ 20 by decide) (show (5 : Nat) ≠ 22 by decide) (show (5 : Nat) ≠ 21 by decide) (show (5 : Nat) ≠ 23 by decide) (hL 5 (hD 5 (by decide)))
            clear hD hC hA
            try dsimp only at hK ⊢
            simp only [Act.put, List.setIfInBounds_toArray, List.set_cons_succ, List.set_cons_zero] at hK
            generalize vs 5 = vq5 at hK dq5 ⊢
            subst vq5
            go_wp2
            exact hK _ _ (twF_of (show (6 : Nat) ≠ 20 by decide) (show (6 : Nat) ≠ 22 by decide) (show (6 : Nat) ≠ 21 by decide) (show (6 : Nat) ≠ 23 by decide) rfl) hL (fun j _ => twA_of (show (6 : Nat) ≠ 20 by decide) (show (6 : Nat) ≠ 21 by decide)) (Mod.refl _ _)
          refine opsOkW_cons ?_ ?_
          · intro K vs W L hR hD hC hL hA hK
            replace hR : Mod (fun k => B0 ≤ k) _ _ := hR
            have dq6 : vs 6 = .pointer (some ⟨ebb, ebo, none⟩) := twF_val (show (6 : Nat) ≠ 20 by decide) (show (6 : Nat) ≠ 22 by decide) (show (6 : Nat) ≠ 21 by decide) (show (6 : Nat) ≠ 23 by decide) (hL 6 (hD 6 (by decide)))
            clear hD hC hA
            try dsimp only at hK ⊢
            simp only [Act.put, List.setIfInBounds_toArray, List.set_cons_succ, List.set_cons_zero] at hK
            generalize vs 6 = vq6 at hK dq6 ⊢
            subst vq6
            have c0 := (HSd.out.at ((hR.mono (fun k hk e => by have h := HB0.out; simp at hk; omega)))).2.2.2.2.2.2.2.2.2.2.2.2.1
            go_wp2
            exact hK _ _ (twF_of (show (7 : Nat) ≠ 20 by decide) (show (7 : Nat) ≠ 22 by decide) (show (7 : Nat) ≠ 21 by decide) (show (7 : Nat) ≠ 23 by decide) rfl) hL (fun j _ => twA_of (show (7 : Nat) ≠ 20 by decide) (show (7 : Nat) ≠ 21 by decide)) (Mod.refl _ _)
          refine opsOkW_cons ?_ ?_
          · intro K vs W L hR hD hC hL hA hK
            replace hR : Mod (fun k => B0 ≤ k) _ _ := hR
            have dq1 : vs 1 = .slice a1 n1 d1 := twF_val (show (1 : Nat) ≠ 20 by decide) (show (1 : Nat) ≠ 22 by decide) (show (1 : Nat) ≠ 21 by decide) (show (1 : Nat) ≠ 23 by decide) (hL 1 (hD 1 (by decide)))
            have dq7 : vs 7 = .int .i64 (qx : Int) := twF_val (show (7 : Nat) ≠ 20 by decide) (show (7 : Nat) ≠ 22 by decide) (show (7 : Nat) ≠ 21 by decide) (show (7 : Nat) ≠ 23 by decide) (hL 7 (hD 7 (by decide)))
            clear hD hC hA
            try dsimp only at hK ⊢
            simp only [Act.put, List.setIfInBounds_toArray, List.set_cons_succ, List.set_cons_zero] at hK
            generalize vs 1 = vq1 at hK dq1 ⊢
            subst vq1
            generalize vs 7 = vq7 at hK dq7 ⊢
            subst vq7
            have hix := HIfb.out
            go_wp2_with fail
            exact hK _ _ (twF_of (show (8 : Nat) ≠ 20 by decide) (show (8 : Nat) ≠ 22 by decide) (show (8 : Nat) ≠ 21 by decide) (show (8 : Nat) ≠ 23 by decide) rfl) hL (fun j _ => twA_of (show (8 : Nat) ≠ 20 by decide) (show (8 : Nat) ≠ 21 by decide)) (Mod.refl _ _)
          refine opsOkW_cons ?_ ?_
          · intro K vs W L hR hD hC hL hA hK
            replace hR : Mod (fun k => B0 ≤ k) _ _ := hR
            have dq8 : vs 8 = .pointer (some ⟨fbb, fbo, none⟩) := twF_val (show (8 : Nat) ≠ 20 by decide) (show (8 : Nat) ≠ 22 by decide) (show (8 : Nat) ≠ 21 by decide) (show (8 : Nat) ≠ 23 by decide) (hL 8 (hD 8 (by decide)))
            clear hD hC hA
            try dsimp only at hK ⊢
            simp only [Act.put, List.setIfInBounds_toArray, List.set_cons_succ, List.set_cons_zero] at hK
            generalize vs 8 = vq8 at hK dq8 ⊢
            subst vq8
            have c0 := (HSd.out.at ((hR.mono (fun k hk e => by have h := HB0.out; simp at hk; omega)))).2.2.2.2.2.1
            have c1 := (HSd.out.at ((hR.mono (fun k hk e => by have h := HB0.out; simp at hk; omega)))).2.2.2.2.1
            go_wp2
            exact hK _ _ (twF_of (show (9 : Nat) ≠ 20 by decide) (show (9 : Nat) ≠ 22 by decide) (show (9 : Nat) ≠ 21 by decide) (show (9 : Nat) ≠ 23 by decide) rfl) hL (fun j _ => twA_of (show (9 : Nat) ≠ 20 by decide) (show (9 : Nat) ≠ 21 by decide)) (Mod.refl _ _)
          refine opsOkW_cons ?_ ?_
          · intro K vs W L hR hD hC hL hA hK
            replace hR : Mod (fun k => B0 ≤ k) _ _ := hR
            clear hD hC hA
            try dsimp only at hK ⊢
            simp only [Act.put, List.setIfInBounds_toArray, List.set_cons_succ, List.set_cons_zero] at hK
            go_wp2
            exact hK _ _ (twF_of (show (10 : Nat) ≠ 20 by decide) (show (10 : Nat) ≠ 22 by decide) (show (10 : Nat) ≠ 21 by decide) (show (10 : Nat) ≠ 23 by decide) rfl) hL (fun j _ => twA_of (show (10 : Nat) ≠ 20 by decide) (show (10 : Nat) ≠ 21 by decide)) (Mod.refl _ _)
          refine opsOkW_cons ?_ ?_
          · intro K vs W L hR hD hC hL hA hK
            replace hR : Mod (fun k => B0 ≤ k) _ _ := hR
            have dq10 : vs 10 = .pointer (some ⟨bx, 0, none⟩) := twF_val (show (10 : Nat) ≠ 20 by decide) (show (10 : Nat) ≠ 22 by decide) (show (10 : Nat) ≠ 21 by decide) (show (10 : Nat) ≠ 23 by decide) (hL 10 (hD 10 (by decide)))
            clear hD hC hA
            try dsimp only at hK ⊢
            simp only [Act.put, List.setIfInBounds_toArray, List.set_cons_succ, List.set_cons_zero] at hK
            generalize vs 10 = vq10 at hK dq10 ⊢
            subst vq10
            have q0 := ((HSd.out.at ((hR.mono (fun k hk e => by have h := HB0.out; simp at hk; omega)))).2.2.2.2.2.2.2.2.2.2.2.2.2.2.2.2.1).cell 0 rfl
            go_wp2
            exact hK _ _ (twF_of (show (11 : Nat) ≠ 20 by decide) (show (11 : Nat) ≠ 22 by decide) (show (11 : Nat) ≠ 21 by decide) (show (11 : Nat) ≠ 23 by decide) rfl) hL (fun j _ => twA_of (show (11 : Nat) ≠ 20 by decide) (show (11 : Nat) ≠ 21 by decide)) (Mod.refl _ _)
          refine opsOkW_cons ?_ ?_
          · intro K vs W L hR hD hC hL hA hK
            replace hR : Mod (fun k => B0 ≤ k) _ _ := hR
            clear hD hC hA
            try dsimp only at hK ⊢
            simp only [Act.put, List.setIfInBounds_toArray, List.set_cons_succ, List.set_cons_zero] at hK
            go_wp2
            exact hK _ _ (twF_of (show (12 : Nat) ≠ 20 by decide) (show (12 : Nat) ≠ 22 by decide) (show (12 : Nat) ≠ 21 by decide) (show (12 : Nat) ≠ 23 by decide) rfl) hL (fun j _ => twA_of (show (12 : Nat) ≠ 20 by decide) (show (12 : Nat) ≠ 21 by decide)) (Mod.refl _ _)
          refine opsOkW_cons ?_ ?_
          · intro K vs W L hR hD hC hL hA hK
            replace hR : Mod (fun k => B0 ≤ k) _ _ := hR
            have dq12 : vs 12 = .pointer (some ⟨bx, 1, none⟩) := twF_val (show (12 : Nat) ≠ 20 by decide) (show (12 : Nat) ≠ 22 by decide) (show (12 : Nat) ≠ 21 by decide) (show (12 : Nat) ≠ 23 by decide) (hL 12 (hD 12 (by decide)))
            clear hD hC hA
            try dsimp only at hK ⊢
            simp only [Act.put, List.setIfInBounds_toArray, List.set_cons_succ, List.set_cons_zero] at hK
            generalize vs 12 = vq12 at hK dq12 ⊢
            subst vq12
            have q0 := ((HSd.out.at ((hR.mono (fun k hk e => by have h := HB0.out; simp at hk; omega)))).2.2.2.2.2.2.2.2.2.2.2.2.2.2.2.2.1).cell 1 rfl
            go_wp2
            exact hK _ _ (twF_of (show (13 : Nat) ≠ 20 by decide) (show (13 : Nat) ≠ 22 by decide) (show (13 : Nat) ≠ 21 by decide) (show (13 : Nat) ≠ 23 by decide) rfl) hL (fun j _ => twA_of (show (13 : Nat) ≠ 20 by decide) (show (13 : Nat) ≠ 21 by decide)) (Mod.refl _ _)
          refine opsOkW_cons ?_ ?_
          · intro K vs W L hR hD hC hL hA hK
            replace hR : Mod (fun k => B0 ≤ k) _ _ := hR
            clear hD hC hA
            try dsimp only at hK ⊢
            simp only [Act.put, List.setIfInBounds_toArray, List.set_cons_succ, List.set_cons_zero] at hK
            go_wp2
            exact hK _ _ (twF_of (show (14 : Nat) ≠ 20 by decide) (show (14 : Nat) ≠ 22 by decide) (show (14 : Nat) ≠ 21 by decide) (show (14 : Nat) ≠ 23 by decide) rfl) hL (fun j _ => twA_of (show (14 : Nat) ≠ 20 by decide) (show (14 : Nat) ≠ 21 by decide)) (Mod.refl _ _)
          refine opsOkW_cons ?_ ?_
          · intro K vs W L hR hD hC hL hA hK
            replace hR : Mod (fun k => B0 ≤ k) _ _ := hR
            have dq13 : vs 13 = .slice a2 n2 d2 := twF_val (show (13 : Nat) ≠ 20 by decide) (show (13 : Nat) ≠ 22 by decide) (show (13 : Nat) ≠ 21 by decide) (show (13 : Nat) ≠ 23 by decide) (hL 13 (hD 13 (by decide)))
            have dq14 : vs 14 = .int .i64 (ye : Int) := twF_val (show (14 : Nat) ≠ 20 by decide) (show (14 : Nat) ≠ 22 by decide) (show (14 : Nat) ≠ 21 by decide) (show (14 : Nat) ≠ 23 by decide) (hL 14 (hD 14 (by decide)))
            clear hD hC hA
            try dsimp only at hK ⊢
            simp only [Act.put, List.setIfInBounds_toArray, List.set_cons_succ, List.set_cons_zero] at hK
            generalize vs 13 = vq13 at hK dq13 ⊢
            subst vq13
            generalize vs 14 = vq14 at hK dq14 ⊢
            subst vq14
            have hix := HIeb.out
            go_wp2_with fail
            exact hK _ _ (twF_of (show (15 : Nat) ≠ 20 by decide) (show (15 : Nat) ≠ 22 by decide) (show (15 : Nat) ≠ 21 by decide) (show (15 : Nat) ≠ 23 by decide) rfl) hL (fun j _ => twA_of (show (15 : Nat) ≠ 20 by decide) (show (15 : Nat) ≠ 21 by decide)) (Mod.refl _ _)
          refine opsOkW_cons ?_ ?_
          · intro K vs W L hR hD hC hL hA hK
            replace hR : Mod (fun k => B0 ≤ k) _ _ := hR
            have dq15 : vs 15 = .pointer (some ⟨ebb, ebo, none⟩) := twF_val (show (15 : Nat) ≠ 20 by decide) (show (15 : Nat) ≠ 22 by decide) (show (15 : Nat) ≠ 21 by decide) (show (15 : Nat) ≠ 23 by decide) (hL 15 (hD 15 (by decide)))
            clear hD hC hA
            try dsimp only at hK ⊢
            simp only [Act.put, List.setIfInBounds_toArray, List.set_cons_succ, List.set_cons_zero] at hK
            generalize vs 15 = vq15 at hK dq15 ⊢
            subst vq15
            go_wp2
            exact hK _ _ (twF_of (show (16 : Nat) ≠ 20 by decide) (show (16 : Nat) ≠ 22 by decide) (show (16 : Nat) ≠ 21 by decide) (show (16 : Nat) ≠ 23 by decide) rfl) hL (fun j _ => twA_of (show (16 : Nat) ≠ 20 by decide) (show (16 : Nat) ≠ 21 by decide)) (Mod.refl _ _)
          refine opsOkW_cons ?_ ?_
          · intro K vs W L hR hD hC hL hA hK
            replace hR : Mod (fun k => B0 ≤ k) _ _ := hR
            have dq16 : vs 16 = .pointer (some ⟨ebb, ebo + 1, none⟩) := twF_val (show (16 : Nat) ≠ 20 by decide) (show (16 : Nat) ≠ 22 by decide) (show (16 : Nat) ≠ 21 by decide) (show (16 : Nat) ≠ 23 by decide) (hL 16 (hD 16 (by decide)))
            clear hD hC hA
            try dsimp only at hK ⊢
            simp only [Act.put, List.setIfInBounds_toArray, List.set_cons_succ, List.set_cons_zero] at hK
            generalize vs 16 = vq16 at hK dq16 ⊢
            subst vq16
            have c1 := (HSd.out.at ((hR.mono (fun k hk e => by have h := HB0.out; simp at hk; omega)))).2.2.2.2.2.2.2.2.2.2.2.1
            go_wp2
            exact hK _ _ (twF_of (show (17 : Nat) ≠ 20 by decide) (show (17 : Nat) ≠ 22 by decide) (show (17 : Nat) ≠ 21 by decide) (show (17 : Nat) ≠ 23 by decide) rfl) hL (fun j _ => twA_of (show (17 : Nat) ≠ 20 by decide) (show (17 : Nat) ≠ 21 by decide)) (Mod.refl _ _)
          refine opsOkW_cons ?_ ?_
          · intro K vs W L hR hD hC hL hA hK
            replace hR : Mod (fun k => B0 ≤ k) _ _ := hR
            have dq11 : vs 11 = .slice a1 n1 d1 := twF_val (show (11 : Nat) ≠ 20 by decide) (show (11 : Nat) ≠ 22 by decide) (show (11 : Nat) ≠ 21 by decide) (show (11 : Nat) ≠ 23 by decide) (hL 11 (hD 11 (by decide)))
            have dq17 : vs 17 = .int .i64 (qy : Int) := twF_val (show (17 : Nat) ≠ 20 by decide) (show (17 : Nat) ≠ 22 by decide) (show (17 : Nat) ≠ 21 by decide) (show (17 : Nat) ≠ 23 by decide) (hL 17 (hD 17 (by decide)))
            clear hD hC hA
            try dsimp only at hK ⊢
            simp only [Act.put, List.setIfInBounds_toArray, List.set_cons_succ, List.set_cons_zero] at hK
            generalize vs 11 = vq11 at hK dq11 ⊢
            subst vq11
            generalize vs 17 = vq17 at hK dq17 ⊢
            subst vq17
            have hix := HIgb.out
            go_wp2_with fail
            exact hK _ _ (twF_of (show (18 : Nat) ≠ 20 by decide) (show (18 : Nat) ≠ 22 by decide) (show (18 : Nat) ≠ 21 by decide) (show (18 : Nat) ≠ 23 by decide) rfl) hL (fun j _ => twA_of (show (18 : Nat) ≠ 20 by decide) (show (18 : Nat) ≠ 21 by decide)) (Mod.refl _ _)
          refine opsOkW_cons ?_ ?_
          · intro K vs W L hR hD hC hL hA hK
            replace hR : Mod (fun k => B0 ≤ k) _ _ := hR
            have dq18 : vs 18 = .pointer (some ⟨gbb, gbo, none⟩) := twF_val (show (18 : Nat) ≠ 20 by decide) (show (18 : Nat) ≠ 22 by decide) (show (18 : Nat) ≠ 21 by decide) (show (18 : Nat) ≠ 23 by decide) (hL 18 (hD 18 (by decide)))
            clear hD hC hA
            try dsimp only at hK ⊢
            simp only [Act.put, List.setIfInBounds_toArray, List.set_cons_succ, List.set_cons_zero] at hK
            generalize vs 18 = vq18 at hK dq18 ⊢
            subst vq18
            have c0 := (HSd.out.at ((hR.mono (fun k hk e => by have h := HB0.out; simp at hk; omega)))).2.2.2.1
            have c1 := (HSd.out.at ((hR.mono (fun k hk e => by have h := HB0.out; simp at hk; omega)))).2.2.1
            go_wp2
            exact hK _ _ (twF_of (show (19 : Nat) ≠ 20 by decide) (show (19 : Nat) ≠ 22 by decide) (show (19 : Nat) ≠ 21 by decide) (show (19 : Nat) ≠ 23 by decide) rfl) hL (fun j _ => twA_of (show (19 : Nat) ≠ 20 by decide) (show (19 : Nat) ≠ 21 by decide)) (Mod.refl _ _)
          refine opsOkW_cons ?_ ?_
          · intro K vs W L hR hD hC hL hA hK
            replace hR : Mod (fun k => B0 ≤ k) _ _ := hR
            clear hD hC hA
            try dsimp only at hK ⊢
            simp only [Act.put, List.setIfInBounds_toArray, List.set_cons_succ, List.set_cons_zero] at hK
            have hz : B0 ≤ W.heap.size := by have h := HB0.out; have h2 := hR.size; simp at h2; omega
            obtain ⟨f1, f2, f3⟩ := twF_makeM HOK.out hz L hL (Mod.alloc (fun _ => False) W _) (Blk.new W 70 [.int .i64 0, .int .i64 0])
            go_wp2
            exact hK _ _ f1 f2 f3 (Mod.alloc _ _ _)
          refine opsOkW_cons ?_ ?_
          · intro K vs W L hR hD hC hL hA hK
            replace hR : Mod (fun k => B0 ≤ k) _ _ := hR
            clear hD hC hA
            try dsimp only at hK ⊢
            simp only [Act.put, List.setIfInBounds_toArray, List.set_cons_succ, List.set_cons_zero] at hK
            have hz : B0 ≤ W.heap.size := by have h := HB0.out; have h2 := hR.size; simp at h2; omega
            obtain ⟨f1, f2, f3⟩ := twF_makeN HOK.out hz L hL (Mod.alloc (fun _ => False) W _) (Blk.new W 70 [.int .i64 0, .int .i64 0])
            go_wp2
            exact hK _ _ f1 f2 f3 (Mod.alloc _ _ _)
          refine opsOkW_cons ?_ ?_
          · intro K vs W L hR hD hC hL hA hK
            replace hR : Mod (fun k => B0 ≤ k) _ _ := hR
            obtain ⟨bb, hvb, hB, hbl⟩ := twF_m (hL 20 (hD 20 (by decide)))
            have dq9 : vs 9 = .agg #[.int .i64 r0, .int .i64 r1] := twF_val (show (9 : Nat) ≠ 20 by decide) (show (9 : Nat) ≠ 22 by decide) (show (9 : Nat) ≠ 21 by decide) (show (9 : Nat) ≠ 23 by decide) (hL 9 (hD 9 (by decide)))
            try dsimp only at hK ⊢
            simp only [Act.put, List.setIfInBounds_toArray, List.set_cons_succ, List.set_cons_zero] at hK
            rw [dq9] at hK ⊢
            replace hvb : vs 20 = .pointer (some ⟨bb, 0, none⟩) := hvb
            have hv2 := hvb
            rw [hvb] at hK ⊢
            rcases hbl with hbl | hbl
            all_goals
              have c0 := hbl.cell 0 rfl
              have c1 := hbl.cell 1 rfl
              have f0 := hbl.free 0
              have f1 := hbl.free 1
              have hmd : Mod (fun k => k = bb) W (World.setCell (World.setCell (W) ⟨bb, 0, none⟩ (.int .i64 r0)) ⟨bb, 1, none⟩ (.int .i64 r1)) := ((Mod.setCell (F := fun k => k = bb) (W) ⟨bb, 0, none⟩ (.int .i64 r0) rfl).trans (Mod.setCell (F := fun k => k = bb) (World.setCell (W) ⟨bb, 0, none⟩ (.int .i64 r0)) ⟨bb, 1, none⟩ (.int .i64 r1) rfl) (fun _ _ e => e) (fun _ _ e => e))
              have hbq : Blk (World.setCell (World.setCell (W) ⟨bb, 0, none⟩ (.int .i64 r0)) ⟨bb, 1, none⟩ (.int .i64 r1)) bb 70 [.int .i64 r0, .int .i64 r1] := ((hbl.set 0 (.int .i64 r0)).set 1 (.int .i64 r1))
              have hff := twF_fillM (v := undef) HOK.out hv2 hB L (hD 20 (by decide)) hC hL hA hmd hbq
              have hms : Mod (fun k => B0 ≤ k) W (World.setCell (World.setCell (W) ⟨bb, 0, none⟩ (.int .i64 r0)) ⟨bb, 1, none⟩ (.int .i64 r1)) := hmd.mono (fun k _ e => by rw [e]; exact hB)
              have HFF := Lib.hid hff
              have HMS := Lib.hid hms
              clear hff hms hmd hbq hC hL hA hD
              go_wp2
              exact hK undef _ HFF.out.1 HFF.out.2 (fun j _ => twA_of (show (22 : Nat) ≠ 20 by decide) (show (22 : Nat) ≠ 21 by decide)) HMS.out
          refine opsOkW_cons ?_ ?_
          · intro K vs W L hR hD hC hL hA hK
            replace hR : Mod (fun k => B0 ≤ k) _ _ := hR
            obtain ⟨bb, hvb, hB, hbl⟩ := twF_n HOK.out (hL 21 (hD 21 (by decide)))
            have dq19 : vs 19 = .agg #[.int .i64 s0, .int .i64 s1] := twF_val (show (19 : Nat) ≠ 20 by decide) (show (19 : Nat) ≠ 22 by decide) (show (19 : Nat) ≠ 21 by decide) (show (19 : Nat) ≠ 23 by decide) (hL 19 (hD 19 (by decide)))
            try dsimp only at hK ⊢
            simp only [Act.put, List.setIfInBounds_toArray, List.set_cons_succ, List.set_cons_zero] at hK
            rw [dq19] at hK ⊢
            replace hvb : vs 21 = .pointer (some ⟨bb, 0, none⟩) := hvb
            have hv2 := hvb
            rw [hvb] at hK ⊢
            rcases hbl with hbl | hbl
            all_goals
              have c0 := hbl.cell 0 rfl
              have c1 := hbl.cell 1 rfl
              have f0 := hbl.free 0
              have f1 := hbl.free 1
              have hmd : Mod (fun k => k = bb) W (World.setCell (World.setCell (W) ⟨bb, 0, none⟩ (.int .i64 s0)) ⟨bb, 1, none⟩ (.int .i64 s1)) := ((Mod.setCell (F := fun k => k = bb) (W) ⟨bb, 0, none⟩ (.int .i64 s0) rfl).trans (Mod.setCell (F := fun k => k = bb) (World.setCell (W) ⟨bb, 0, none⟩ (.int .i64 s0)) ⟨bb, 1, none⟩ (.int .i64 s1) rfl) (fun _ _ e => e) (fun _ _ e => e))
              have hbq : Blk (World.setCell (World.setCell (W) ⟨bb, 0, none⟩ (.int .i64 s0)) ⟨bb, 1, none⟩ (.int .i64 s1)) bb 70 [.int .i64 s0, .int .i64 s1] := ((hbl.set 0 (.int .i64 s0)).set 1 (.int .i64 s1))
              have hff := twF_fillN (v := undef) HOK.out hv2 hB L (hD 21 (by decide)) hC hL hA hmd hbq
              have hms : Mod (fun k => B0 ≤ k) W (World.setCell (World.setCell (W) ⟨bb, 0, none⟩ (.int .i64 s0)) ⟨bb, 1, none⟩ (.int .i64 s1)) := hmd.mono (fun k _ e => by rw [e]; exact hB)
              have HFF := Lib.hid hff
              have HMS := Lib.hid hms
              clear hff hms hmd hbq hC hL hA hD
              go_wp2
              exact hK undef _ HFF.out.1 HFF.out.2 (fun j _ => twA_of (show (23 : Nat) ≠ 20 by decide) (show (23 : Nat) ≠ 21 by decide)) HMS.out
          exact opsOkW_nil
        · intro vs wq10 hR hF hAp
          replace hR : Mod (fun k => B0 ≤ k) _ _ := hR
          clear hAp
          obtain ⟨bc, hvb, _, hbl⟩ := twF_s HOK.out (hF 22 (by decide))
          obtain ⟨bd, hvc, _, hbm⟩ := twF_t HOK.out (hF 23 (by decide))
          replace hvb : vs 20 = .pointer (some ⟨bc, 0, none⟩) := hvb
          replace hvc : vs 21 = .pointer (some ⟨bd, 0, none⟩) := hvc
          clear hF
          try dsimp only
          rw [hvb, hvc]
          replace HS := Lib.hid (HSd.out.step (hR.mono (fun k hk e => by have h := HB0.out; simp at hk; omega)))
          clear HSd hR hvb hvc HOK
          replace HS := Lib.hid ((Ev.blk hbl).and HS.out)
          replace HS := Lib.hid ((Ev.blk hbm).and HS.out)
          clear hbl hbm
          have hbbx := (HS.out.now).2.2.2.2.2.2.2.2.2.2.2.2.2.2.2.2.2.2.1
          have qbx_0 := hbbx.cell 0 rfl
          have qbx_1 := hbbx.cell 1 rfl
          have qbx_2 := hbbx.cell 2 rfl
          have lbx := hbbx.lt
          clear hbbx
          have hbba := (HS.out.now).2.2.2.1
          have qba_0 := hbba.cell 0 rfl
          have qba_1 := hbba.cell 1 rfl
          have lba := hbba.lt
          clear hbba
          have hbbb_ := (HS.out.now).2.2.1
          have qbb__0 := hbbb_.cell 0 rfl
          have qbb__1 := hbbb_.cell 1 rfl
          have lbb_ := hbbb_.lt
          clear hbbb_
          have hbbc := (HS.out.now).2.1
          have qbc_0 := hbbc.cell 0 rfl
          have qbc_1 := hbbc.cell 1 rfl
          have lbc := hbbc.lt
          clear hbbc
          have hbbd := (HS.out.now).1
          have qbd_0 := hbbd.cell 0 rfl
          have qbd_1 := hbbd.cell 1 rfl
          have lbd := hbbd.lt
          clear hbbd
          go_wp2_with fail
          refine (rclass_any (v0 - u0) (v1 - u1) (s0 - r0) (s1 - r1) _).mono ?_
          rintro e wq11 ⟨rfl, hmm⟩
          replace HS := Lib.hid (HS.out.step hmm)
          clear hmm
          clear qbx_0 qbx_1 qbx_2 lbx qba_0 qba_1 lba qbb__0 qbb__1 lbb_ qbc_0 qbc_1 lbc qbd_0 qbd_1 lbd
          go_wp2_with fail
          go_ret
          exact ⟨by rw [HR.out]; rfl, (HS.out.now).2.2.2.2.2.2.2.2.2.2.2.2.2.2.2.2.2.2.2.2⟩
end Go.Proofs.Ytagmnkobigecnaa
