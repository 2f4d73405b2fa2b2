/- Nets: rows, Copy, by contract. -/
import Derived.Test.YtjjedebjbgpimaaGreatNet8
namespace Go.Proofs.YtjjedebjbgpimaaGreat
open Go.RowKit Mile
set_option maxRecDepth 100000
def RowsP (T E : TypeId) (size n : Nat) (len : Nat → Nat) (xs : Nat → List Value) (w : World) (e : Ending) (w' : World) : Prop :=
  ∃ (b : Nat) (oa : Nat → Option Addr) (oc : Nat → Nat), e = .returned (.slice (some ⟨b, 0, none⟩) n n) ∧ w.heap.size ≤ b ∧ Blk w' b T ((List.range n).map fun v => .slice (oa v) (len v) (oc v)) ∧ (∀ v, v < n → w'.ownsRow w.heap.size E size (.slice (oa v) (len v) (oc v)) (len v) (xs v)) ∧ (∀ u v, u < n → v < n → u ≠ v → ∀ k, (Value.slice (oa u) 0 0).ownBlock = some k → (Value.slice (oa v) 0 0).ownBlock ≠ some k) ∧ Mod (fun _ => False) w w'

set_option maxHeartbeats 1000000 in
theorem cloneI_any (w : World) (a : Option Addr) (n c : Nat) (xs : List Int) (hn : xs.length = n) (hrd : Rd w 1 (.slice a n c) n (xs.map (Value.int .i64))) (hbd : n ≤ 1000000) :
    Calls Tryz.prog 115 #[.slice a n c] w (NewR 3 1 n (xs.map (Value.int .i64)) w) := by
  obtain ⟨i0, hi, hz0, hz1, hz2⟩ := info_parts Nt.infoI
  have heq := fun (wx : World) a n c => Lib.run_eql_slice_nil (P := Tryz.prog) wx 40 3 a n c 0 0 Tryz.underlying40
  have h1c := int_oneN xs
  have hm1 : 0 + n ≤ maxLen := by unfold maxLen; omega
  have hm2 : (0 + n) * 8 ≤ 140737488355328 := by omega
  have HX := Lib.hid hn
  clear hn
  cases a with
  | none =>
    have hz : n = 0 ∧ c = 0 := by obtain ⟨_, a', c', he, _, _, h3, _⟩ := hrd; cases he; exact h3 rfl
    obtain ⟨rfl, rfl⟩ := hz
    have hx0 : xs = [] := List.eq_nil_of_length_eq_zero HX.out
    subst hx0
    go_enter Tryz.func115, Tryz.ntmps115
    go_wp2
    go_ret
    exact ⟨_, _, rfl, World.ownsRow_nil _ _ _ _, Mod.refl _ _⟩
  | some ad =>
    go_enter Tryz.func115, Tryz.ntmps115
    have hown : (w.alloc (.cells #[] 3)).ownsRow 0 3 1 (.slice (some ⟨w.heap.size, 0, none⟩) 0 0) 0 [] := World.ownsRow_made w #[] 0 (Nat.zero_le _) (Nat.zero_le _) rfl
    go_wp2_with (at_builtin; refine wpList_append_any rfl (.tmp 5) (.tmp 6) 40 rfl 3 i0 (.int .i64 0) 1 8 Tryz.underlying40 hi hz0 hz1 hz2 rfl (by decide) _ 0 [] rfl hown _ n (xs.map (Value.int .i64)) rfl (hrd.alloc _) h1c hm1 hm2 ?_; intro v' w' hap)
    go_ret
    obtain ⟨a1, k1, hf⟩ := hap.form
    have ho := hap.own
    have hm := hap.mod
    have hr := hap.row
    simp only [Nat.zero_add, List.nil_append] at ho hf
    subst hf
    refine ⟨a1, k1, rfl, Own.rebase ho (fun k hk => ?_), (Mod.alloc _ w _).trans hm (fun _ _ e => e) (fun i hi e => ?_)⟩
    · rcases hr k hk with h | h
      · have e : w.heap.size = k := Option.some.inj h
        omega
      · have e : (w.alloc (.cells #[] 3)).heap.size = w.heap.size + 1 := by simp
        omega
    · have e' : w.heap.size = i := Option.some.inj e
      omega

set_option maxHeartbeats 8000000 in
theorem rowsA_any (w : World) (ob n : Nat) (oa : Nat → Option Addr) (oc : Nat → Nat) (ro : Nat → List Ar) (hb : Blk w ob 34 ((List.range n).map fun v => .slice (oa v) (ro v).length (oc v))) (hr : ∀ v, v < n → Rd w 4 (.slice (oa v) (ro v).length (oc v)) (ro v).length ((ro v).flatMap c4)) (hl : ∀ v, v < n → (ro v).length ≤ 1000) (hn : n ≤ 1000) :
    Calls Tryz.prog 88 #[.slice (some ⟨ob, 0, none⟩) n n] w fun e w' => RowsP 34 50 4 n (fun v => (ro v).length) (fun v => (ro v).flatMap c4) w e w' := by
  obtain ⟨iS, hiS, hzS, hsS, hbS⟩ := info_parts Nt.infoSA
  have hmk := fun wx => run_makeSlice (P := Tryz.prog) (w := wx) 88 34 iS _ Tryz.underlying88 hiS hzS .i64 .i64 (n : Int) (n : Int) (by omega) (by omega) (by rw [hsS]; omega) (by rw [hbS]; omega) (by omega)
  simp only [Int.toNat_natCast, hsS, Nat.mul_one] at hmk
  obtain ⟨g, hg⟩ : ∃ y, w.heap.size = y := ⟨_, rfl⟩
  have HIX := Lib.hid (fun (bb k : Nat) (hk : k < n) wx => by have hh := run_indexS (P := Tryz.prog) wx 88 34 iS 1 Tryz.underlying88 hiS hsS (some ⟨bb, 0, none⟩) n n k hk (by simp); rw [elemA_lit] at hh; exact hh)
  have HB := Lib.hid hb
  have HR := Lib.hid hr
  have HL := Lib.hid hl
  have hgb : ob < g := by rw [← hg]; exact hb.lt
  have HGB := Lib.hid hgb
  clear hb hr hl hgb
  go_enter Tryz.func88, Tryz.ntmps88
  go_upto_region 2 with fail
  try simp only [Nat.mul_one]
  obtain ⟨w1, hw1⟩ : ∃ y, w.alloc (.cells (madeCells #[Value.slice none 0 0] n) 34) = y := ⟨_, rfl⟩
  have hm1 : Mod (fun _ => False) w w1 := by rw [← hw1]; exact Mod.alloc _ _ _
  have hb1 : Blk w1 g 34 ((List.range n).map fun v => if v < 0 then .slice none 0 0 else .slice none 0 0) := by
    have h1 := Blk.new w 34 (madeCells #[Value.slice none 0 0] n).toList
    rw [hg] at h1
    have h2 : (madeCells #[Value.slice none 0 0] n).toList = (List.range n).map fun v => if v < 0 then Value.slice none 0 0 else Value.slice none 0 0 := by
      rw [show (madeCells #[Value.slice none 0 0] n).toList = List.replicate n (Value.slice none 0 0) from zrow_toList _ _]
      apply List.ext_getElem <;> simp
    rw [h2] at h1
    rw [← hw1]
    have h3 : (((List.range n).map fun v => if v < 0 then Value.slice none 0 0 else Value.slice none 0 0).toArray) = madeCells #[Value.slice none 0 0] n := by rw [← h2]
    rw [h3] at h1
    exact h1
  (try rw [hw1])
  (try rw [hg])
  have HM1 := Lib.hid hm1
  have HB1 := Lib.hid hb1
  clear hw1 hm1 hb1 hmk
  go_wp2_with fail
  go_loopw [11] (fun jv wr => ∃ (k : Nat) (oa' : Nat → Option Addr) (oc' : Nat → Nat), jv = .int .i64 (k : Int) ∧ k ≤ n ∧ Blk wr g 34 ((List.range n).map fun v => if v < k then .slice (oa' v) (ro v).length (oc' v) else .slice none 0 0) ∧ (∀ v, v < k → wr.ownsRow (g + 1) 50 4 (.slice (oa' v) (ro v).length (oc' v)) (ro v).length ((ro v).flatMap c4)) ∧ (∀ u v, u < k → v < k → u ≠ v → ∀ j, (Value.slice (oa' u) 0 0).ownBlock = some j → (Value.slice (oa' v) 0 0).ownBlock ≠ some j) ∧ g + 1 ≤ wr.heap.size ∧ Mod (fun _ => False) w wr) (fun jv _ => n - (intOf jv).toNat)
  case atStart => exact ⟨0, fun _ => none, fun _ => 0, rfl, Nat.zero_le _, by have h1 := HB1.out; simpa using h1, fun v hv => absurd hv (Nat.not_lt_zero _), fun u v hu => absurd hu (Nat.not_lt_zero _), HB1.out.lt, HM1.out⟩
  case round =>
    obtain ⟨k, oa1, oc1, rfl, hk, hbk, how, hap, hsz, hmd⟩ := hrel
    obtain ⟨w2, hw2⟩ : ∃ x : World, x = wr := ⟨_, rfl⟩
    subst hw2
    by_cases hkn : k < n
    case neg =>
      obtain rfl : k = n := by omega
      have z0 : decide ((k : Int) < (k : Int)) = false := by simp
      have HBK := Lib.hid hbk
      have HOW := Lib.hid how
      have HAP := Lib.hid hap
      have HMD := Lib.hid hmd
      clear hbk how hap hmd
      go_wp2_with fail
      go_ret
      refine ⟨g, oa1, oc1, rfl, Nat.le_of_eq hg, ?_, fun v hv => Own.base (HOW.out v hv) (by omega), HAP.out, HMD.out⟩
      have h1 := HBK.out
      have h2 : ((List.range k).map fun v => if v < k then Value.slice (oa1 v) (ro v).length (oc1 v) else .slice none 0 0) = (List.range k).map fun v => Value.slice (oa1 v) (ro v).length (oc1 v) := List.map_congr_left fun v hv => by rw [if_pos (List.mem_range.1 hv)]
      rw [h2] at h1
      exact h1
    case pos =>
      have z0 : decide ((k : Int) < (n : Int)) = true := by simp; omega
      have hob := HB.out.keep hmd (fun e => e)
      have yob := hob.cell k (by rw [List.getElem?_map, List.getElem?_range hkn]; rfl)
      have hix := HIX.out ob k hkn
      have hiy := HIX.out g k hkn
      have hk1 : IntKind.i64.wrap ((k : Int) + 1) = ((k + 1 : Nat) : Int) := by rw [IntWalk.i64_in _ (by omega)]; omega
      have hcl := cloneA_any w2 (oa k) (ro k).length (oc k) (ro k) rfl ((HR.out k hkn).keep hmd (fun _ _ e => e)) (by have := HL.out k hkn; omega)
      obtain ⟨ln, hln⟩ : ∃ x, (ro k).length = x := ⟨_, rfl⟩
      simp only [hln] at yob hcl
      have HLN := Lib.hid hln
      have HCL := Lib.hid hcl
      have HK1 := Lib.hid hk1
      have HBK := Lib.hid hbk
      have HOW := Lib.hid how
      have HAP := Lib.hid hap
      have HMD := Lib.hid hmd
      clear hob hcl hk1 hbk how hap hmd hln
      go_wp2_with fail
      refine HCL.out.mono ?_
      rintro e w3 ⟨a2, c2, rfl, ho2, hm2⟩
      have hb3 := HBK.out.keep hm2 (fun e => e)
      have ylt := hb3.lt
      have yff := hb3.free k
      have yog := hb3.cell k (by rw [List.getElem?_map, List.getElem?_range hkn]; rfl)
      have hset := hb3.set k (.slice a2 ln c2)
      rw [range_set] at hset
      have hms : Mod (fun j => j = g) w3 (w3.setCell ⟨g, k, none⟩ (.slice a2 ln c2)) := Mod.setCell _ _ _ rfl
      have hx : upN (fun v => if v < k then Value.slice (oa1 v) (ro v).length (oc1 v) else .slice none 0 0) k (.slice a2 ln c2) = fun v => if v < k + 1 then Value.slice (upN oa1 k a2 v) (ro v).length (upN oc1 k c2 v) else .slice none 0 0 := funext fun v => by
        by_cases hv : v = k
        · subst hv; rw [upN_at, if_pos (by omega), upN_at, upN_at, HLN.out]
        · rw [upN_ne _ _ hv, upN_ne _ _ hv, upN_ne _ _ hv]
          by_cases h1 : v < k
          · rw [if_pos h1, if_pos (by omega)]
          · rw [if_neg h1, if_neg (by omega)]
      rw [hx] at hset
      have how3 : ∀ v, v < k + 1 → (w3.setCell ⟨g, k, none⟩ (.slice a2 ln c2)).ownsRow (g + 1) 50 4 (.slice (upN oa1 k a2 v) (ro v).length (upN oc1 k c2 v)) (ro v).length ((ro v).flatMap c4) := fun v hv => by
        by_cases hvk : v = k
        · subst hvk
          rw [upN_at, upN_at, HLN.out]
          exact Own.keep (Own.base ho2 hsz) hms (fun j hj e => by have h7 := (ho2.lt j hj).1; omega)
        · rw [upN_ne _ _ hvk, upN_ne _ _ hvk]
          have h5 := HOW.out v (by omega)
          exact Own.keep (Own.keep h5 hm2 (fun _ _ e => e)) hms (fun j hj e => by have h7 := (h5.lt j hj).1; omega)
      have hap3 : ∀ u v, u < k + 1 → v < k + 1 → u ≠ v → ∀ j, (Value.slice (upN oa1 k a2 u) 0 0).ownBlock = some j → (Value.slice (upN oa1 k a2 v) 0 0).ownBlock ≠ some j := fun u v hu hv huv j hj e => by
        by_cases h1 : u = k
        · subst h1
          rw [upN_at] at hj
          rw [upN_ne _ _ (fun e => huv e.symm)] at e
          have h7 := (ho2.lt j (by rw [← hj]; exact own_slice _ _ _ _ _)).1
          have h8 := ((HOW.out v (by omega)).lt j (by rw [← e]; exact own_slice _ _ _ _ _)).2
          omega
        · rw [upN_ne _ _ h1] at hj
          by_cases h2 : v = k
          · subst h2
            rw [upN_at] at e
            have h7 := (ho2.lt j (by rw [← e]; exact own_slice _ _ _ _ _)).1
            have h8 := ((HOW.out u (by omega)).lt j (by rw [← hj]; exact own_slice _ _ _ _ _)).2
            omega
          · rw [upN_ne _ _ h2] at e
            exact HAP.out u v (by omega) (by omega) huv j hj e
      have hsz3 : g + 1 ≤ (w3.setCell ⟨g, k, none⟩ (.slice a2 ln c2)).heap.size := Nat.le_trans hsz (Nat.le_trans hm2.size hms.size)
      have hmd3 : Mod (fun _ => False) w (w3.setCell ⟨g, k, none⟩ (.slice a2 ln c2)) := (HMD.out.of2 hm2).trans hms (fun _ _ e => e) (fun j hj e => by omega)
      have HSET := Lib.hid (And.intro hset (And.intro how3 (And.intro hap3 (And.intro hsz3 hmd3))))
      have hk1 := HK1.out
      clear hb3 hset hms hx how3 hap3 hsz3 hmd3 ho2 hm2 yob hix
      go_wp2_with fail
      go_roundw
      case rel => exact ⟨k + 1, _, _, rfl, by omega, HSET.out⟩
      case measure => simp [intOf]; omega

set_option maxHeartbeats 8000000 in
theorem rowsI_any (w : World) (ob n : Nat) (oa : Nat → Option Addr) (oc : Nat → Nat) (ro : Nat → List Int) (hb : Blk w ob 40 ((List.range n).map fun v => .slice (oa v) (ro v).length (oc v))) (hr : ∀ v, v < n → Rd w 1 (.slice (oa v) (ro v).length (oc v)) (ro v).length ((ro v).map (Value.int .i64))) (hl : ∀ v, v < n → (ro v).length ≤ 1000) (hn : n ≤ 1000) :
    Calls Tryz.prog 89 #[.slice (some ⟨ob, 0, none⟩) n n] w fun e w' => RowsP 40 3 1 n (fun v => (ro v).length) (fun v => (ro v).map (Value.int .i64)) w e w' := by
  obtain ⟨iS, hiS, hzS, hsS, hbS⟩ := info_parts Nt.infoSI
  have hmk := fun wx => run_makeSlice (P := Tryz.prog) (w := wx) 89 40 iS _ Tryz.underlying89 hiS hzS .i64 .i64 (n : Int) (n : Int) (by omega) (by omega) (by rw [hsS]; omega) (by rw [hbS]; omega) (by omega)
  simp only [Int.toNat_natCast, hsS, Nat.mul_one] at hmk
  obtain ⟨g, hg⟩ : ∃ y, w.heap.size = y := ⟨_, rfl⟩
  have HIX := Lib.hid (fun (bb k : Nat) (hk : k < n) wx => by have hh := run_indexS (P := Tryz.prog) wx 89 40 iS 1 Tryz.underlying89 hiS hsS (some ⟨bb, 0, none⟩) n n k hk (by simp); rw [elemA_lit] at hh; exact hh)
  have HB := Lib.hid hb
  have HR := Lib.hid hr
  have HL := Lib.hid hl
  have hgb : ob < g := by rw [← hg]; exact hb.lt
  have HGB := Lib.hid hgb
  clear hb hr hl hgb
  go_enter Tryz.func89, Tryz.ntmps89
  go_upto_region 2 with fail
  try simp only [Nat.mul_one]
  obtain ⟨w1, hw1⟩ : ∃ y, w.alloc (.cells (madeCells #[Value.slice none 0 0] n) 40) = y := ⟨_, rfl⟩
  have hm1 : Mod (fun _ => False) w w1 := by rw [← hw1]; exact Mod.alloc _ _ _
  have hb1 : Blk w1 g 40 ((List.range n).map fun v => if v < 0 then .slice none 0 0 else .slice none 0 0) := by
    have h1 := Blk.new w 40 (madeCells #[Value.slice none 0 0] n).toList
    rw [hg] at h1
    have h2 : (madeCells #[Value.slice none 0 0] n).toList = (List.range n).map fun v => if v < 0 then Value.slice none 0 0 else Value.slice none 0 0 := by
      rw [show (madeCells #[Value.slice none 0 0] n).toList = List.replicate n (Value.slice none 0 0) from zrow_toList _ _]
      apply List.ext_getElem <;> simp
    rw [h2] at h1
    rw [← hw1]
    have h3 : (((List.range n).map fun v => if v < 0 then Value.slice none 0 0 else Value.slice none 0 0).toArray) = madeCells #[Value.slice none 0 0] n := by rw [← h2]
    rw [h3] at h1
    exact h1
  (try rw [hw1])
  (try rw [hg])
  have HM1 := Lib.hid hm1
  have HB1 := Lib.hid hb1
  clear hw1 hm1 hb1 hmk
  go_wp2_with fail
  go_loopw [11] (fun jv wr => ∃ (k : Nat) (oa' : Nat → Option Addr) (oc' : Nat → Nat), jv = .int .i64 (k : Int) ∧ k ≤ n ∧ Blk wr g 40 ((List.range n).map fun v => if v < k then .slice (oa' v) (ro v).length (oc' v) else .slice none 0 0) ∧ (∀ v, v < k → wr.ownsRow (g + 1) 3 1 (.slice (oa' v) (ro v).length (oc' v)) (ro v).length ((ro v).map (Value.int .i64))) ∧ (∀ u v, u < k → v < k → u ≠ v → ∀ j, (Value.slice (oa' u) 0 0).ownBlock = some j → (Value.slice (oa' v) 0 0).ownBlock ≠ some j) ∧ g + 1 ≤ wr.heap.size ∧ Mod (fun _ => False) w wr) (fun jv _ => n - (intOf jv).toNat)
  case atStart => exact ⟨0, fun _ => none, fun _ => 0, rfl, Nat.zero_le _, by have h1 := HB1.out; simpa using h1, fun v hv => absurd hv (Nat.not_lt_zero _), fun u v hu => absurd hu (Nat.not_lt_zero _), HB1.out.lt, HM1.out⟩
  case round =>
    obtain ⟨k, oa1, oc1, rfl, hk, hbk, how, hap, hsz, hmd⟩ := hrel
    obtain ⟨w2, hw2⟩ : ∃ x : World, x = wr := ⟨_, rfl⟩
    subst hw2
    by_cases hkn : k < n
    case neg =>
      obtain rfl : k = n := by omega
      have z0 : decide ((k : Int) < (k : Int)) = false := by simp
      have HBK := Lib.hid hbk
      have HOW := Lib.hid how
      have HAP := Lib.hid hap
      have HMD := Lib.hid hmd
      clear hbk how hap hmd
      go_wp2_with fail
      go_ret
      refine ⟨g, oa1, oc1, rfl, Nat.le_of_eq hg, ?_, fun v hv => Own.base (HOW.out v hv) (by omega), HAP.out, HMD.out⟩
      have h1 := HBK.out
      have h2 : ((List.range k).map fun v => if v < k then Value.slice (oa1 v) (ro v).length (oc1 v) else .slice none 0 0) = (List.range k).map fun v => Value.slice (oa1 v) (ro v).length (oc1 v) := List.map_congr_left fun v hv => by rw [if_pos (List.mem_range.1 hv)]
      rw [h2] at h1
      exact h1
    case pos =>
      have z0 : decide ((k : Int) < (n : Int)) = true := by simp; omega
      have hob := HB.out.keep hmd (fun e => e)
      have yob := hob.cell k (by rw [List.getElem?_map, List.getElem?_range hkn]; rfl)
      have hix := HIX.out ob k hkn
      have hiy := HIX.out g k hkn
      have hk1 : IntKind.i64.wrap ((k : Int) + 1) = ((k + 1 : Nat) : Int) := by rw [IntWalk.i64_in _ (by omega)]; omega
      have hcl := cloneI_any w2 (oa k) (ro k).length (oc k) (ro k) rfl ((HR.out k hkn).keep hmd (fun _ _ e => e)) (by have := HL.out k hkn; omega)
      obtain ⟨ln, hln⟩ : ∃ x, (ro k).length = x := ⟨_, rfl⟩
      simp only [hln] at yob hcl
      have HLN := Lib.hid hln
      have HCL := Lib.hid hcl
      have HK1 := Lib.hid hk1
      have HBK := Lib.hid hbk
      have HOW := Lib.hid how
      have HAP := Lib.hid hap
      have HMD := Lib.hid hmd
      clear hob hcl hk1 hbk how hap hmd hln
      go_wp2_with fail
      refine HCL.out.mono ?_
      rintro e w3 ⟨a2, c2, rfl, ho2, hm2⟩
      have hb3 := HBK.out.keep hm2 (fun e => e)
      have ylt := hb3.lt
      have yff := hb3.free k
      have yog := hb3.cell k (by rw [List.getElem?_map, List.getElem?_range hkn]; rfl)
      have hset := hb3.set k (.slice a2 ln c2)
      rw [range_set] at hset
      have hms : Mod (fun j => j = g) w3 (w3.setCell ⟨g, k, none⟩ (.slice a2 ln c2)) := Mod.setCell _ _ _ rfl
      have hx : upN (fun v => if v < k then Value.slice (oa1 v) (ro v).length (oc1 v) else .slice none 0 0) k (.slice a2 ln c2) = fun v => if v < k + 1 then Value.slice (upN oa1 k a2 v) (ro v).length (upN oc1 k c2 v) else .slice none 0 0 := funext fun v => by
        by_cases hv : v = k
        · subst hv; rw [upN_at, if_pos (by omega), upN_at, upN_at, HLN.out]
        · rw [upN_ne _ _ hv, upN_ne _ _ hv, upN_ne _ _ hv]
          by_cases h1 : v < k
          · rw [if_pos h1, if_pos (by omega)]
          · rw [if_neg h1, if_neg (by omega)]
      rw [hx] at hset
      have how3 : ∀ v, v < k + 1 → (w3.setCell ⟨g, k, none⟩ (.slice a2 ln c2)).ownsRow (g + 1) 3 1 (.slice (upN oa1 k a2 v) (ro v).length (upN oc1 k c2 v)) (ro v).length ((ro v).map (Value.int .i64)) := fun v hv => by
        by_cases hvk : v = k
        · subst hvk
          rw [upN_at, upN_at, HLN.out]
          exact Own.keep (Own.base ho2 hsz) hms (fun j hj e => by have h7 := (ho2.lt j hj).1; omega)
        · rw [upN_ne _ _ hvk, upN_ne _ _ hvk]
          have h5 := HOW.out v (by omega)
          exact Own.keep (Own.keep h5 hm2 (fun _ _ e => e)) hms (fun j hj e => by have h7 := (h5.lt j hj).1; omega)
      have hap3 : ∀ u v, u < k + 1 → v < k + 1 → u ≠ v → ∀ j, (Value.slice (upN oa1 k a2 u) 0 0).ownBlock = some j → (Value.slice (upN oa1 k a2 v) 0 0).ownBlock ≠ some j := fun u v hu hv huv j hj e => by
        by_cases h1 : u = k
        · subst h1
          rw [upN_at] at hj
          rw [upN_ne _ _ (fun e => huv e.symm)] at e
          have h7 := (ho2.lt j (by rw [← hj]; exact own_slice _ _ _ _ _)).1
          have h8 := ((HOW.out v (by omega)).lt j (by rw [← e]; exact own_slice _ _ _ _ _)).2
          omega
        · rw [upN_ne _ _ h1] at hj
          by_cases h2 : v = k
          · subst h2
            rw [upN_at] at e
            have h7 := (ho2.lt j (by rw [← e]; exact own_slice _ _ _ _ _)).1
            have h8 := ((HOW.out u (by omega)).lt j (by rw [← hj]; exact own_slice _ _ _ _ _)).2
            omega
          · rw [upN_ne _ _ h2] at e
            exact HAP.out u v (by omega) (by omega) huv j hj e
      have hsz3 : g + 1 ≤ (w3.setCell ⟨g, k, none⟩ (.slice a2 ln c2)).heap.size := Nat.le_trans hsz (Nat.le_trans hm2.size hms.size)
      have hmd3 : Mod (fun _ => False) w (w3.setCell ⟨g, k, none⟩ (.slice a2 ln c2)) := (HMD.out.of2 hm2).trans hms (fun _ _ e => e) (fun j hj e => by omega)
      have HSET := Lib.hid (And.intro hset (And.intro how3 (And.intro hap3 (And.intro hsz3 hmd3))))
      have hk1 := HK1.out
      clear hb3 hset hms hx how3 hap3 hsz3 hmd3 ho2 hm2 yob hix
      go_wp2_with fail
      go_roundw
      case rel => exact ⟨k + 1, _, _, rfl, by omega, HSET.out⟩
      case measure => simp [intOf]; omega

section
variable {w w' : World} {p n : Nat} {L : List Ar} {F : Nat → Prop}
def NewN (n : Nat) (L : List Ar) (w : World) (e : Ending) (w' : World) : Prop := ∃ q F', e = .returned (.pointer (some ⟨q, 0, none⟩)) ∧ NT w' q n L F' ∧ (∀ k, F' k → w.heap.size ≤ k) ∧ Mod (fun _ => False) w w'
set_option maxHeartbeats 8000000 in
theorem nt_copy (h : NT w p n L F) : Calls Tryz.prog 53 #[.pointer (some ⟨p, 0, none⟩)] w fun e w' => NewN n L w e w' := by
  have hok := h.ok
  have h512 := h.n512
  obtain ⟨_, _, ob, ib, oa, ia, oc, ic, hn, rfl⟩ := h
  have p0 := hn.blk.cell 0 rfl
  have p1 := hn.blk.cell 1 rfl
  have HNW : ∀ (W : World), Mod (fun _ => False) w W → NM W p n ob ib oa ia oc ic (fun z : Nat => outL L (z : Int)) (fun z : Nat => inF L (z : Int)) := fun W m => hn.later m
  have hra : ∀ (W : World), Mod (fun _ => False) w W → Calls Tryz.prog 88 #[.slice (some ⟨ob, 0, none⟩) n n] W fun e w' => RowsP 34 50 4 n (fun v : Nat => (outL L (v : Int)).length) (fun v : Nat => (outL L (v : Int)).flatMap c4) W e w' := fun W m =>
    rowsA_any W ob n oa oc _ (hn.later m).ob (fun v hv => Rd.ofOwn ((hn.later m).ow v hv)) (fun v hv => by have := outL_len hok (v : Int); omega) (by omega)
  have hri : ∀ (W : World), Mod (fun _ => False) w W → Calls Tryz.prog 89 #[.slice (some ⟨ib, 0, none⟩) n n] W fun e w' => RowsP 40 3 1 n (fun v : Nat => (inF L (v : Int)).length) (fun v : Nat => (inF L (v : Int)).map (Value.int .i64)) W e w' := fun W m =>
    rowsI_any W ib n ia ic _ (hn.later m).ib (fun v hv => Rd.ofOwn ((hn.later m).iw v hv)) (fun v hv => by have := inF_len hok (v : Int); omega) (by omega)
  have HRA := Lib.hid hra
  have HRI := Lib.hid hri
  have HN := Lib.hid HNW
  have HOK := Lib.hid hok
  clear hra hri HNW hn hok
  go_enter Tryz.func53, Tryz.ntmps53
  go_upto_region 3 with fail
  go_cut [2] (fun s wx => ∃ q F', s = .pointer (some ⟨q, 0, none⟩) ∧ NT wx q n L F' ∧ (∀ k, F' k → w.heap.size ≤ k) ∧ Mod (fun _ => False) w wx)
  case first =>
    go_region_law (first | (go_simp; go_at_call 88; refine (HRA.out _ (Mod.drew _ _)).mono ?_; rintro e w4 ⟨b4, oa4, oc4, rfl, hb4, hB4, hO4, hA4, hm4⟩; have yp1 := (HN.out w4 ((Mod.drew _ _).of2 hm4)).blk.cell 1 rfl; have HX4 := Lib.hid (And.intro hb4 (And.intro hB4 (And.intro hO4 (And.intro hA4 hm4)))); clear hb4 hB4 hO4 hA4 hm4) | (go_simp; go_at_call 89; refine (HRI.out _ ((Mod.drew _ _).of2 HX4.out.2.2.2.2)).mono ?_; rintro e w5 ⟨b5, oa5, oc5, rfl, hb5, hB5, hO5, hA5, hm5⟩; have HX5 := Lib.hid (And.intro hb5 (And.intro hB5 (And.intro hO5 (And.intro hA5 hm5)))); clear hb5 hB5 hO5 hA5 hm5))
    all_goals
      (try go_wp2_with fail)
      go_meet
      have hz := Mod.alloc (fun _ => False) w5 (.cells #[.slice (some ⟨b4, 0, none⟩) n n, .slice (some ⟨b5, 0, none⟩) n n] 91)
      obtain ⟨hb4, hB4, hO4, hA4, hm4⟩ := HX4.out
      obtain ⟨hb5, hB5, hO5, hA5, hm5⟩ := HX5.out
      have hs4 := hm4.size
      have hs5 := hm5.size
      have hsd : w.drew.heap.size = w.heap.size := rfl
      have hnm : NM (w5.alloc (.cells #[.slice (some ⟨b4, 0, none⟩) n n, .slice (some ⟨b5, 0, none⟩) n n] 91)) w5.heap.size n b4 b5 oa4 oa5 oc4 oc5 (fun z : Nat => outL L (z : Int)) (fun z : Nat => inF L (z : Int)) :=
        ⟨Blk.new w5 91 [.slice (some ⟨b4, 0, none⟩) n n, .slice (some ⟨b5, 0, none⟩) n n], (hB4.keep hm5 (fun e => e)).keep hz (fun e => e), hB5.keep hz (fun e => e), fun v hv => Own.base (Own.keep (Own.keep (hO4 v hv) hm5 (fun _ _ e => e)) hz (fun _ _ e => e)) (Nat.zero_le _), fun v hv => Own.base (Own.keep (hO5 v hv) hz (fun _ _ e => e)) (Nat.zero_le _), hA4, hA5⟩
      refine ⟨_, _, rfl, ⟨HOK.out, h512, _, _, _, _, _, _, hnm, rfl⟩, fun k hk => ?_, ((Mod.drew _ w).of2 hm4).of2 (hm5.of2 hz)⟩
      rcases hk with e | e | e | ⟨v, hv, e⟩ | ⟨v, hv, e⟩
      · omega
      · omega
      · omega
      · have h7 := ((hO4 v hv).lt k (by rw [← e]; exact own_slice _ _ _ _ _)).1
        omega
      · have h7 := ((hO5 v hv).lt k (by rw [← e]; exact own_slice _ _ _ _ _)).1
        omega
  case rest =>
    obtain ⟨q, F', rfl, hnt, hnw, hmd⟩ := hcut
    have HX := Lib.hid (And.intro hnt (And.intro hnw hmd))
    clear hnt hnw hmd p0 p1
    go_wp2_with fail
    go_ret
    exact ⟨q, F', rfl, HX.out⟩
end

end Go.Proofs.YtjjedebjbgpimaaGreat
namespace Mile
open Go Go.RowKit
def putAllN (A : List Ar) : List Ar := A.foldl putN []
def newB (n : Int) (A : List Ar) : Bool := decide (0 ≤ n ∧ n ≤ 512) && A.all fun a => decide (mayA n.toNat a)
theorem putAllN_step (A : List Ar) (k : Nat) (h : k < A.length) : putAllN (A.take (k + 1)) = putN (putAllN (A.take k)) A[k] := by
  unfold putAllN; rw [take_at h, List.foldl_append]; rfl
end Mile
namespace Go.Proofs.YtjjedebjbgpimaaGreat
open Go.RowKit Mile
set_option maxRecDepth 100000
theorem made_rows (w : World) (n : Nat) (T : TypeId) (len : Nat → Nat) (hl : ∀ z, len z = 0) : Blk (w.alloc (.cells (madeCells #[Value.slice none 0 0] n) T)) w.heap.size T ((List.range n).map fun z => .slice none (len z) 0) := by
  have h1 := Blk.new w T (madeCells #[Value.slice none 0 0] n).toList
  have h2 : (madeCells #[Value.slice none 0 0] n).toList = (List.range n).map fun z => Value.slice none (len z) 0 := by
    rw [show (madeCells #[Value.slice none 0 0] n).toList = List.replicate n (Value.slice none 0 0) from zrow_toList _ _]
    apply List.ext_getElem <;> simp [hl]
  have h3 : (((List.range n).map fun z => Value.slice none (len z) 0).toArray) = madeCells #[Value.slice none 0 0] n := by rw [← h2]
  rw [h2, h3] at h1
  exact h1
theorem NM.nil {w : World} {p n ob ib : Nat} (hb : Blk w p 91 [.slice (some ⟨ob, 0, none⟩) n n, .slice (some ⟨ib, 0, none⟩) n n]) (ho : Blk w ob 34 ((List.range n).map fun z : Nat => .slice none (outL [] (z : Int)).length 0)) (hi : Blk w ib 40 ((List.range n).map fun z : Nat => .slice none (inF [] (z : Int)).length 0)) :
    NM w p n ob ib (fun _ => none) (fun _ => none) (fun _ => 0) (fun _ => 0) (fun z : Nat => outL [] (z : Int)) (fun z : Nat => inF [] (z : Int)) :=
  ⟨hb, ho, hi, fun _ _ => World.ownsRow_nil _ _ _ _, fun _ _ => World.ownsRow_nil _ _ _ _, fun _ _ _ _ _ _ h => (by cases h), fun _ _ _ _ _ _ h => (by cases h)⟩
theorem made_net1 (w : World) (n : Nat) (hn : n ≤ 512) : ∃ F', NT (((w.alloc (.cells (madeCells #[Value.slice none 0 0] n) 34)).alloc (.cells (madeCells #[Value.slice none 0 0] n) 40)).alloc (.cells #[.slice (some ⟨w.heap.size, 0, none⟩) n n, .slice (some ⟨w.heap.size + 1, 0, none⟩) n n] 91)).drew (w.heap.size + 1 + 1) n [] F' ∧ (∀ k, F' k → w.heap.size ≤ k) ∧ Mod (fun _ => False) w (((w.alloc (.cells (madeCells #[Value.slice none 0 0] n) 34)).alloc (.cells (madeCells #[Value.slice none 0 0] n) 40)).alloc (.cells #[.slice (some ⟨w.heap.size, 0, none⟩) n n, .slice (some ⟨w.heap.size + 1, 0, none⟩) n n] 91)).drew := by
  have m1 := Mod.alloc (fun _ => False) w (.cells (madeCells #[Value.slice none 0 0] n) 34)
  have m2 := Mod.alloc (fun _ => False) (w.alloc (.cells (madeCells #[Value.slice none 0 0] n) 34)) (.cells (madeCells #[Value.slice none 0 0] n) 40)
  have m3 := Mod.alloc (fun _ => False) ((w.alloc (.cells (madeCells #[Value.slice none 0 0] n) 34)).alloc (.cells (madeCells #[Value.slice none 0 0] n) 40)) (.cells #[.slice (some ⟨w.heap.size, 0, none⟩) n n, .slice (some ⟨w.heap.size + 1, 0, none⟩) n n] 91)
  have m4 := Mod.drew (fun _ => False) (((w.alloc (.cells (madeCells #[Value.slice none 0 0] n) 34)).alloc (.cells (madeCells #[Value.slice none 0 0] n) 40)).alloc (.cells #[.slice (some ⟨w.heap.size, 0, none⟩) n n, .slice (some ⟨w.heap.size + 1, 0, none⟩) n n] 91))
  have hb := Blk.new ((w.alloc (.cells (madeCells #[Value.slice none 0 0] n) 34)).alloc (.cells (madeCells #[Value.slice none 0 0] n) 40)) 91 [.slice (some ⟨w.heap.size, 0, none⟩) n n, .slice (some ⟨w.heap.size + 1, 0, none⟩) n n]
  have h1 := ((made_rows w n 34 (fun z : Nat => (outL [] (z : Int)).length) (fun _ => rfl)).keep m2 (fun e => e)).keep m3 (fun e => e)
  have h2 := (made_rows (w.alloc (.cells (madeCells #[Value.slice none 0 0] n) 34)) n 40 (fun z : Nat => (inF [] (z : Int)).length) (fun _ => rfl)).keep m3 (fun e => e)
  have e1 : (w.alloc (.cells (madeCells #[Value.slice none 0 0] n) 34)).heap.size = w.heap.size + 1 := heap_size_alloc _ _
  have e2 : ((w.alloc (.cells (madeCells #[Value.slice none 0 0] n) 34)).alloc (.cells (madeCells #[Value.slice none 0 0] n) 40)).heap.size = w.heap.size + 1 + 1 := by rw [heap_size_alloc, e1]
  rw [e1] at h2
  rw [e2] at hb
  have hnm := (NM.nil hb h1 h2).later m4
  refine ⟨_, ⟨NetOk.nil n, hn, _, _, _, _, _, _, hnm, rfl⟩, fun k hk => ?_, ((m1.of2 m2).of2 m3).of2 m4⟩
  rcases hk with e | e | e | ⟨v, hv, e⟩ | ⟨v, hv, e⟩
  · omega
  · omega
  · omega
  · cases e
  · cases e
theorem made_net2 (w : World) (n : Nat) (hn : n ≤ 512) : ∃ F', NT (((w.alloc (.cells (madeCells #[Value.slice none 0 0] n) 40)).alloc (.cells (madeCells #[Value.slice none 0 0] n) 34)).alloc (.cells #[.slice (some ⟨w.heap.size + 1, 0, none⟩) n n, .slice (some ⟨w.heap.size, 0, none⟩) n n] 91)).drew (w.heap.size + 1 + 1) n [] F' ∧ (∀ k, F' k → w.heap.size ≤ k) ∧ Mod (fun _ => False) w (((w.alloc (.cells (madeCells #[Value.slice none 0 0] n) 40)).alloc (.cells (madeCells #[Value.slice none 0 0] n) 34)).alloc (.cells #[.slice (some ⟨w.heap.size + 1, 0, none⟩) n n, .slice (some ⟨w.heap.size, 0, none⟩) n n] 91)).drew := by
  have m1 := Mod.alloc (fun _ => False) w (.cells (madeCells #[Value.slice none 0 0] n) 40)
  have m2 := Mod.alloc (fun _ => False) (w.alloc (.cells (madeCells #[Value.slice none 0 0] n) 40)) (.cells (madeCells #[Value.slice none 0 0] n) 34)
  have m3 := Mod.alloc (fun _ => False) ((w.alloc (.cells (madeCells #[Value.slice none 0 0] n) 40)).alloc (.cells (madeCells #[Value.slice none 0 0] n) 34)) (.cells #[.slice (some ⟨w.heap.size + 1, 0, none⟩) n n, .slice (some ⟨w.heap.size, 0, none⟩) n n] 91)
  have m4 := Mod.drew (fun _ => False) (((w.alloc (.cells (madeCells #[Value.slice none 0 0] n) 40)).alloc (.cells (madeCells #[Value.slice none 0 0] n) 34)).alloc (.cells #[.slice (some ⟨w.heap.size + 1, 0, none⟩) n n, .slice (some ⟨w.heap.size, 0, none⟩) n n] 91))
  have hb := Blk.new ((w.alloc (.cells (madeCells #[Value.slice none 0 0] n) 40)).alloc (.cells (madeCells #[Value.slice none 0 0] n) 34)) 91 [.slice (some ⟨w.heap.size + 1, 0, none⟩) n n, .slice (some ⟨w.heap.size, 0, none⟩) n n]
  have h1 := ((made_rows w n 40 (fun z : Nat => (inF [] (z : Int)).length) (fun _ => rfl)).keep m2 (fun e => e)).keep m3 (fun e => e)
  have h2 := (made_rows (w.alloc (.cells (madeCells #[Value.slice none 0 0] n) 40)) n 34 (fun z : Nat => (outL [] (z : Int)).length) (fun _ => rfl)).keep m3 (fun e => e)
  have e1 : (w.alloc (.cells (madeCells #[Value.slice none 0 0] n) 40)).heap.size = w.heap.size + 1 := heap_size_alloc _ _
  have e2 : ((w.alloc (.cells (madeCells #[Value.slice none 0 0] n) 40)).alloc (.cells (madeCells #[Value.slice none 0 0] n) 34)).heap.size = w.heap.size + 1 + 1 := by rw [heap_size_alloc, e1]
  rw [e1] at h2
  rw [e2] at hb
  have hnm := (NM.nil hb h2 h1).later m4
  refine ⟨_, ⟨NetOk.nil n, hn, _, _, _, _, _, _, hnm, rfl⟩, fun k hk => ?_, ((m1.of2 m2).of2 m3).of2 m4⟩
  rcases hk with e | e | e | ⟨v, hv, e⟩ | ⟨v, hv, e⟩
  · omega
  · omega
  · omega
  · cases e
  · cases e
def NewP (n : Int) (A : List Ar) (w : World) (e : Ending) (w' : World) : Prop :=
  (newB n A = true → ∃ q F', e = .returned (.tuple #[.pointer (some ⟨q, 0, none⟩), .int .i64 0]) ∧ NT w' q n.toNat (putAllN A) F' ∧ (∀ k, F' k → w.heap.size ≤ k) ∧ Mod (fun _ => False) w w') ∧
  (newB n A = false → e = .returned (.tuple #[.pointer none, .int .i64 1]) ∧ Mod (fun _ => False) w w')
set_option maxHeartbeats 8000000 in
theorem nt_new (w : World) (n : Int) (a : Option Addr) (ln c : Nat) (A : List Ar) (hA : A.length = ln) (hr : Rd w 4 (.slice a ln c) ln (A.flatMap c4)) (hb : ln ≤ 100000) : Calls Tryz.prog 50 #[.int .i64 n, .slice a ln c] w fun e w' => NewP n A w e w' := by
  by_cases h0 : 0 ≤ n
  case neg =>
    have hres : newB n A = false := by unfold newB; rw [decide_eq_false (by omega)]; rfl
    unfold NewP
    rw [hres]
    have z0 : decide (n < 0) = true := by simp; omega
    clear hr hA hres h0
    go_enter Tryz.func50, Tryz.ntmps50
    go_wp2_with fail
    go_ret2
    first | exact ⟨fun h => absurd h (by decide), fun _ => ⟨rfl, Mod.refl _ _⟩⟩ | exact ⟨rfl, Mod.refl _ _⟩
  have y0 : decide (n < 0) = false := by simp; omega
  by_cases h1 : n ≤ 512
  case neg =>
    have hres : newB n A = false := by unfold newB; rw [decide_eq_false (by omega)]; rfl
    unfold NewP
    rw [hres]
    have z0 : decide (512 < n) = true := by simp; omega
    clear hr hA hres h0
    go_enter Tryz.func50, Tryz.ntmps50
    go_wp2_with fail
    go_ret2
    first | exact ⟨fun h => absurd h (by decide), fun _ => ⟨rfl, Mod.refl _ _⟩⟩ | exact ⟨rfl, Mod.refl _ _⟩
  have y1 : decide (512 < n) = false := by simp; omega
  obtain ⟨n, rfl⟩ := Int.eq_ofNat_of_zero_le h0
  have hn : n ≤ 512 := by omega
  have hres : newB (n : Int) A = A.all fun a => decide (mayA n a) := by unfold newB; rw [decide_eq_true ⟨h0, h1⟩]; rfl
  unfold NewP
  rw [hres, show ((n : Int)).toNat = n from Int.toNat_natCast n]
  obtain ⟨iS, hiS, hzS, hsS, hbS⟩ := info_parts Nt.infoSA
  obtain ⟨iT, hiT, hzT, hsT, hbT⟩ := info_parts Nt.infoSI
  obtain ⟨iA, hiA, hzA, hsA, hbA⟩ := info_parts Nt.infoA
  have hmk := fun wx => run_makeSlice (P := Tryz.prog) (w := wx) 88 34 iS _ Tryz.underlying88 hiS hzS .i64 .i64 (n : Int) (n : Int) (by omega) (by omega) (by rw [hsS]; omega) (by rw [hbS]; omega) (by omega)
  have hml := fun wx => run_makeSlice (P := Tryz.prog) (w := wx) 89 40 iT _ Tryz.underlying89 hiT hzT .i64 .i64 (n : Int) (n : Int) (by omega) (by omega) (by rw [hsT]; omega) (by rw [hbT]; omega) (by omega)
  simp only [Int.toNat_natCast, hsS, hsT, Nat.mul_one] at hmk hml
  have HR := Lib.hid hr
  have HA := Lib.hid hA
  clear hr hA hres h0 h1
  go_enter Tryz.func50, Tryz.ntmps50
  go_upto_region 3 with fail
  go_cut [6] (fun s wx => ∃ q F', s = .pointer (some ⟨q, 0, none⟩) ∧ NT wx q n [] F' ∧ (∀ k, F' k → w.heap.size ≤ k) ∧ Mod (fun _ => False) w wx)
  case first =>
    go_region_law (fail)
    all_goals
      (try go_wp2_with fail)
      go_meet
      first
        | (obtain ⟨F', h⟩ := made_net1 w n hn; exact ⟨_, F', rfl, h⟩)
        | (obtain ⟨F', h⟩ := made_net2 w n hn; exact ⟨_, F', rfl, h⟩)
  case rest =>
    obtain ⟨q, F0, rfl, hnt, hnw, hmd⟩ := hcut
    have HX := Lib.hid (And.intro hnt (And.intro hnw hmd))
    clear hnt hnw hmd hmk hml
    go_wp2_with fail
    go_loopw [23] (fun jv wr => ∃ (k : Nat) (F1 : Nat → Prop), jv = .int .i64 (k : Int) ∧ k ≤ ln ∧ (∀ b ∈ A.take k, mayA n b) ∧ NT wr q n (putAllN (A.take k)) F1 ∧ (∀ j, F1 j → w.heap.size ≤ j) ∧ Mod (fun _ => False) w wr) (fun jv _ => ln - (intOf jv).toNat)
    case atStart => exact ⟨0, F0, rfl, Nat.zero_le _, fun b hb => by simp at hb, HX.out.1, HX.out.2.1, HX.out.2.2⟩
    case round =>
      obtain ⟨k, F1, rfl, hk, hall, hnt, hnw, hmd⟩ := hrel
      obtain ⟨w2, hw2⟩ : ∃ x : World, x = wr := ⟨_, rfl⟩
      subst hw2
      by_cases hkl : k < ln
      case neg =>
        obtain rfl : k = ln := by omega
        have z0 : decide ((k : Int) < (k : Int)) = false := by simp
        have HY := Lib.hid (And.intro hnt (And.intro hnw hmd))
        have HALL := Lib.hid hall
        clear hnt hnw hmd hall
        go_wp2_with fail
        go_ret2
        have ht : A.take k = A := List.take_of_length_le (Nat.le_of_eq HA.out)
        have hy := HY.out
        have ha := HALL.out
        rw [ht] at hy ha
        have hb : (A.all fun a => decide (mayA n a)) = true := List.all_eq_true.2 fun b hb => decide_eq_true (ha b hb)
        rw [hb]
        exact ⟨fun _ => ⟨q, F1, rfl, hy⟩, fun h => absurd h (by decide)⟩
      case pos =>
        have z0 : decide ((k : Int) < (ln : Int)) = true := by simp; omega
        have hkR : k < A.length := by rw [HA.out]; exact hkl
        have hrd := HR.out.keep hmd (fun _ _ e => e)
        obtain ⟨eb, eo, hpe, e0, e1, e2, e3⟩ := rd4 hrd k hkR
        have hstep := putAllN_step A k hkR
        have htk := take_at hkR
        have hmem : A[k] ∈ A := List.getElem_mem hkR
        obtain ⟨b, hb⟩ : ∃ b, A[k] = b := ⟨_, rfl⟩
        rw [hb] at e0 e1 e2 e3 hstep htk hmem
        obtain ⟨f, t, v, m⟩ := b
        simp only at e0 e1 e2 e3
        have hiz := fun wx => run_indexS (P := Tryz.prog) wx 34 50 iA 4 Tryz.underlying34 hiA hsA a ln c k hkl (hrd.some_ (by omega))
        rw [hpe] at hiz
        have hk1 : IntKind.i64.wrap ((k : Int) + 1) = ((k + 1 : Nat) : Int) := by rw [IntWalk.i64_in _ (by omega)]; omega
        have HK1 := Lib.hid hk1
        have HNT := Lib.hid hnt
        have HNW := Lib.hid hnw
        have HMD := Lib.hid hmd
        have HALL := Lib.hid hall
        have HST := Lib.hid hstep
        have HTK := Lib.hid htk
        have HMEM := Lib.hid hmem
        clear hk1 hnt hnw hmd hall hstep htk hmem hb hrd hpe hkR
        go_upto_region 7 with fail
        obtain ⟨g, hg⟩ : ∃ y, w2.heap.size = y := ⟨_, rfl⟩
        obtain ⟨w5, hw5⟩ : ∃ y, w2.alloc (.cells #[.int .i64 f, .int .i64 t, .int .i64 v, .int .i64 m] 50) = y := ⟨_, rfl⟩
        have hg5 : Blk w5 g 50 [.int .i64 f, .int .i64 t, .int .i64 v, .int .i64 m] := by rw [← hw5, ← hg]; exact Blk.new w2 50 [.int .i64 f, .int .i64 t, .int .i64 v, .int .i64 m]
        have hm5 : Mod (fun _ => False) w2 w5 := by rw [← hw5]; exact Mod.alloc _ _ _
        (try rw [hw5])
        (try rw [hg])
        have g0 := hg5.cell 0 rfl
        have g1 := hg5.cell 1 rfl
        have g2 := hg5.cell 2 rfl
        have g3 := hg5.cell 3 rfl
        have hgF : ¬ F1 g := fun e => by have := HNT.out.lt g e; omega
        have HGF := Lib.hid hgF
        have HG5 := Lib.hid hg5
        have HM5 := Lib.hid hm5
        clear hg hw5 hg5 hm5 e0 e1 e2 e3 hiz hgF
        by_cases hmay : mayA n ⟨f, t, v, m⟩
        case neg =>
          have HFI := Lib.hid (nt_fits (HNT.out.later HM5.out) f t v m false (decide_eq_false hmay))
          have HMAY := Lib.hid hmay
          clear hmay
          go_wp2_with fail
          refine HFI.out.mono ?_
          rintro e w6 ⟨rfl, hm6⟩
          have HM6 := Lib.hid hm6
          clear hm6 g0 g1 g2 g3
          go_wp2_with fail
          go_ret2
          have hb : (A.all fun a => decide (mayA n a)) = false := by
            cases hh : (A.all fun a => decide (mayA n a)) with
            | false => rfl
            | true => exact absurd (of_decide_eq_true (List.all_eq_true.1 hh _ HMEM.out)) HMAY.out
          rw [hb]
          exact ⟨fun h => absurd h (by decide), fun _ => ⟨rfl, (HMD.out.of2 HM5.out).of2 HM6.out⟩⟩
        case pos =>
          have HFI := Lib.hid (nt_fits (HNT.out.later HM5.out) f t v m true (decide_eq_true hmay))
          have HMAY := Lib.hid hmay
          clear hmay
          go_wp2_with fail
          refine HFI.out.mono ?_
          rintro e w6 ⟨rfl, hm6⟩
          have hg6 := HG5.out.keep hm6 (fun e => e)
          clear g0 g1 g2 g3
          have g0 := hg6.cell 0 rfl
          have g1 := hg6.cell 1 rfl
          have g2 := hg6.cell 2 rfl
          have g3 := hg6.cell 3 rfl
          have HM6 := Lib.hid hm6
          clear hm6 hg6
          go_wp2_with fail
          refine (nt_put (HNT.out.later (HM5.out.of2 HM6.out)) f t v m).mono ?_
          rintro e w7 ⟨rfl, F7, hnt7, hnw7, hm7⟩
          have hpr : putR n (putAllN (A.take k)) ⟨f, t, v, m⟩ = putAllN (A.take (k + 1)) := by rw [HST.out]; exact if_pos HMAY.out
          rw [hpr] at hnt7
          have hsz := (HMD.out.of2 (HM5.out.of2 HM6.out)).size
          have hmd7 : Mod (fun _ => False) w w7 := (HMD.out.of2 (HM5.out.of2 HM6.out)).trans hm7 (fun _ _ e => e.elim) (fun k hk e => by have := HNW.out k e; omega)
          have hnw8 : ∀ j, F7 j → w.heap.size ≤ j := fun j hj => (hnw7 j hj).elim (HNW.out j) (fun e => Nat.le_trans hsz e)
          have hall8 : ∀ b ∈ A.take (k + 1), mayA n b := fun b hb => by
            rw [HTK.out] at hb
            rcases List.mem_append.1 hb with h | h
            · exact HALL.out b h
            · rw [List.mem_singleton.1 h]; exact HMAY.out
          have HY := Lib.hid (And.intro hall8 (And.intro hnt7 (And.intro hnw8 hmd7)))
          have hk1 := HK1.out
          clear hnt7 hnw7 hm7 hmd7 hnw8 hall8 g0 g1 g2 g3 hpr
          go_wp2_with fail
          go_roundw
          case rel => exact ⟨k + 1, F7, rfl, by omega, HY.out⟩
          case measure => simp [intOf]; omega
end Go.Proofs.YtjjedebjbgpimaaGreat
