/- Package walk by contract: edgeOf, Weight, End, Valid, Cmp. -/
import Derived.Test.YtmpcpmgpnccphaaWalkP
import Derived.Test.YtmpcpmgpnccphaaTurns2
import Derived.Test.YtmpcpmgpnccphaaTNil
import Derived.Test.YtmpcpmgpnccphaaIRow
import Derived.Test.YtmpcpmgpnccphaaRegion2
import Derived.Deep.DeepCutAuto
import Derived.Deep.CutBlock
namespace Go.Proofs.Ytmpcpmgpnccphaa
open Go.RowKit Mile
set_option maxRecDepth 100000
set_option maxHeartbeats 2000000 in
theorem wedge_any (t p B C : Nat) (G : GD) (w : World) (h : TO w t p B C G) (v : Int) :
    Calls Try.prog 79 #[.pointer (some ⟨t, 0, none⟩), .int .i64 v] w (EdgeP G v w) := by
  have hA := h.keep (Mod.alloc (fun _ => False) w (.cells #[.int .i64 0, .int .i64 0, .int .i64 0] 46))
  obtain ⟨q, hq⟩ : ∃ q, w.heap.size = q := ⟨_, rfl⟩
  have hs : Blk (w.alloc (.cells #[.int .i64 0, .int .i64 0, .int .i64 0] 46)) q 46 [.int .i64 0, .int .i64 0, .int .i64 0] := by rw [← hq]; exact Blk.new w 46 [.int .i64 0, .int .i64 0, .int .i64 0]
  have c0 := hA.blk.cell 0 rfl
  have HA := Lib.hid hA
  have HS := Lib.hid hs
  clear hA hs
  go_enter Try.func79, Try.ntmps79
  go_wp2_with fail
  refine (edge_any p B C _ G HA.out.go v).mono ?_
  rintro e w1 ⟨rfl, hm⟩
  have hb := HS.out.keep hm (fun e => e)
  have k0 := hb.cell 0 rfl
  have k1 := hb.cell 1 rfl
  have k2 := hb.cell 2 rfl
  have f0 := hb.free 0
  have f1 := hb.free 1
  have f2 := hb.free 2
  have lq := hb.lt
  obtain ⟨x, hx⟩ : ∃ x, (if 0 ≤ v ∧ v < (G.E.length : Int) then eAt G v else (0, 0, 0)).1 = x := ⟨_, rfl⟩
  obtain ⟨y, hy⟩ : ∃ x, (if 0 ≤ v ∧ v < (G.E.length : Int) then eAt G v else (0, 0, 0)).2.1 = x := ⟨_, rfl⟩
  obtain ⟨z, hz⟩ : ∃ x, (if 0 ≤ v ∧ v < (G.E.length : Int) then eAt G v else (0, 0, 0)).2.2 = x := ⟨_, rfl⟩
  obtain ⟨b, hbb⟩ : ∃ b, decide (0 ≤ v ∧ v < (G.E.length : Int)) = b := ⟨_, rfl⟩
  have HM : Hid (Mod (fun _ => False) (w.alloc (.cells #[.int .i64 0, .int .i64 0, .int .i64 0] 46)) w1) := Lib.hid hm
  rw [hx, hy, hz, hbb]
  try rw [hq]
  have HX := Lib.hid hx
  have HY := Lib.hid hy
  have HZ := Lib.hid hz
  have HBB := Lib.hid hbb
  have HQ := Lib.hid hq
  have HB := Lib.hid hb
  clear hm hx hy hz hbb hb c0 hq
  go_wp2_with fail
  have b2 := ((HB.out.set 0 (.int .i64 x)).set 1 (.int .i64 y)).set 2 (.int .i64 z)
  (try simp only [Exit.inBlock, Exit.then])
  refine bodyPost_ret (results_row_tmp rfl _ _ q 46 #[.int .i64 x, .int .i64 y, .int .i64 z] (0, 0) _ rfl b2 Try.underlying46 rfl (by kernel_rfl)) rfl ?_
  refine ⟨by rw [HX.out, HY.out, HZ.out, HBB.out]; rfl, ?_⟩
  have m1 : Mod (fun _ => False) w w1 := (Mod.alloc (fun _ => False) w _).of2 HM.out
  exact ((m1.thenSet _ _ (fun e => by have := HQ.out; simp only at e; omega)).thenSet _ _ (fun e => by have := HQ.out; simp only at e; omega)).thenSet _ _ (fun e => by have := HQ.out; simp only at e; omega)
set_option maxHeartbeats 2000000 in
theorem wedge_nil (w : World) (v : Int) : Calls Try.prog 79 #[.pointer none, .int .i64 v] w fun e w' => e = .returned (.tuple #[.agg #[.int .i64 0, .int .i64 0, .int .i64 0], .bool false]) ∧ Mod (fun _ => False) w w' := by
  go_enter Try.func79, Try.ntmps79
  go_wp2_with fail
  have b2 := Blk.new w 46 [.int .i64 0, .int .i64 0, .int .i64 0]
  (try simp only [Exit.inBlock, Exit.then])
  refine bodyPost_ret (results_row_tmp rfl _ _ w.heap.size 46 #[.int .i64 0, .int .i64 0, .int .i64 0] (0, 0) _ rfl b2 Try.underlying46 rfl (by kernel_rfl)) rfl ?_
  exact ⟨rfl, Mod.alloc _ w _⟩

set_option maxHeartbeats 8000000 in
theorem wweight_any (t p B C : Nat) (G : GD) (hmay : May G) (w : World) (h : TO w t p B C G) (a : Option Addr) (n c : Nat) (xs : List Int) (hn : xs.length = n) (hr : Rd w 1 (.slice a n c) n (xs.map (Value.int .i64))) (hb : n ≤ 100000) :
    Calls Try.prog 39 #[.pointer (some ⟨t, 0, none⟩), .slice a n c] w fun e w' => e = .returned (.tuple #[.int .i64 (wtN G xs), .bool (allE G xs)]) ∧ Mod (fun _ => False) w w' := by
  obtain ⟨iI, hiI, hzI, hsI, hbI⟩ := info_parts GR.infoI
  have HN := Lib.hid hn
  have HMAY := Lib.hid hmay
  clear hn hmay
  have HS : Hid (Ev (Mod (fun _ => False) w) w) := Lib.hid (Ev.mod w)
  replace HS := Lib.hid ((Ev.to h).and HS.out)
  replace HS := Lib.hid ((Ev.rd hr).and HS.out)
  clear h hr
  go_enter Try.func39, Try.ntmps39
  go_wp2_with fail
  replace HS := Lib.hid ((Ev.mod w).and HS.out)
  go_loopw [6, 13] (fun s i wr => ∃ (k : Nat) (s0 : Int), k ≤ n ∧ i = .int .i64 k ∧ s = .int .i64 s0 ∧ s0 = wS G (xs.take k) ∧ allE G (xs.take k) = true ∧ Mod (fun _ => False) w wr) (fun s i _ => n - (intOf i).toNat)
  case atStart => exact ⟨0, 0, by omega, rfl, rfl, rfl, rfl, Mod.refl _ _⟩
  case round =>
    obtain ⟨k, s0, hk, rfl, rfl, hs, hall, hmr⟩ := hrel
    obtain ⟨wo, hwo⟩ : ∃ x : World, x = wr := ⟨_, rfl⟩
    subst hwo
    replace HS := Lib.hid (HS.out.step hmr)
    clear hmr
    have hsb : 0 ≤ s0 ∧ s0 ≤ 6553500000 := by have h1 := wS_le G HMAY.out (xs.take k) hall; have h2 : (xs.take k).length ≤ k := List.length_take_le _ _; rw [hs]; omega
    have hs1 := hsb.1
    have hs2 := hsb.2
    clear hsb
    have HSUM := Lib.hid hs
    have HALL := Lib.hid hall
    clear hs hall
    by_cases hlt : k < n
    case pos =>
      have hkl : k < xs.length := by rw [HN.out]; exact hlt
      have ht1 := Lib.hid (allE_take G xs k hkl)
      have ht2 := Lib.hid (wS_take G xs k hkl)
      have hno := Lib.hid (allE_no G xs k hkl)
      obtain ⟨x, HX0⟩ : ∃ qz, xs[k] = qz := ⟨_, rfl⟩
      have HX := Lib.hid HX0
      clear HX0
      rw [HX.out] at ht1 ht2 hno
      obtain ⟨eb, eo, hpl, e0⟩ := rd1 (HS.out.now).2.1 k hkl
      have hix := fun wx => run_indexS (P := Try.prog) wx 22 3 iI 1 Try.underlying22 hiI hsI a n c k hlt ((HS.out.now).2.1.some_ (by have := hlt; omega))
      rw [hpl] at hix
      have HIe := Lib.hid hix
      clear hix hpl
      rw [HX.out] at e0
      replace HS := Lib.hid ((Ev.cell e0).and HS.out)
      clear e0
      have qe := (HS.out.now).1
      have hix := HIe.out
      have z0 : decide ((k : Int) < (n : Int)) = true := by simp; omega
      go_wp2_with fail
      by_cases hx : 0 ≤ x ∧ x < (G.E.length : Int)
      case pos =>
        have hz := wt_le G HMAY.out x (decide_eq_true hx)
        have HXE := Lib.hid hx
        clear hx
        obtain ⟨x0, Hx00⟩ : ∃ qz, (eAt G x).1 = qz := ⟨_, rfl⟩
        have Hx0 := Lib.hid Hx00
        clear Hx00
        obtain ⟨y0, Hy00⟩ : ∃ qz, (eAt G x).2.1 = qz := ⟨_, rfl⟩
        have Hy0 := Lib.hid Hy00
        clear Hy00
        obtain ⟨z0v, Hz0v0⟩ : ∃ qz, (eAt G x).2.2 = qz := ⟨_, rfl⟩
        have Hz0v := Lib.hid Hz0v0
        clear Hz0v0
        rw [Hz0v.out] at hz
        have hz1 := hz.1
        have hz2 := hz.2
        clear hz
        refine (wedge_any t p B C G _ ((HS.out.now).2.2.2.1) x).mono ?_
        rintro e wq1 ⟨rfl, hmm⟩
        replace HS := Lib.hid (HS.out.step hmm)
        clear hmm
        clear qe hix
        rw [if_pos HXE.out, decide_eq_true HXE.out, Hx0.out, Hy0.out, Hz0v.out]
        go_wp2_with fail
        go_roundw
        case rel => exact ⟨k + 1, s0 + z0v, hlt, by go_num, by go_num, by rw [ht2.out, ← HSUM.out, Hz0v.out], by rw [ht1.out, HALL.out]; exact decide_eq_true HXE.out, ((HS.out.now).2.1).thenAlloc _⟩
        case measure => simp [intOf]; omega
      case neg =>
        have HXE := Lib.hid hx
        clear hx
        refine (wedge_any t p B C G _ ((HS.out.now).2.2.2.1) x).mono ?_
        rintro e wq2 ⟨rfl, hmm⟩
        replace HS := Lib.hid (HS.out.step hmm)
        clear hmm
        clear qe hix
        rw [if_neg HXE.out, decide_eq_false HXE.out]
        have hf := hno.out (decide_eq_false HXE.out)
        have HF := Lib.hid hf
        clear hf
        go_wp2_with fail
        go_ret2
        refine ⟨?_, ((HS.out.now).2.2.2.2).thenAlloc _⟩
        unfold wtN
        rw [HF.out]; rfl
    case neg =>
      obtain rfl : k = n := by omega
      have z0 : decide ((k : Int) < (k : Int)) = false := by simp
      go_wp2_with fail
      go_ret2
      refine ⟨?_, (HS.out.now).2.2.2⟩
      have ht : xs.take k = xs := List.take_of_length_le (by rw [HN.out]; exact Nat.le_refl _)
      have h1 := HALL.out
      rw [ht] at h1
      unfold wtN
      rw [h1, HSUM.out, ht]; rfl

set_option maxHeartbeats 8000000 in
theorem wend_any (t p B C : Nat) (G : GD) (w : World) (h : TO w t p B C G) (f : Int) (a : Option Addr) (n c : Nat) (xs : List Int) (hn : xs.length = n) (hr : Rd w 1 (.slice a n c) n (xs.map (Value.int .i64))) (hb : n ≤ 100000) :
    Calls Try.prog 41 #[.pointer (some ⟨t, 0, none⟩), .int .i64 f, .slice a n c] w fun e w' => e = .returned (.tuple #[.int .i64 (endN G f xs), .bool (validB G f xs)]) ∧ Mod (fun _ => False) w w' := by
  obtain ⟨iI, hiI, hzI, hsI, hbI⟩ := info_parts GR.infoI
  have HN := Lib.hid hn
  clear hn
  have HS : Hid (Ev (Mod (fun _ => False) w) w) := Lib.hid (Ev.mod w)
  replace HS := Lib.hid ((Ev.to h).and HS.out)
  replace HS := Lib.hid ((Ev.rd hr).and HS.out)
  clear h hr
  go_enter Try.func41, Try.ntmps41
  go_wp2_with fail
  replace HS := Lib.hid ((Ev.mod w).and HS.out)
  go_loopw [8, 15] (fun s i wr => ∃ (k : Nat) (f0 : Int), k ≤ n ∧ i = .int .i64 k ∧ s = .int .i64 f0 ∧ f0 = lastD f (xs.take k) ∧ wlk G f (xs.take k) = true ∧ Mod (fun _ => False) w wr) (fun s i _ => n - (intOf i).toNat)
  case atStart => exact ⟨0, f, by omega, rfl, rfl, rfl, rfl, Mod.refl _ _⟩
  case round =>
    obtain ⟨k, f0, hk, rfl, rfl, hs, hall, hmr⟩ := hrel
    obtain ⟨wo, hwo⟩ : ∃ x : World, x = wr := ⟨_, rfl⟩
    subst hwo
    replace HS := Lib.hid (HS.out.step hmr)
    clear hmr
    have HSUM := Lib.hid hs
    have HALL := Lib.hid hall
    clear hs hall
    by_cases hlt : k < n
    case pos =>
      have hkl : k < xs.length := by rw [HN.out]; exact hlt
      have ht1 := Lib.hid (wlk_take G f xs k hkl)
      have ht2 := Lib.hid (lastD_take f xs k hkl)
      have hno := Lib.hid (wlk_no G f xs k hkl)
      obtain ⟨x, HX0⟩ : ∃ qz, xs[k] = qz := ⟨_, rfl⟩
      have HX := Lib.hid HX0
      clear HX0
      rw [HX.out] at ht1 ht2
      obtain ⟨eb, eo, hpl, e0⟩ := rd1 (HS.out.now).2.1 k hkl
      have hix := fun wx => run_indexS (P := Try.prog) wx 22 3 iI 1 Try.underlying22 hiI hsI a n c k hlt ((HS.out.now).2.1.some_ (by have := hlt; omega))
      rw [hpl] at hix
      have HIe := Lib.hid hix
      clear hix hpl
      rw [HX.out] at e0
      replace HS := Lib.hid ((Ev.cell e0).and HS.out)
      clear e0
      have qe := (HS.out.now).1
      have hix := HIe.out
      have z0 : decide ((k : Int) < (n : Int)) = true := by simp; omega
      obtain ⟨b, HB0⟩ : ∃ qz, turnB G f0 x = qz := ⟨_, rfl⟩
      have HB := Lib.hid HB0
      clear HB0
      go_wp2_with fail
      refine (may_any t p B C G _ ((HS.out.now).2.2.2.1) f0 x).mono ?_
      rintro e wq1 ⟨rfl, hmm⟩
      replace HS := Lib.hid (HS.out.step hmm)
      clear hmm
      clear qe hix
      rw [HB.out]
      cases b with
      | true =>
        go_wp2_with fail
        go_roundw
        case rel => exact ⟨k + 1, x, hlt, by go_num, rfl, ht2.out.symm, by rw [ht1.out, HALL.out, ← HSUM.out]; exact HB.out, (HS.out.now).2.1⟩
        case measure => simp [intOf]; omega
      | false =>
        have hf := hno.out (by rw [ht1.out, HALL.out, ← HSUM.out]; exact HB.out)
        have HF := Lib.hid hf
        clear hf
        go_wp2_with fail
        go_ret2
        refine ⟨?_, (HS.out.now).2.2.2.2⟩
        unfold endN validB
        rw [HF.out, Bool.and_false]; rfl
    case neg =>
      obtain rfl : k = n := by omega
      have z0 : decide ((k : Int) < (k : Int)) = false := by simp
      have ht : xs.take k = xs := List.take_of_length_le (by rw [HN.out]; exact Nat.le_refl _)
      have h1 := HALL.out
      have h2 := HSUM.out
      rw [ht] at h1 h2
      have HL := Lib.hid (valid_last G f xs h1)
      have HW := Lib.hid h1
      have HF := Lib.hid h2
      clear ht h1 h2
      go_wp2_with fail
      by_cases hx : 0 ≤ f0 ∧ f0 < (G.E.length : Int)
      case pos =>
        have HXE := Lib.hid hx
        clear hx
        obtain ⟨x0, Hx00⟩ : ∃ qz, (eAt G f0).1 = qz := ⟨_, rfl⟩
        have Hx0 := Lib.hid Hx00
        clear Hx00
        obtain ⟨y0, Hy00⟩ : ∃ qz, (eAt G f0).2.1 = qz := ⟨_, rfl⟩
        have Hy0 := Lib.hid Hy00
        clear Hy00
        obtain ⟨z0v, Hz0v0⟩ : ∃ qz, (eAt G f0).2.2 = qz := ⟨_, rfl⟩
        have Hz0v := Lib.hid Hz0v0
        clear Hz0v0
        refine (wedge_any t p B C G _ ((HS.out.now).2.2.1) f0).mono ?_
        rintro e wq2 ⟨rfl, hmm⟩
        replace HS := Lib.hid (HS.out.step hmm)
        clear hmm
        rw [if_pos HXE.out, decide_eq_true HXE.out, Hx0.out, Hy0.out, Hz0v.out]
        have HV : Hid (validB G f xs = true) := Lib.hid (by unfold validB; rw [HW.out, ← HL.out, ← HF.out]; simpa [edB] using HXE.out)
        go_wp2_with fail
        go_ret2
        refine ⟨?_, ((HS.out.now).2.2.2).thenAlloc _⟩
        unfold endN
        rw [HV.out, ← HF.out]; simp only [if_true]; rw [Hy0.out]; rfl
      case neg =>
        have HXE := Lib.hid hx
        clear hx
        refine (wedge_any t p B C G _ ((HS.out.now).2.2.1) f0).mono ?_
        rintro e wq3 ⟨rfl, hmm⟩
        replace HS := Lib.hid (HS.out.step hmm)
        clear hmm
        rw [if_neg HXE.out, decide_eq_false HXE.out]
        have HV : Hid (validB G f xs = false) := Lib.hid (by unfold validB; rw [HW.out, ← HL.out, ← HF.out, Bool.and_true]; exact decide_eq_false HXE.out)
        go_wp2_with fail
        go_ret2
        refine ⟨?_, ((HS.out.now).2.2.2).thenAlloc _⟩
        unfold endN
        rw [HV.out]; rfl

set_option maxHeartbeats 4000000 in
theorem wvalid_any (t p B C : Nat) (G : GD) (w : World) (h : TO w t p B C G) (f : Int) (a : Option Addr) (n c : Nat) (xs : List Int) (hn : xs.length = n) (hr : Rd w 1 (.slice a n c) n (xs.map (Value.int .i64))) (hb : n ≤ 100000) :
    Calls Try.prog 43 #[.pointer (some ⟨t, 0, none⟩), .int .i64 f, .slice a n c] w fun e w' => e = .returned (.bool (validB G f xs)) ∧ Mod (fun _ => False) w w' := by
  have HS : Hid (Ev (Mod (fun _ => False) w) w) := Lib.hid (Ev.mod w)
  go_enter Try.func43, Try.ntmps43
  go_wp2_with fail
  refine (wend_any t p B C G _ h f a n c xs hn hr hb).mono ?_
  rintro e wq1 ⟨rfl, hmm⟩
  replace HS := Lib.hid (HS.out.step hmm)
  clear hmm
  go_wp2_with fail
  go_ret
  exact ⟨rfl, (HS.out.now)⟩

theorem cmpi_as (x y v : Int) (hv : (if x < y then -1 else if y < x then 1 else 0) = v) (w : World) : Calls Try.prog 90 #[.int .i64 x, .int .i64 y] w fun e w' => e = .returned (.int .i64 v) ∧ w = w' :=
  (compareI_any x y w).mono fun _ _ ⟨he, hw⟩ => ⟨by rw [he, ← hv]; rfl, hw⟩
set_option maxHeartbeats 8000000 in
theorem scmp_any (w : World) (a : Option Addr) (n c : Nat) (xs : List Int) (hn : xs.length = n) (hr : Rd w 1 (.slice a n c) n (xs.map (Value.int .i64))) (hb : n ≤ 100000) (a2 : Option Addr) (n2 c2 : Nat) (ys : List Int) (hn2 : ys.length = n2) (hr2 : Rd w 1 (.slice a2 n2 c2) n2 (ys.map (Value.int .i64))) (hb2 : n2 ≤ 100000) :
    Calls Try.prog 80 #[.slice a n c, .slice a2 n2 c2] w fun e w' => e = .returned (.int .i64 (cmpL xs ys)) ∧ Mod (fun _ => False) w w' := by
  obtain ⟨iI, hiI, hzI, hsI, hbI⟩ := info_parts GR.infoI
  have HN := Lib.hid hn
  have HN2 := Lib.hid hn2
  clear hn hn2
  have HS : Hid (Ev (Mod (fun _ => False) w) w) := Lib.hid (Ev.mod w)
  replace HS := Lib.hid ((Ev.rd hr).and HS.out)
  replace HS := Lib.hid ((Ev.rd hr2).and HS.out)
  clear hr hr2
  go_enter Try.func80, Try.ntmps80
  go_wp2_with fail
  replace HS := Lib.hid ((Ev.mod w).and HS.out)
  go_loopw [11] (fun i wr => ∃ (k : Nat), k ≤ n ∧ k ≤ n2 ∧ i = .int .i64 k ∧ xs.take k = ys.take k ∧ Mod (fun _ => False) w wr) (fun i _ => n - (intOf i).toNat)
  case atStart => exact ⟨0, by omega, by omega, rfl, rfl, Mod.refl _ _⟩
  case round =>
    obtain ⟨k, hk, hk2, rfl, hs, hmr⟩ := hrel
    obtain ⟨wo, hwo⟩ : ∃ x : World, x = wr := ⟨_, rfl⟩
    subst hwo
    replace HS := Lib.hid (HS.out.step hmr)
    clear hmr
    have HEQ := Lib.hid hs
    clear hs
    by_cases hlt : k < n
    case pos =>
      have hkl : k < xs.length := by rw [HN.out]; exact hlt
      have z0 : decide ((k : Int) < (n : Int)) = true := by simp; omega
      by_cases hl2 : k < n2
      case pos =>
        have hkl2 : k < ys.length := by rw [HN2.out]; exact hl2
        have z1 : decide ((n2 : Int) ≤ (k : Int)) = false := by simp; omega
        obtain ⟨x, HX0⟩ : ∃ qz, xs[k] = qz := ⟨_, rfl⟩
        have HX := Lib.hid HX0
        clear HX0
        obtain ⟨y, HY0⟩ : ∃ qz, ys[k] = qz := ⟨_, rfl⟩
        have HY := Lib.hid HY0
        clear HY0
        obtain ⟨eb, eo, hpl, e0⟩ := rd1 (HS.out.now).2.2.1 k hkl
        have hix := fun wx => run_indexS (P := Try.prog) wx 22 3 iI 1 Try.underlying22 hiI hsI a n c k hlt ((HS.out.now).2.2.1.some_ (by have := hlt; omega))
        rw [hpl] at hix
        have HIe := Lib.hid hix
        clear hix hpl
        rw [HX.out] at e0
        replace HS := Lib.hid ((Ev.cell e0).and HS.out)
        clear e0
        obtain ⟨fb, fo, hpl, e0⟩ := rd1 (HS.out.now).2.2.1 k hkl2
        have hix := fun wx => run_indexS (P := Try.prog) wx 22 3 iI 1 Try.underlying22 hiI hsI a2 n2 c2 k hl2 ((HS.out.now).2.2.1.some_ (by have := hl2; omega))
        rw [hpl] at hix
        have HIf := Lib.hid hix
        clear hix hpl
        rw [HY.out] at e0
        replace HS := Lib.hid ((Ev.cell e0).and HS.out)
        clear e0
        have qe := (HS.out.now).2.1
        have hix := HIe.out
        have qf := (HS.out.now).1
        have hiy := HIf.out
        by_cases hxy : x < y
        case pos =>
          go_wp2_with (go_at_call 90; refine (cmpi_as x y (-1) (if_pos hxy) _).mono ?_; rintro e wz ⟨rfl, rfl⟩)
          go_ret
          exact ⟨by rw [cmpL_lt xs ys k HEQ.out hkl hkl2 (by rw [HX.out, HY.out]; exact hxy)]; rfl, (HS.out.now).2.2.2.2.2⟩
        case neg =>
          by_cases hyx : y < x
          case pos =>
            go_wp2_with (go_at_call 90; refine (cmpi_as x y 1 (by rw [if_neg hxy, if_pos hyx]) _).mono ?_; rintro e wz ⟨rfl, rfl⟩)
            go_ret
            exact ⟨by rw [cmpL_gt xs ys k HEQ.out hkl hkl2 (by rw [HX.out, HY.out]; exact hyx)]; rfl, (HS.out.now).2.2.2.2.2⟩
          case neg =>
            go_wp2_with (go_at_call 90; refine (cmpi_as x y 0 (by rw [if_neg hxy, if_neg hyx]) _).mono ?_; rintro e wz ⟨rfl, rfl⟩)
            go_roundw
            case rel => exact ⟨k + 1, by omega, by omega, by go_num, by rw [take_snoc' xs k hkl, take_snoc' ys k hkl2, HEQ.out, HX.out, HY.out, show x = y by omega], (HS.out.now).2.2.1⟩
            case measure => simp [intOf]; omega
      case neg =>
        obtain rfl : k = n2 := by omega
        have z1 : decide ((k : Int) ≤ (k : Int)) = true := by simp
        obtain ⟨x, HX0⟩ : ∃ qz, xs[k] = qz := ⟨_, rfl⟩
        have HX := Lib.hid HX0
        clear HX0
        obtain ⟨eb, eo, hpl, e0⟩ := rd1 (HS.out.now).2.2.1 k hkl
        have hix := fun wx => run_indexS (P := Try.prog) wx 22 3 iI 1 Try.underlying22 hiI hsI a n c k hlt ((HS.out.now).2.2.1.some_ (by have := hlt; omega))
        rw [hpl] at hix
        have HIe := Lib.hid hix
        clear hix hpl
        rw [HX.out] at e0
        replace HS := Lib.hid ((Ev.cell e0).and HS.out)
        clear e0
        have qe := (HS.out.now).1
        have hix := HIe.out
        go_wp2_with fail
        go_ret
        exact ⟨by rw [cmpL_end1 xs ys (by rw [HN2.out, HEQ.out, List.take_of_length_le (by rw [HN2.out]; exact Nat.le_refl _)]) (by rw [HN2.out]; exact hkl)]; rfl, (HS.out.now).2.2.2.2⟩
    case neg =>
      obtain rfl : k = n := by omega
      have z0 : decide ((k : Int) < (k : Int)) = false := by simp
      have hx : xs = ys.take xs.length := by have := HEQ.out; rw [List.take_of_length_le (by rw [HN.out]; exact Nat.le_refl _)] at this; rw [HN.out]; exact this
      have HX := Lib.hid hx
      clear hx
      by_cases hl2 : k < n2
      case pos =>
        have z1 : decide ((k : Int) < (n2 : Int)) = true := by simp; omega
        go_wp2_with fail
        go_ret
        exact ⟨by rw [cmpL_end2 xs ys HX.out (by rw [HN.out, HN2.out]; exact hl2)]; rfl, (HS.out.now).2.2.2⟩
      case neg =>
        have z1 : decide ((k : Int) < (n2 : Int)) = false := by simp; omega
        go_wp2_with fail
        go_ret
        exact ⟨by rw [cmpL_end0 xs ys HX.out (by rw [HN.out, HN2.out]; omega)]; rfl, (HS.out.now).2.2.2⟩
theorem wcmp_any (w : World) (a : Option Addr) (n c : Nat) (xs : List Int) (hn : xs.length = n) (hr : Rd w 1 (.slice a n c) n (xs.map (Value.int .i64))) (hb : n ≤ 100000) (a2 : Option Addr) (n2 c2 : Nat) (ys : List Int) (hn2 : ys.length = n2) (hr2 : Rd w 1 (.slice a2 n2 c2) n2 (ys.map (Value.int .i64))) (hb2 : n2 ≤ 100000) :
    Calls Try.prog 45 #[.slice a n c, .slice a2 n2 c2] w fun e w' => e = .returned (.int .i64 (cmpL xs ys)) ∧ Mod (fun _ => False) w w' := by
  go_enter Try.func45, Try.ntmps45
  go_wp2_with fail
  refine (scmp_any w a n c xs hn hr hb a2 n2 c2 ys hn2 hr2 hb2).mono ?_
  rintro e w1 ⟨rfl, hm⟩
  have HM := Lib.hid hm
  clear hm
  go_wp2_with fail
  go_ret
  exact ⟨rfl, HM.out⟩
end Go.Proofs.Ytmpcpmgpnccphaa
