/- TurnsOnly walked. -/
import Derived.Test.YtmpcpmgpnccphaaMade7
import Derived.Test.YtmpcpmgpnccphaaAwake7
import Derived.Test.YtmpcpmgpnccphaaArcs
import Derived.Test.YtmpcpmgpnccphaaOnlyP
import Derived.Test.YtmpcpmgpnccphaaRegion3
import Derived.Deep.DeepCutAuto
import Derived.Deep.CutBlock
namespace Go.Proofs.Ytmpcpmgpnccphaa
open Go.RowKit Mile
set_option maxRecDepth 100000
/-- What each operation of the statement leaves. -/
def to_r10_0_F (t p j x pr : Nat) (G : GD) : List (Bool × (Value → World → Prop)) :=
  [(true, IsV (.int .i64 (x : Int))),
   (true, IsV (.pointer (some ⟨t, 0, none⟩))),
   (true, IsV (.pointer (some ⟨t, 0, none⟩))),
   (true, IsV (.pointer (some ⟨t, 0, none⟩))),
   (true, IsV (.pointer (some ⟨p, 0, none⟩))),
   (true, IsV (.int .i64 (j : Int))),
   (false, IRow (gIn G (j : Int))),
   (true, IsV (.int .i64 (((gIn G (j : Int)).length : Int)))),
   (true, IsV (.pointer (some ⟨t, 0, none⟩))),
   (true, IsV (.pointer (some ⟨t, 0, none⟩))),
   (true, IsV (.pointer (some ⟨t, 0, none⟩))),
   (true, IsV (.pointer (some ⟨p, 0, none⟩))),
   (true, IsV (.int .i64 (j : Int))),
   (false, IRow (gOut G (j : Int))),
   (true, IsV (.int .i64 (((gOut G (j : Int)).length : Int)))),
   (true, IsV (.int .i64 (pr : Int))),
   (true, IsV (.int .i64 (((x : Int) + (pr : Int)))))]
def to_r10_0_D : List (List Nat) := [[], [], [1], [2], [3], [], [4, 5], [6], [], [8], [9], [10], [], [11, 12], [13], [7, 14], [0, 15]]
def to_r10_0_C : List Nat := [1000, 1000, 1000, 1000, 1000, 1000, 1000, 1000, 1000, 1000, 1000, 1000, 1000, 1000, 1000, 1000, 1000]

set_option maxHeartbeats 64000000 in
theorem tonly_all (w : World) (a0 : Option Addr) (m c0 : Nat) (l : List Int) (hm : l.length = m) (hr : Rd w 1 (.slice a0 m c0) m (l.map (Value.int .i64))) :
    Calls Try.prog 5 #[.slice a0 m c0] w fun e w' => e = .returned (.bool true) ∧ Mod (fun _ => False) w w' := by
  by_cases hlen : m ≤ 100
  case neg =>
    have HS : Hid (Ev (Mod (fun _ => False) w) w) := Lib.hid (Ev.mod w)
    have z0 : decide (100 < (m : Int)) = true := by simp; omega
    have z1 : decide (100 < m) = true := by simp; omega
    go_enter Try.func5, Try.ntmps5
    go_wp2_with fail
    refine (awake7_any _).mono ?_
    rintro e wq1 ⟨rfl, hm⟩
    replace HS := Lib.hid (HS.out.step hm)
    clear hm
    go_wp2_with fail
    go_ret
    exact ⟨rfl, HS.out.now⟩
  have HS : Hid (Ev (Mod (fun _ => False) w) w) := Lib.hid (Ev.mod w)
  replace HS := Lib.hid ((Ev.rd hr).and HS.out)
  have z0 : decide (100 < (m : Int)) = false := by simp; omega
  have z1 : decide (100 < m) = false := by simp; omega
  go_enter Try.func5, Try.ntmps5
  go_wp2_with fail
  refine (made7_any _ a0 m c0 l hm ((HS.out.now).1)).mono ?_
  rintro e wq2 ⟨a1, n1, d1, a2, n2, d2, a3, n3, d3, t, p, B, C, rfl, hg, hto, hmm⟩
  replace HS := Lib.hid (HS.out.step hmm)
  clear hmm
  replace HS := Lib.hid ((Ev.gv hg).and HS.out)
  replace HS := Lib.hid ((Ev.to hto).and HS.out)
  clear hg hto z0 z1
  have hmay := Lib.hid (town_may l)
  have hfew := Lib.hid (town_few l)
  obtain ⟨G, hG⟩ : ∃ G, townG l = G := ⟨_, rfl⟩
  rw [hG] at hmay hfew
  rw [hG] at HS
  clear hG
  have hn := Lib.hid ((HS.out.now).2.1.n)
  have he := Lib.hid ((HS.out.now).2.1.e)
  have hb := Lib.hid ((HS.out.now).2.1.b)
  have h1n : n1 ≤ 16 := by have := hfew.out.1.2; have := hn.out; omega
  have h2n : n2 ≤ 67 := by have := hfew.out.2.1.2; have := he.out; omega
  have h3n : n3 ≤ 469 := by have := hfew.out.2.2; have := hb.out; omega
  have hpr : Hid (∀ v : Nat, (gIn G (v : Int)).length * (gOut G (v : Int)).length ≤ 4489) := Lib.hid fun v => Nat.le_trans (Nat.mul_le_mul (show (gIn G (v : Int)).length ≤ 67 by have := gIn_len G (v : Int); have := he.out; omega) (show (gOut G (v : Int)).length ≤ 67 by have := gOut_len G (v : Int); have := he.out; omega)) (by decide)
  go_wp2_with fail
  obtain ⟨bg, hbg⟩ : ∃ b, wq2.heap.size = b := ⟨_, rfl⟩
  obtain ⟨wq3, hwq3⟩ : ∃ W, World.alloc wq2 (.cells #[.slice a1 n1 d1, .slice a2 n2 d2, .slice a3 n3 d3] 28) = W := ⟨_, rfl⟩
  have hBbg : Blk wq3 bg 28 [.slice a1 n1 d1, .slice a2 n2 d2, .slice a3 n3 d3] := by rw [← hwq3, ← hbg]; exact Blk.new _ 28 [.slice a1 n1 d1, .slice a2 n2 d2, .slice a3 n3 d3]
  have hzbg : wq3.heap.size = bg + 1 := by rw [← hwq3, ← hbg]; exact heap_size_alloc _ _
  replace HS := Lib.hid (HS.out.step (w' := wq3) (by rw [← hwq3]; exact Mod.alloc _ _ _))
  replace HS := Lib.hid ((Ev.blk hBbg).and HS.out)
  try rw [hwq3]
  try rw [hbg]
  clear hzbg hBbg hbg hwq3
  have hbbg := (HS.out.now).1
  have qbg_0 := hbbg.cell 0 rfl
  have qbg_1 := hbbg.cell 1 rfl
  have qbg_2 := hbbg.cell 2 rfl
  have lbg := hbbg.lt
  clear hbbg
  go_wp2_with fail
  clear qbg_0 qbg_1 qbg_2 lbg
  replace HS := Lib.hid ((Ev.mod wq3).and HS.out)
  go_loopw [5, 6] (fun s i wr => ∃ j x : Nat, j ≤ n1 ∧ i = .int .i64 j ∧ s = .int .i64 x ∧ x = sumN (fun v : Nat => (gIn G (v : Int)).length * (gOut G (v : Int)).length) j ∧ Mod (fun _ => False) wq3 wr) (fun _ i _ => n1 - (intOf i).toNat)
  case atStart => exact ⟨0, 0, by omega, rfl, rfl, rfl, Mod.refl _ _⟩
  case round =>
    obtain ⟨j, x, hj, rfl, rfl, hx, hmr⟩ := hrel
    obtain ⟨wo, hwo⟩ : ∃ x : World, x = wr := ⟨_, rfl⟩
    subst hwo
    have hxb : x ≤ 71824 := by rw [hx]; have h1 := sumN_le (f := (fun v : Nat => (gIn G (v : Int)).length * (gOut G (v : Int)).length)) (c := 4489) (n := j) (fun i _ => hpr.out i); have h2 : j * 4489 ≤ 16 * 4489 := Nat.mul_le_mul_right _ (by omega); omega
    have HX := Lib.hid hx
    clear hx
    replace HS := Lib.hid (HS.out.step hmr)
    clear hmr
    have hbbg := (HS.out.now).2.1
    have qbg_0 := hbbg.cell 0 rfl
    have qbg_1 := hbbg.cell 1 rfl
    have qbg_2 := hbbg.cell 2 rfl
    have lbg := hbbg.lt
    clear hbbg
    by_cases hlt : j < n1
    case pos =>
      have z0 : decide ((j : Int) < (n1 : Int)) = true := by simp; omega
      obtain ⟨pr, hpe⟩ : ∃ n, (gIn G (j : Int)).length * (gOut G (j : Int)).length = n := ⟨_, rfl⟩
      have hpl : pr ≤ 4489 := by rw [← hpe]; exact hpr.out j
      have HPE := Lib.hid hpe
      clear hpe
      go_upto_region 10 with fail
      clear qbg_0 qbg_1 qbg_2 lbg
      have HSd := Lib.hid HS.out.drew
      have HST : ∀ (ix : Nat) (vx : Value) (wx wy : World), factOf (to_r10_0_F t p j x pr G) ix vx wx → Mod (fun _ => False) wx wy → factOf (to_r10_0_F t p j x pr G) ix vx wy := by
        refine fact_stays ?_
        intro f hf
        simp only [to_r10_0_F, List.mem_cons, List.not_mem_nil, or_false] at hf
        rcases hf with rfl | rfl | rfl | rfl | rfl | rfl | rfl | rfl | rfl | rfl | rfl | rfl | rfl | rfl | rfl | rfl | rfl <;> first | exact stable_val _ | exact stable_new | exact IRow.st _
      have HSO : ∀ px ∈ (to_r10_0_F t p j x pr G), px.1 = true → ∀ (vx : Value) (wx wy : World), px.2 vx wx → px.2 vx wy := by
        intro f hf
        simp only [to_r10_0_F, List.mem_cons, List.not_mem_nil, or_false] at hf
        rcases hf with rfl | rfl | rfl | rfl | rfl | rfl | rfl | rfl | rfl | rfl | rfl | rfl | rfl | rfl | rfl | rfl | rfl <;> first | exact fun _ _ _ _ h => h | (intro h; cases h)
      refine wp_region_mut (Mod (fun _ => False)) (factOf (to_r10_0_F t p j x pr G)) (fun i => to_r10_0_C.getD i 1000) (Mod (fun _ => False) (World.drew wo)) 16 (fun i => to_r10_0_D.getD i []) 17 _ rfl rfl (by kernel_rfl) (by kernel_rfl) (by kernel_rfl) (by kernel_rfl) (by kernel_rfl) (fun _ => Mod.refl _ _)
        (fun _ _ _ h k => h.trans k (fun _ _ e => e) (fun _ _ e => e)) (Mod.refl _ _) ?_ ?_
      · refine opsOkM_cons ?_ ?_
        · intro K vs W hR hD hI hL hK
          clear hD
          have dqL : vs 17 = .int .i64 (x : Int) := hL
          clear hL
          replace hI := hI (.inr (by kernel_rfl))
          simp only [putAll, Nat.zero_add, Nat.reduceAdd, Act.put, List.setIfInBounds_toArray, List.set_cons_succ, List.set_cons_zero] at hK ⊢
          generalize vs 17 = vqL at hK dqL ⊢
          subst vqL
          go_wp2
          exact hK _ _ rfl (fun _ _ _ h => h) (fun _ _ h => h) (Mod.refl _ _)
        refine opsOkM_cons ?_ ?_
        · intro K vs W hR hD hI hL hK
          clear hD
          clear hL
          replace hI := hI (.inr (by kernel_rfl))
          simp only [putAll, Nat.zero_add, Nat.reduceAdd, Act.put, List.setIfInBounds_toArray, List.set_cons_succ, List.set_cons_zero] at hK ⊢
          go_wp2
          exact hK _ _ rfl (fun _ _ _ h => h) (fun _ _ h => h) (Mod.refl _ _)
        refine opsOkM_cons ?_ ?_
        · intro K vs W hR hD hI hL hK
          have dq1 : vs 1 = .pointer (some ⟨t, 0, none⟩) := hD 1 (by decide)
          clear hD
          clear hL
          replace hI := hI (.inr (by kernel_rfl))
          simp only [putAll, Nat.zero_add, Nat.reduceAdd, Act.put, List.setIfInBounds_toArray, List.set_cons_succ, List.set_cons_zero] at hK ⊢
          generalize vs 1 = vq1 at hK dq1 ⊢
          subst vq1
          go_wp2
          exact hK _ _ rfl (fun _ _ _ h => h) (fun _ _ h => h) (Mod.refl _ _)
        refine opsOkM_cons ?_ ?_
        · intro K vs W hR hD hI hL hK
          have dq2 : vs 2 = .pointer (some ⟨t, 0, none⟩) := hD 2 (by decide)
          clear hD
          clear hL
          replace hI := hI (.inr (by kernel_rfl))
          simp only [putAll, Nat.zero_add, Nat.reduceAdd, Act.put, List.setIfInBounds_toArray, List.set_cons_succ, List.set_cons_zero] at hK ⊢
          generalize vs 2 = vq2 at hK dq2 ⊢
          subst vq2
          go_wp2
          exact hK _ _ rfl (fun _ _ _ h => h) (fun _ _ h => h) (Mod.refl _ _)
        refine opsOkM_cons ?_ ?_
        · intro K vs W hR hD hI hL hK
          have dq3 : vs 3 = .pointer (some ⟨t, 0, none⟩) := hD 3 (by decide)
          clear hD
          clear hL
          replace hI := hI (.inr (by kernel_rfl))
          simp only [putAll, Nat.zero_add, Nat.reduceAdd, Act.put, List.setIfInBounds_toArray, List.set_cons_succ, List.set_cons_zero] at hK ⊢
          generalize vs 3 = vq3 at hK dq3 ⊢
          subst vq3
          have q0 := ((HSd.out.at (hI)).2.2.1).blk.cell 0 rfl
          go_wp2
          exact hK _ _ rfl (fun _ _ _ h => h) (fun _ _ h => h) (Mod.refl _ _)
        refine opsOkM_cons ?_ ?_
        · intro K vs W hR hD hI hL hK
          clear hD
          clear hL
          replace hI := hI (.inr (by kernel_rfl))
          simp only [putAll, Nat.zero_add, Nat.reduceAdd, Act.put, List.setIfInBounds_toArray, List.set_cons_succ, List.set_cons_zero] at hK ⊢
          go_wp2
          exact hK _ _ rfl (fun _ _ _ h => h) (fun _ _ h => h) (Mod.refl _ _)
        refine opsOkM_cons ?_ ?_
        · intro K vs W hR hD hI hL hK
          have dq4 : vs 4 = .pointer (some ⟨p, 0, none⟩) := hD 4 (by decide)
          have dq5 : vs 5 = .int .i64 (j : Int) := hD 5 (by decide)
          clear hD
          clear hL
          replace hI := hI (.inr (by kernel_rfl))
          simp only [putAll, Nat.zero_add, Nat.reduceAdd, Act.put, List.setIfInBounds_toArray, List.set_cons_succ, List.set_cons_zero] at hK ⊢
          generalize vs 4 = vq4 at hK dq4 ⊢
          subst vq4
          generalize vs 5 = vq5 at hK dq5 ⊢
          subst vq5
          go_wp2_with (go_at_call 30; refine (in_row p B C W G ((HSd.out.at (hI)).2.2.1).go (j : Int)).mono ?_; rintro e' w' ⟨x', rfl, hx', hm'⟩)
          exact hK _ _ hx' (fun j u _ h => HST j u _ _ h hm') (fun _ _ h => h.of2 hm') (hm'.mono (fun _ _ e => e.elim))
        refine opsOkM_cons ?_ ?_
        · intro K vs W hR hD hI hL hK
          have dq6 : (IRow (gIn G (j : Int))) (vs 6) W := hD 6 (by decide)
          clear hD
          clear hL
          replace hI := hI (.inr (by kernel_rfl))
          simp only [putAll, Nat.zero_add, Nat.reduceAdd, Act.put, List.setIfInBounds_toArray, List.set_cons_succ, List.set_cons_zero] at hK ⊢
          generalize vs 6 = vq6 at hK dq6 ⊢
          obtain ⟨ax6, cx6, rfl, hx6⟩ := dq6
          go_wp2_with fail
          exact hK _ _ rfl (fun _ _ _ h => h) (fun _ _ h => h) (Mod.refl _ _)
        refine opsOkM_cons ?_ ?_
        · intro K vs W hR hD hI hL hK
          clear hD
          clear hL
          replace hI := hI (.inr (by kernel_rfl))
          simp only [putAll, Nat.zero_add, Nat.reduceAdd, Act.put, List.setIfInBounds_toArray, List.set_cons_succ, List.set_cons_zero] at hK ⊢
          go_wp2
          exact hK _ _ rfl (fun _ _ _ h => h) (fun _ _ h => h) (Mod.refl _ _)
        refine opsOkM_cons ?_ ?_
        · intro K vs W hR hD hI hL hK
          have dq8 : vs 8 = .pointer (some ⟨t, 0, none⟩) := hD 8 (by decide)
          clear hD
          clear hL
          replace hI := hI (.inr (by kernel_rfl))
          simp only [putAll, Nat.zero_add, Nat.reduceAdd, Act.put, List.setIfInBounds_toArray, List.set_cons_succ, List.set_cons_zero] at hK ⊢
          generalize vs 8 = vq8 at hK dq8 ⊢
          subst vq8
          go_wp2
          exact hK _ _ rfl (fun _ _ _ h => h) (fun _ _ h => h) (Mod.refl _ _)
        refine opsOkM_cons ?_ ?_
        · intro K vs W hR hD hI hL hK
          have dq9 : vs 9 = .pointer (some ⟨t, 0, none⟩) := hD 9 (by decide)
          clear hD
          clear hL
          replace hI := hI (.inr (by kernel_rfl))
          simp only [putAll, Nat.zero_add, Nat.reduceAdd, Act.put, List.setIfInBounds_toArray, List.set_cons_succ, List.set_cons_zero] at hK ⊢
          generalize vs 9 = vq9 at hK dq9 ⊢
          subst vq9
          go_wp2
          exact hK _ _ rfl (fun _ _ _ h => h) (fun _ _ h => h) (Mod.refl _ _)
        refine opsOkM_cons ?_ ?_
        · intro K vs W hR hD hI hL hK
          have dq10 : vs 10 = .pointer (some ⟨t, 0, none⟩) := hD 10 (by decide)
          clear hD
          clear hL
          replace hI := hI (.inr (by kernel_rfl))
          simp only [putAll, Nat.zero_add, Nat.reduceAdd, Act.put, List.setIfInBounds_toArray, List.set_cons_succ, List.set_cons_zero] at hK ⊢
          generalize vs 10 = vq10 at hK dq10 ⊢
          subst vq10
          have q0 := ((HSd.out.at (hI)).2.2.1).blk.cell 0 rfl
          go_wp2
          exact hK _ _ rfl (fun _ _ _ h => h) (fun _ _ h => h) (Mod.refl _ _)
        refine opsOkM_cons ?_ ?_
        · intro K vs W hR hD hI hL hK
          clear hD
          clear hL
          replace hI := hI (.inr (by kernel_rfl))
          simp only [putAll, Nat.zero_add, Nat.reduceAdd, Act.put, List.setIfInBounds_toArray, List.set_cons_succ, List.set_cons_zero] at hK ⊢
          go_wp2
          exact hK _ _ rfl (fun _ _ _ h => h) (fun _ _ h => h) (Mod.refl _ _)
        refine opsOkM_cons ?_ ?_
        · intro K vs W hR hD hI hL hK
          have dq11 : vs 11 = .pointer (some ⟨p, 0, none⟩) := hD 11 (by decide)
          have dq12 : vs 12 = .int .i64 (j : Int) := hD 12 (by decide)
          clear hD
          clear hL
          replace hI := hI (.inr (by kernel_rfl))
          simp only [putAll, Nat.zero_add, Nat.reduceAdd, Act.put, List.setIfInBounds_toArray, List.set_cons_succ, List.set_cons_zero] at hK ⊢
          generalize vs 11 = vq11 at hK dq11 ⊢
          subst vq11
          generalize vs 12 = vq12 at hK dq12 ⊢
          subst vq12
          go_wp2_with (go_at_call 31; refine (out_row p B C W G ((HSd.out.at (hI)).2.2.1).go (j : Int)).mono ?_; rintro e' w' ⟨x', rfl, hx', hm'⟩)
          exact hK _ _ hx' (fun j u _ h => HST j u _ _ h hm') (fun _ _ h => h.of2 hm') (hm'.mono (fun _ _ e => e.elim))
        refine opsOkM_cons ?_ ?_
        · intro K vs W hR hD hI hL hK
          have dq13 : (IRow (gOut G (j : Int))) (vs 13) W := hD 13 (by decide)
          clear hD
          clear hL
          replace hI := hI (.inr (by kernel_rfl))
          simp only [putAll, Nat.zero_add, Nat.reduceAdd, Act.put, List.setIfInBounds_toArray, List.set_cons_succ, List.set_cons_zero] at hK ⊢
          generalize vs 13 = vq13 at hK dq13 ⊢
          obtain ⟨ax13, cx13, rfl, hx13⟩ := dq13
          go_wp2_with fail
          exact hK _ _ rfl (fun _ _ _ h => h) (fun _ _ h => h) (Mod.refl _ _)
        refine opsOkM_cons ?_ ?_
        · intro K vs W hR hD hI hL hK
          have dq7 : vs 7 = .int .i64 (((gIn G (j : Int)).length : Int)) := hD 7 (by decide)
          have dq14 : vs 14 = .int .i64 (((gOut G (j : Int)).length : Int)) := hD 14 (by decide)
          clear hD
          clear hL
          replace hI := hI (.inr (by kernel_rfl))
          simp only [putAll, Nat.zero_add, Nat.reduceAdd, Act.put, List.setIfInBounds_toArray, List.set_cons_succ, List.set_cons_zero] at hK ⊢
          generalize vs 7 = vq7 at hK dq7 ⊢
          subst vq7
          generalize vs 14 = vq14 at hK dq14 ⊢
          subst vq14
          have zp : ((gIn G (j : Int)).length : Int) * ((gOut G (j : Int)).length : Int) = (pr : Int) := by rw [← HPE.out, Int.natCast_mul]
          go_wp2
          exact hK _ _ rfl (fun _ _ _ h => h) (fun _ _ h => h) (Mod.refl _ _)
        refine opsOkM_cons ?_ ?_
        · intro K vs W hR hD hI hL hK
          have dq0 : vs 0 = .int .i64 (x : Int) := hD 0 (by decide)
          have dq15 : vs 15 = .int .i64 (pr : Int) := hD 15 (by decide)
          clear hD
          clear hL
          replace hI := hI (.inl rfl)
          simp only [putAll, Nat.zero_add, Nat.reduceAdd, Act.put, List.setIfInBounds_toArray, List.set_cons_succ, List.set_cons_zero] at hK ⊢
          generalize vs 0 = vq0 at hK dq0 ⊢
          subst vq0
          generalize vs 15 = vq15 at hK dq15 ⊢
          subst vq15
          go_wp2
          exact hK _ _ rfl (fun _ _ _ h => h) (fun h _ => absurd rfl h) (Mod.refl _ _)
        exact opsOkM_nil
      · intro vs wq4 hR hF
        have dq16 : vs 16 = .int .i64 (((x : Int) + (pr : Int))) := hF 16 (by decide) (by decide)
        clear hF
        simp only [putAll, Nat.zero_add, Nat.reduceAdd, Act.put, List.setIfInBounds_toArray, List.set_cons_succ, List.set_cons_zero]
        generalize vs 16 = vq16 at dq16 ⊢
        subst vq16
        replace HS := Lib.hid (HSd.out.step hR)
        clear HSd hR
        have hbbg := (HS.out.now).2.1
        have qbg_0 := hbbg.cell 0 rfl
        have qbg_1 := hbbg.cell 1 rfl
        have qbg_2 := hbbg.cell 2 rfl
        have lbg := hbbg.lt
        clear hbbg
        go_wp2_with fail
        go_roundw
        case rel => exact ⟨j + 1, x + pr, hlt, by go_num, by go_num, by rw [sumN_succ, ← HX.out, ← HPE.out], (HS.out.now).1⟩
        case measure => simp [intOf]; omega
    case neg =>
      obtain rfl : j = n1 := by omega
      have z0 : decide ((j : Int) < (j : Int)) = false := by simp
      go_wp2_with fail
      clear qbg_0 qbg_1 qbg_2 lbg
      replace HS := Lib.hid ((Ev.mod wo).and HS.out)
      go_loopw [7, 8] (fun s i wr => ∃ k y : Nat, k ≤ n2 ∧ i = .int .i64 k ∧ s = .int .i64 y ∧ y = sumN (fun a : Nat => (nxtR G (a : Int)).length) k ∧ Mod (fun _ => False) wo wr) (fun _ i _ => n2 - (intOf i).toNat)
      case atStart => exact ⟨0, 0, by omega, rfl, rfl, rfl, Mod.refl _ _⟩
      case round =>
        obtain ⟨k, y, hk, rfl, rfl, hy, hmr⟩ := hrel
        obtain ⟨wq, hwo⟩ : ∃ x : World, x = wr := ⟨_, rfl⟩
        subst hwo
        have hyb : y ≤ 4489 := by rw [hy]; have h1 := sumN_le (f := (fun a : Nat => (nxtR G (a : Int)).length)) (c := 67) (n := k) (fun i _ => by have := nxtR_len G (i : Int); have := he.out; show (nxtR G (i : Int)).length ≤ 67; omega); have h2 : k * 67 ≤ 67 * 67 := Nat.mul_le_mul_right _ (by omega); omega
        have HY := Lib.hid hy
        clear hy
        replace HS := Lib.hid (HS.out.step hmr)
        clear hmr
        have hbbg := (HS.out.now).2.2.1
        have qbg_0 := hbbg.cell 0 rfl
        have qbg_1 := hbbg.cell 1 rfl
        have qbg_2 := hbbg.cell 2 rfl
        have lbg := hbbg.lt
        clear hbbg
        by_cases hlk : k < n2
        case pos =>
          have z1 : decide ((k : Int) < (n2 : Int)) = true := by simp; omega
          go_wp2_with fail
          refine (next_any t p B C G _ ((HS.out.now).2.2.2.1) (k : Int)).mono ?_
          rintro e wq5 ⟨x', rfl, ⟨ax, cx, rfl, hx'⟩, hmm⟩
          replace HS := Lib.hid (HS.out.step hmm)
          clear hmm
          clear hx'
          obtain ⟨ln, hln⟩ : ∃ n, (nxtR G (k : Int)).length = n := ⟨_, rfl⟩
          rw [hln]
          have hl1 : ln ≤ 67 := by rw [← hln]; have := nxtR_len G (k : Int); have := he.out; omega
          have HLN := Lib.hid hln
          clear hln
          clear qbg_0 qbg_1 qbg_2 lbg
          go_wp2_with fail
          go_roundw
          case rel => exact ⟨k + 1, y + ln, hlk, by go_num, by go_num, by rw [sumN_succ, ← HY.out, HLN.out], (HS.out.now).1⟩
          case measure => simp [intOf]; omega
        case neg =>
          obtain rfl : k = n2 := by omega
          have z1 : decide ((k : Int) < (k : Int)) = false := by simp
          have hcnt : y + n3 = x := by have h := turns_count G hmay.out; rw [he.out, hn.out, hb.out] at h; rw [HY.out, HX.out]; exact h
          have HAL : Hid ((arcsR G).length = y) := Lib.hid (by rw [arcs_count, he.out, HY.out])
          have z2 : (x : Int) - (n3 : Int) = (y : Int) := by omega
          have HCNT := Lib.hid hcnt
          clear hcnt
          clear qbg_0 qbg_1 qbg_2 lbg
          have hbbg := (HS.out.now).2.2.1
          have qbg_0 := hbbg.cell 0 rfl
          have qbg_1 := hbbg.cell 1 rfl
          have qbg_2 := hbbg.cell 2 rfl
          have lbg := hbbg.lt
          clear hbbg
          go_wp2_with fail
          refine (arcs_any t p B C G _ ((HS.out.now).2.2.2.1)).mono ?_
          rintro e wq6 ⟨x', rfl, ⟨ax, cx, rfl, hx'⟩, hmm⟩
          replace HS := Lib.hid (HS.out.step hmm)
          clear hmm
          clear hx'
          rw [HAL.out]
          clear qbg_0 qbg_1 qbg_2 lbg
          go_wp2_with fail
          refine (awake7_any _).mono ?_
          rintro e wq7 ⟨rfl, hmm⟩
          replace HS := Lib.hid (HS.out.step hmm)
          clear hmm
          go_wp2_with fail
          go_ret
          exact ⟨rfl, (HS.out.now).2.2.2.2.2.2⟩
theorem tonly_law (w : World) (a0 : Option Addr) (m c0 : Nat) (l : List Int) (ok : (encSlice (encInt .i64)).ok w (.slice a0 m c0, l)) :
    Calls Try.prog 5 #[.slice a0 m c0] w fun e w' => e = .returned (.bool true) ∧ Below w.heap.size w w' := by
  obtain ⟨hn, hr, _⟩ := ok_ints ok
  exact (tonly_all w a0 m c0 l hn hr).mono fun e w' h => ⟨h.1, h.2.below (Nat.le_refl _) (fun _ e => e.elim)⟩
end Go.Proofs.Ytmpcpmgpnccphaa
