/- channel's Recv of an Ack, by contract. -/
import Derived.Test.YtdahoecejnnjkaaCh5
namespace Go.Proofs.Ytdahoecejnnjkaa
open Go.RowKit Mile Go.Maps
set_option maxRecDepth 100000
/-- How many an Ack acks. -/
def ackN (x : ChS) (av : Int) : Nat := if (x.F : Int) < av ∧ av ≤ ((x.F + x.bs.length : Nat) : Int) then (av - (x.F : Int)).toNat else 0
/-- A Channel behind an Ack. -/
def ackC (x : ChS) (K : Nat) : ChS := ⟨x.F + K, x.o, stopN x.L x.F K, x.bs.drop K, x.N, x.f, x.os⟩
theorem ackC_zero (x : ChS) : ackC x 0 = x := by unfold ackC; simp [stopN_zero]
theorem dgs_one (conn ack : Int) : ∀ (l : List Value) (q : Nat), (∀ v ∈ l, v.oneCell' = true) → ∀ u ∈ dgs conn ack q l, u.oneCell' = true
  | [], _, _, u, hu => by simp [dgs] at hu
  | v :: l, q, h, u, hu => by
    rcases List.mem_append.1 (show u ∈ [Value.int .i64 conn, .int .i64 1, .int .i64 (q : Int), .int .i64 ack, .int .i64 0, v] ++ dgs conn ack (q + 1) l from hu) with hu | hu
    · simp at hu
      rcases hu with rfl | rfl | rfl | rfl | rfl | rfl
      all_goals first | rfl | exact h _ List.mem_cons_self
    · exact dgs_one conn ack l (q + 1) (fun z hz => h z (List.mem_cons_of_mem _ hz)) u hu
theorem stopN_le (L : List Wt) (F j : Nat) : (stopN L F j).length ≤ L.length := by
  induction j with
  | zero => exact Nat.le_refl _
  | succ j ih => rw [stopN_succ]; exact Nat.le_trans (stopW_sub _ _).length_le ih
section
variable {w : World} {p sp tp : Nat} {tb : Option Nat} {a : Option Addr} {c : Nat} {us : UdL} {kp kr : Nat} {ao : Option Addr} {co : Nat} {ou : UdL} {W B M R : Nat} {conn : Int} {x : ChS}
theorem chacked_any (h : CHm w p sp tp tb a c us kp kr ao co ou W B M R conn x) (hF : x.F ≤ 1000000000) (av : Int) : Calls Try.prog 38 #[.pointer (some ⟨sp, 0, none⟩), .int .i64 av] w fun e w' => ∃ r tb' a' c' us', e = .returned (.int .i64 r) ∧ CHm w' p sp tp tb' a' c' us' kp kr ao co ou W B M R conn (ackC x (ackN x av)) ∧ (∀ k, sdF sp tp tb' a' k → sdF sp tp tb a k ∨ w.heap.size ≤ k) ∧ Mod (sdF sp tp tb a) w w' := by
  by_cases hk : (x.F : Int) < av ∧ av ≤ ((x.F + x.bs.length : Nat) : Int)
  · obtain ⟨K, hK⟩ := Int.eq_ofNat_of_zero_le (show 0 ≤ av - (x.F : Int) by omega)
    have hKn : ackN x av = K := by unfold ackN; rw [if_pos hk, hK]; rfl
    rw [hKn]
    refine (sdacked_any h.sd (by omega) K (by omega) (by omega) av (by omega)).mono ?_
    rintro e w' ⟨he, hq⟩
    obtain ⟨tb', a', c', h1, h2, h3⟩ := h.sent hq
    have hst : (⟨x.F + K, x.o, stopN x.L x.F K, (us.drop K).map (·.1), x.N, x.f, x.os⟩ : ChS) = ackC x K := by unfold ackC; rw [List.map_drop, h.hb]
    rw [hst] at h1
    exact ⟨_, tb', a', c', us.drop K, he, h1, h2, h3⟩
  · have hKn : ackN x av = 0 := by unfold ackN; rw [if_neg hk]
    rw [hKn, ackC_zero]
    refine (sdacked_no h.sd (by omega) av (by omega)).mono ?_
    rintro e w' ⟨he, hm⟩
    exact ⟨_, tb, a, c, us, he, h.later hm, fun k hk => .inl hk, hm.trans (Mod.refl _ _) (fun _ _ e => e.elim) (fun _ _ e => e)⟩
/-- What Recv of an Ack leaves and tells. -/
def RecvA (p sp tp : Nat) (tb : Option Nat) (a : Option Addr) (kp kr : Nat) (ao : Option Addr) (W B M R : Nat) (conn : Int) (x : ChS) (now : Int) (w : World) (e : Ending) (w' : World) : Prop :=
  ∃ ag cg gl, e = .returned (.tuple #[.slice none 0 0, .slice ag (payN W x) cg]) ∧ PayO w w' conn (x.N : Int) (x.F + x.bs.length) (x.os.take (payN W x)) ag (payN W x) cg gl ∧ ChQ p sp tp tb a kp kr ao W B M R conn (payS x B now (payN W x)) w w'
set_option maxHeartbeats 8000000 in
theorem chrecv_ack (h : CHm w p sp tp tb a c us kp kr ao co ou W B M R conn x) (ho : x.o = false) (hos : x.os.length ≤ 1000) (hF : x.F + x.bs.length ≤ 1000000000) (hL : x.L.length ≤ 100000) (hbd : ∀ b ∈ x.os, b.length ≤ 1000000) (now : Int) (hnow : -1000000000000000000 ≤ now ∧ now ≤ 1000000000000000000) (gs ga gc : Int) (ab : Option Addr) (nb cb : Nat) :
    Calls Try.prog 15 #[.pointer (some ⟨p, 0, none⟩), .int .i64 now, .agg #[.int .i64 conn, .int .i64 2, .int .i64 gs, .int .i64 ga, .int .i64 gc, .slice ab nb cb]] w fun e w' => RecvA p sp tp tb a kp kr ao W B M R conn (ackC x (ackN x ga)) now w e w' := by
  obtain ⟨iG, hiG, hzG, hsG, hbG⟩ := info_parts Ch.infoG
  obtain ⟨y, hy⟩ : ∃ y, ackC x (ackN x ga) = y := ⟨_, rfl⟩
  have hyo : y.os = x.os := by rw [← hy]; rfl
  have hyL : y.L.length ≤ x.L.length := by rw [← hy]; exact stopN_le x.L x.F _
  have hyF : y.F ≤ x.F + x.bs.length := by rw [← hy]; show x.F + ackN x ga ≤ _; unfold ackN; split <;> omega
  have HYO := Lib.hid (⟨hyo, hyL, hyF⟩ : _ ∧ _ ∧ _)
  rw [hy]
  have HY := Lib.hid hy
  clear hyo hyL hyF hy
  obtain ⟨m, hm⟩ : ∃ z, payN W y = z := ⟨_, rfl⟩
  have hm64 : m ≤ 1000 := by rw [← hm]; unfold payN; rw [HYO.out.1]; split; omega; exact Nat.le_trans (Nat.min_le_right _ _) hos
  unfold RecvA
  rw [hm]
  have HM := Lib.hid hm
  clear hm
  obtain ⟨g, hg⟩ : ∃ y, w.heap.size = y := ⟨_, rfl⟩
  obtain ⟨wA, hwA⟩ : ∃ y, w.alloc (.cells #[.int .i64 conn, .int .i64 2, .int .i64 gs, .int .i64 ga, .int .i64 gc, .slice ab nb cb] 40) = y := ⟨_, rfl⟩
  have hgA : Blk wA g 40 [.int .i64 conn, .int .i64 2, .int .i64 gs, .int .i64 ga, .int .i64 gc, .slice ab nb cb] := by rw [← hwA, ← hg]; exact Blk.new w 40 [.int .i64 conn, .int .i64 2, .int .i64 gs, .int .i64 ga, .int .i64 gc, .slice ab nb cb]
  have hmA : Mod (fun _ => False) w wA := by rw [← hwA]; exact Mod.alloc _ _ _
  have hA := h.later hmA
  have HG : Hid (∀ W', Mod (fun _ => False) wA W' → Calls Try.prog 34 #[.pointer (some ⟨p, 0, none⟩)] W' fun e w' => e = .returned (.bool false) ∧ W' = w') := Lib.hid (fun W' m => by have h1 := chgone_any (hA.later m); rwa [ho] at h1)
  have c2 := hA.blk.cell 2 rfl
  have g0 := hgA.cell 0 rfl
  have g1 := hgA.cell 1 rfl
  have HA := Lib.hid hA
  have HGA := Lib.hid hgA
  have HMA := Lib.hid hmA
  have HX := Lib.hid (⟨hF, hL, hbd, hnow, hos⟩ : _ ∧ _ ∧ _ ∧ _ ∧ _)
  have hFx : x.F ≤ 1000000000 := by omega
  clear h ho hos hF hL hbd hnow hgA hmA hA
  go_enter Try.func15, Try.ntmps15
  go_upto_region 1 with fail
  (try rw [hwA])
  (try rw [hg])
  clear hwA hg
  go_quiet ((go_at_call 34; exact Calls.quiet_of_same ((HG.out _ (by first | exact Mod.refl _ _ | exact Mod.drew _ _ | exact Mod.drewN _ _ _)).mono fun e w' h => ⟨h.1, h.2.symm⟩)))
  obtain ⟨wB, hwB⟩ : ∃ y, World.drewN wA nq = y := ⟨_, rfl⟩
  have hmB : Mod (fun _ => False) wA wB := by rw [← hwB]; exact Mod.drewN _ _ _
  have hB := HA.out.later hmB
  have hgB := HGA.out.keep hmB (fun e => e)
  have d0 := hB.blk.cell 0 rfl
  have e3 := hgB.cell 3 rfl
  have e1 := hgB.cell 1 rfl
  have HMB := Lib.hid (HMA.out.of2 hmB)
  have HAK := Lib.hid (fun W' (m : Mod (fun _ => False) wB W') => (by have h1 := chacked_any (hB.later m) hFx ga; rw [HY.out] at h1; exact h1))
  have HGB := Lib.hid hgB
  have HBB := Lib.hid hB
  (try rw [hwB])
  clear hwB hmB hgB hB c2 g0 g1 HG HA HGA HMA
  go_upto_region 3 with fail
  go_still_tail 6, (by kernel_rfl)
  change wpList _ _ _ _ _ (World.drew wB)
  go_wp2_with (first | (go_at_call 38; refine (HAK.out _ (Mod.drew _ _)).mono ?_; rintro e w3 ⟨r3, tb3, a3, c3, us3, rfl, h3, hn3, hm3⟩; have hbd3 := HBB.out.later (Mod.drew (fun _ => False) wB); have hgd3 := HGB.out.keep (Mod.drew (fun _ => False) wB) (fun e => e); have hg3 := hgd3.keep hm3 (fun e => hbd3.gram (TyB.blk hgd3) (.inr (.inl e))); have e1 := hg3.cell 1 rfl; have H3 := Lib.hid h3; have HN3 := Lib.hid hn3; have HM3 := Lib.hid hm3; clear h3 hn3 hm3 hbd3 hgd3 hg3 HAK d0 e3))
  have hyo := HYO.out.1
  have hyL := HYO.out.2.1
  have hyF := HYO.out.2.2
  have hpay := chpay_any H3.out (by have := HX.out.1; omega) (by rw [hyo]; exact HX.out.2.2.2.2) (by have := HX.out.2.1; omega) (by rw [hyo]; exact HX.out.2.2.1) now HX.out.2.2.2.1
  unfold PayP at hpay
  rw [HM.out] at hpay
  have HPAY := Lib.hid hpay
  clear hpay hyL hyF hyo e1
  skip
  skip
  refine HPAY.out.mono ?_
  rintro e w4 ⟨ag, cg, gl, rfl, hpo, hq⟩
  have hrd := Rd.ofOwn hpo.own
  have h1c := dgs_one conn (y.N : Int) (gl.map (·.2)) (y.F + y.bs.length) (fun v hv => by obtain ⟨u, hu, rfl⟩ := List.mem_map.1 hv; obtain ⟨_, _, _, g1, _⟩ := (hpo.bodies u hu).1; rw [g1]; rfl)
  have hmx1 : 0 + m ≤ maxLen := by unfold maxLen; omega
  have hmx2 : (0 + m) * 64 ≤ 140737488355328 := by omega
  have HPO := Lib.hid hpo
  have HQ := Lib.hid hq
  clear hpo hq
  go_wp2_with (first | (at_builtin; refine wpList_append_any rfl (.tmp 65) (.tmp 68) 36 rfl 40 iG (.agg #[.int .i64 0, .int .i64 0, .int .i64 0, .int .i64 0, .int .i64 0, .slice none 0 0]) 6 64 Try.underlying36 hiG hzG hsG hbG rfl (by decide) _ 0 [] rfl (World.ownsRow_nil _ _ _ _) _ m _ rfl hrd h1c hmx1 hmx2 ?_; intro v7 w7 hap; obtain ⟨a7, c7, rfl⟩ := hap.form; have HAP := Lib.hid hap; clear hap))
  (try go_wp2_with fail)
  go_ret2
  have hm47 : Mod (fun _ => False) w4 w7 := HAP.out.mod.trans (Mod.refl (fun _ => False) _) (fun k _ e => by cases e) (fun _ _ e => e)
  have hs3 : w.heap.size ≤ w3.heap.size := by have h1 := HMB.out.size; have h2 := HM3.out.size; have h3 : (World.drew wB).heap.size = wB.heap.size := rfl; omega
  have hs4 : w3.heap.size ≤ w4.heap.size := by obtain ⟨_, _, _, _, _, _, _, _, _, hm⟩ := HQ.out; exact hm.size
  have hmd3 : Mod (chF p sp tp tb a kp kr ao) w w3 := (HMB.out.trans (Mod.drew (fun _ => False) wB) (H := fun _ => False) (fun _ _ e => e) (fun _ _ e => e)).trans HM3.out (fun _ _ e => e.elim) (fun _ _ e => .inr (.inl e))
  have hn : ∀ k, chF p sp tp tb3 a3 kp kr ao k → chF p sp tp tb a kp kr ao k ∨ w.heap.size ≤ k := fun k hk => by
    rcases hk with e | e | e | e | e
    · exact .inl (.inl e)
    · rcases HN3.out k e with g | g
      · exact .inl (.inr (.inl g))
      · exact .inr (by have h1 := HMB.out.size; have h3 : (World.drew wB).heap.size = wB.heap.size := rfl; omega)
    · exact .inl (.inr (.inr (.inl e)))
    · exact .inl (.inr (.inr (.inr (.inl e))))
    · exact .inl (.inr (.inr (.inr (.inr e))))
  have hq7 : ChQ p sp tp tb3 a3 kp kr ao W B M R conn (payS y B now m) w3 w7 := by
    obtain ⟨tb4, a4, c4, us4, ao4, co4, ou4, k1, k2, k3⟩ := HQ.out
    exact ⟨tb4, a4, c4, us4, ao4, co4, ou4, k1.later hm47, k2, k3.trans hm47 (fun _ _ e => e) (fun _ _ e => e.elim)⟩
  have hlo : ∀ k, (Value.slice a7 (0 + m) c7).ownBlock = some k → w.heap.size ≤ k := HAP.out.low (by omega) (fun k hk => by cases hk)
  have ho7 := Own.rebase HAP.out.own hlo
  rw [Nat.zero_add] at ho7
  rw [List.nil_append] at ho7
  exact ⟨a7, c7, gl, by first | rfl | simp, ⟨HPO.out.eq, HPO.out.len, ho7, fun u hu => ⟨((HPO.out.bodies u hu).1).keep hm47 (fun _ _ e => e.elim), fun k hk => Nat.le_trans hs3 ((HPO.out.bodies u hu).2 k hk)⟩⟩, hq7.after hn hmd3⟩
end
end Go.Proofs.Ytdahoecejnnjkaa
