/- channel's Recv of Data, by contract. -/
import Derived.Test.YtdahoecejnnjkaaCh8
import Derived.Deep.DeepCutAuto
namespace Go.Proofs.Ytdahoecejnnjkaa
open Go.RowKit Mile Go.Maps
set_option maxRecDepth 100000
section
variable {w : World} {p sp tp : Nat} {tb : Option Nat} {a : Option Addr} {c : Nat} {us : UdL} {kp kr : Nat} {ao : Option Addr} {co : Nat} {ou : UdL} {W B M R : Nat} {conn : Int} {x : ChS}
/-- What Recv of Data leaves and tells: what is got, an Ack, and what is paid. -/
def RecvD (p sp tp : Nat) (tb : Option Nat) (a : Option Addr) (kp kr : Nat) (ao : Option Addr) (W B M R : Nat) (conn : Int) (z : ChS) (gl0 : List (List Int)) (now : Int) (w : World) (e : Ending) (w' : World) : Prop :=
  ∃ (ad : Option Addr) (cd : Nat) (vs : List Value) (ag : Option Addr) (cg : Nat) (gl : UdL), e = .returned (.tuple #[.slice ad gl0.length cd, .slice ag (1 + payN W z) cg]) ∧ Rd w' 1 (.slice ad gl0.length cd) gl0.length vs ∧ BodiesV w' kp kr gl0 vs ∧ w'.ownsRow w.heap.size 40 6 (.slice ag (1 + payN W z) cg) (1 + payN W z) ([.int .i64 conn, .int .i64 2, .int .i64 0, .int .i64 (z.N : Int), .int .i64 0, .slice none 0 0] ++ dgs conn (z.N : Int) (z.F + z.bs.length) (gl.map (·.2))) ∧ gl.map (·.1) = z.os.take (payN W z) ∧ (∀ u ∈ gl, BodyT w' u.1 u.2 ∧ ∀ k, u.2.ownBlock = some k → w.heap.size ≤ k) ∧ ChQ p sp tp tb a kp kr ao W B M R conn (payS z B now (payN W z)) w w'
set_option maxHeartbeats 8000000 in
theorem chrecv_data (h : CHm w p sp tp tb a c us kp kr ao co ou W B M R conn x) (ho : x.o = false) (hos : x.os.length ≤ 1000) (hF : x.F + x.bs.length ≤ 1000000000) (hL : x.L.length ≤ 100000) (hbd : ∀ b ∈ x.os, b.length ≤ 1000000) (now : Int) (hnow : -1000000000000000000 ≤ now ∧ now ≤ 1000000000000000000) (gs ga gc : Int) (ab : Option Addr) (nb cb : Nat) (bl : List Int) (hbl : bl.length = nb) (hrd : BodyT w bl (.slice ab nb cb)) (hnb : nb ≤ 100000) (hN : x.N ≤ 1000000000) :
    Calls Try.prog 15 #[.pointer (some ⟨p, 0, none⟩), .int .i64 now, .agg #[.int .i64 conn, .int .i64 1, .int .i64 gs, .int .i64 ga, .int .i64 gc, .slice ab nb cb]] w fun e w' => RecvD p sp tp tb a kp kr ao W B M R conn (takeC (ackC x (ackN x ga)) W gs bl) (takeL (ackC x (ackN x ga)) W gs bl) now w e w' := by
  obtain ⟨iG, hiG, hzG, hsG, hbG⟩ := info_parts Ch.infoG
  obtain ⟨y, hy⟩ : ∃ y, ackC x (ackN x ga) = y := ⟨_, rfl⟩
  have hyo : y.os = x.os := by rw [← hy]; rfl
  have hyN : y.N = x.N := by rw [← hy]; rfl
  have hyL : y.L.length ≤ x.L.length := by rw [← hy]; exact stopN_le x.L x.F _
  have hyF : y.F ≤ x.F + x.bs.length := by rw [← hy]; show x.F + ackN x ga ≤ _; unfold ackN; split <;> omega
  rw [hy]
  have HY := Lib.hid hy
  clear hy
  obtain ⟨z, hz⟩ : ∃ z, takeC y W gs bl = z := ⟨_, rfl⟩
  have hzq : z.os = y.os ∧ z.L = y.L ∧ z.F = y.F := by rw [← hz]; unfold takeC; split <;> exact ⟨rfl, rfl, rfl⟩
  have HYO := Lib.hid (⟨hzq.1.trans hyo, by rw [hzq.2.1]; exact hyL, by rw [hzq.2.2]; exact hyF, hyN⟩ : z.os = x.os ∧ z.L.length ≤ x.L.length ∧ z.F ≤ x.F + x.bs.length ∧ y.N = x.N)
  obtain ⟨g0l, hg0⟩ : ∃ l, takeL y W gs bl = l := ⟨_, rfl⟩
  rw [hz, hg0]
  have HZ := Lib.hid hz
  have HG0 := Lib.hid hg0
  clear hyo hyL hyF hyN hzq hz hg0
  obtain ⟨m, hm⟩ : ∃ s, payN W z = s := ⟨_, rfl⟩
  have hm64 : m ≤ 1000 := by rw [← hm]; unfold payN; rw [HYO.out.1]; split; omega; exact Nat.le_trans (Nat.min_le_right _ _) hos
  unfold RecvD
  rw [hm]
  have HM := Lib.hid hm
  clear hm
  obtain ⟨tg, htg⟩ : ∃ s, g0l.length = s := ⟨_, rfl⟩
  rw [htg]
  have HTG := Lib.hid htg
  clear htg
  obtain ⟨g, hg⟩ : ∃ y, w.heap.size = y := ⟨_, rfl⟩
  obtain ⟨wA, hwA⟩ : ∃ y, w.alloc (.cells #[.int .i64 conn, .int .i64 1, .int .i64 gs, .int .i64 ga, .int .i64 gc, .slice ab nb cb] 40) = y := ⟨_, rfl⟩
  have hgA : Blk wA g 40 [.int .i64 conn, .int .i64 1, .int .i64 gs, .int .i64 ga, .int .i64 gc, .slice ab nb cb] := by rw [← hwA, ← hg]; exact Blk.new w 40 [.int .i64 conn, .int .i64 1, .int .i64 gs, .int .i64 ga, .int .i64 gc, .slice ab nb cb]
  have hmA : Mod (fun _ => False) w wA := by rw [← hwA]; exact Mod.alloc _ _ _
  have hA := h.later hmA
  have HG : Hid (∀ W', Mod (fun _ => False) wA W' → Calls Try.prog 34 #[.pointer (some ⟨p, 0, none⟩)] W' fun e w' => e = .returned (.bool false) ∧ W' = w') := Lib.hid (fun W' m => by have h1 := chgone_any (hA.later m); rwa [ho] at h1)
  have c2 := hA.blk.cell 2 rfl
  have g0 := hgA.cell 0 rfl
  have g1 := hgA.cell 1 rfl
  have HA := Lib.hid hA
  have HGA := Lib.hid hgA
  have HRDA := Lib.hid (hrd.keep hmA (fun _ _ e => e.elim))
  have HBL := Lib.hid hbl
  have HXN := Lib.hid hN
  have HMA := Lib.hid hmA
  clear hrd hbl hN
  have HX := Lib.hid (⟨hF, hL, hbd, hnow, hos⟩ : _ ∧ _ ∧ _ ∧ _ ∧ _)
  have hFx : x.F ≤ 1000000000 := by omega
  clear h ho hos hF hL hbd hnow hgA hmA hA
  go_enter Try.func15, Try.ntmps15
  go_upto_region 1 with fail
  (try rw [hwA])
  (try rw [hg])
  clear hwA hg
  go_quiet ((go_at_call 34; exact Calls.quiet_of_same ((HG.out _ (by first | exact Mod.refl _ _ | exact Mod.drew _ _ | exact Mod.drewN _ _ _)).mono fun e w' h => ⟨h.1, h.2.symm⟩)))
  obtain ⟨wB, hwB⟩ : ∃ y, World.drewN wA nq = y := ⟨_, rfl⟩
  have hmB : Mod (fun _ => False) wA wB := by rw [← hwB]; exact Mod.drewN _ _ _
  have hB := HA.out.later hmB
  have hgB := HGA.out.keep hmB (fun e => e)
  have d0 := hB.blk.cell 0 rfl
  have e3 := hgB.cell 3 rfl
  have e1 := hgB.cell 1 rfl
  have HMB := Lib.hid (HMA.out.of2 hmB)
  have HAK := Lib.hid (fun W' (m : Mod (fun _ => False) wB W') => (by have h1 := chacked_any (hB.later m) hFx ga; rw [HY.out] at h1; exact h1))
  have HRDB := Lib.hid (HRDA.out.keep hmB (fun _ _ e => e.elim))
  have HGB := Lib.hid hgB
  have HBB := Lib.hid hB
  (try rw [hwB])
  clear hwB hmB hgB hB c2 g0 g1 HG HA HGA HMA
  go_upto_region 3 with fail
  go_still_tail 6, (by kernel_rfl)
  change wpList _ _ _ _ _ (World.drew wB)
  go_wp2_with (first | (go_at_call 38; refine (HAK.out _ (Mod.drew _ _)).mono ?_; rintro e w3 ⟨r3, tb3, a3, c3, us3, rfl, h3, hn3, hm3⟩; have hbd3 := HBB.out.later (Mod.drew (fun _ => False) wB); have hgd3 := HGB.out.keep (Mod.drew (fun _ => False) wB) (fun e => e); have hg3 := hgd3.keep hm3 (fun e => hbd3.gram (TyB.blk hgd3) (.inr (.inl e))); have e1 := hg3.cell 1 rfl; have e2 := hg3.cell 2 rfl; have e5 := hg3.cell 5 rfl; have HG3 := Lib.hid hg3; have HRD3 := Lib.hid ((HRDB.out.keep (Mod.drew (fun _ => False) wB) (fun _ _ e => e.elim)).keep hm3 (fun k _ e => hbd3.sd.noT k e)); have H3 := Lib.hid h3; have HN3 := Lib.hid hn3; have HM3 := Lib.hid hm3; clear h3 hn3 hm3 hbd3 hgd3 hg3 HAK d0 e3))
  have q1 := H3.out.blk.cell 1 rfl
  have hyN := HYO.out.2.2.2
  have HTK : Hid (∀ W', Mod (fun _ => False) w3 W' → Calls Try.prog 39 #[.pointer (some ⟨kp, 0, none⟩), .int .i64 gs, .slice ab nb cb] W' fun e w' => ∃ ag cg vs ok, e = .returned (.tuple #[.slice ag tg cg, .bool ok]) ∧ Rd w' 1 (.slice ag tg cg) tg vs ∧ BodiesV w' kp kr g0l vs ∧ CHm w' p sp tp tb3 a3 c3 us3 kp kr ao co ou W B M R conn z ∧ Mod (fun k => k = kp ∨ k = kr) W' w' ∧ ∀ k, (Value.slice ag tg cg).ownBlock = some k → W'.heap.size ≤ k) := Lib.hid (fun W' mm => by
    have hr1 := (HRD3.out.keep mm (fun _ _ e => e.elim)).rd
    rw [HBL.out] at hr1
    have h1 := chtake_any (H3.out.later mm) (by have := HXN.out; omega) gs ab nb cb bl HBL.out hr1 hnb
    rw [HZ.out, HG0.out, HTG.out] at h1
    exact h1)
  clear hyN
  go_upto_region 5 with fail
  go_cut [6, 39, 48, 49, 50] (fun gv _ _ _ _ wx => ∃ ag cg vs, gv = .slice ag tg cg ∧ Rd wx 1 (.slice ag tg cg) tg vs ∧ BodiesV wx kp kr g0l vs ∧ CHm wx p sp tp tb3 a3 c3 us3 kp kr ao co ou W B M R conn z ∧ Mod (fun k => k = kp ∨ k = kr) (World.drew w3) wx ∧ ∀ k, (Value.slice ag tg cg).ownBlock = some k → (World.drew w3).heap.size ≤ k)
  case first =>
    go_region_law (go_simp; go_at_call 39; refine (HTK.out _ (Mod.drew _ _)).mono ?_; rintro e w4 ⟨ag, cg, vs, ok, rfl, t1, t2, t3, t4, t5⟩)
    all_goals
      go_wp2_with fail
      go_meet
      exact ⟨ag, cg, vs, rfl, t1, t2, t3, t4, t5⟩
  case rest =>
  obtain ⟨ad, cd, vs, rfl, t1, t2, t3, t4, t5⟩ := hcut
  obtain ⟨w4, hw4⟩ : ∃ s : World, s = wc := ⟨_, rfl⟩
  subst hw4
  have k1 := t3.blk.cell 1 rfl
  have k2 := t3.blk.cell 2 rfl
  have HNX := Lib.hid (fun W' (mm : Mod (fun _ => False) w4 W') => tknext_any W' kp kr _ _ _ (t3.later mm).tk)
  have H4 := Lib.hid t3
  have HR4 := Lib.hid t1
  have HV4 := Lib.hid t2
  have HM4 := Lib.hid t4
  have HL4 := Lib.hid t5
  have hmx1 : 0 + 1 ≤ maxLen := by unfold maxLen; omega
  have hmx2 : (0 + 1) * 64 ≤ 140737488355328 := by omega
  clear t1 t2 t3 t4 t5 q1 e1 e2 e5 HTK
  go_upto_region 6 with fail
  go_cut [7, 60, 61, 62, 63] (fun ov _ _ _ _ wx => ∃ a1 c1, ov = .slice a1 1 c1 ∧ World.ownsRow wx w4.heap.size 40 6 (.slice a1 1 c1) 1 [.int .i64 conn, .int .i64 2, .int .i64 0, .int .i64 (z.N : Int), .int .i64 0, .slice none 0 0] ∧ Mod (fun _ => False) w4 wx)
  case first =>
    go_region_law (first | (refine step_append_any rfl (.tmp 51) (.tmp 62) 36 rfl 40 iG (.agg #[.int .i64 0, .int .i64 0, .int .i64 0, .int .i64 0, .int .i64 0, .slice none 0 0]) 6 64 Try.underlying36 hiG hzG hsG hbG rfl (by decide) (.slice none 0 0) 0 [] (by simp [Act.eval, Act.put]) (World.ownsRow_nil _ _ _ _) (.slice (some ⟨w4.heap.size, 0, none⟩) 1 1) 1 [.int .i64 conn, .int .i64 2, .int .i64 0, .int .i64 (z.N : Int), .int .i64 0, .slice none 0 0] (by simp [Act.eval, Act.put]) (by exact Rd.litN 40 6 [.int .i64 conn, .int .i64 2, .int .i64 0, .int .i64 (z.N : Int), .int .i64 0, .slice none 0 0] (0, 0) _ 1 rfl rfl (by decide)) (by intro u hu; simp at hu; rcases hu with rfl | rfl | rfl | rfl | rfl | rfl <;> rfl) hmx1 hmx2 ?_; intro v' w' hap; obtain ⟨a1, c1, rfl⟩ := hap.form; have HAP := Lib.hid hap; clear hap) | (go_simp; go_at_call 40; refine (HNX.out _ (Mod.drew _ _)).mono ?_; rintro e w' ⟨rfl, rfl⟩))
    all_goals
      go_wp2_with fail
      go_meet
      have hlo := HAP.out.low (B := w4.heap.size) (by simp) (fun k hk => by cases hk)
      have ho := Own.rebase HAP.out.own hlo
      have hmm : Mod (fun _ => False) w4 w' := ((Mod.drew (fun _ => False) w4).thenAlloc _).trans HAP.out.mod (fun _ _ e => e) (fun k _ e => by cases e)
      exact ⟨a1, c1, by first | rfl | simp, by simpa using ho, hmm⟩
  case rest =>
  obtain ⟨a1, c1, rfl, ho1, hm5⟩ := hcut
  obtain ⟨w5, hw5⟩ : ∃ s : World, s = wc := ⟨_, rfl⟩
  subst hw5
  have h5 := H4.out.later hm5
  have HO1 := Lib.hid ho1
  have HM5 := Lib.hid hm5
  have H5 := Lib.hid h5
  clear ho1 hm5 h5 k1 k2 HNX hmx1 hmx2
  have hyo := HYO.out.1
  have hyL := HYO.out.2.1
  have hyF := HYO.out.2.2.1
  have hpay := chpay_any H5.out (by have := HX.out.1; omega) (by rw [hyo]; exact HX.out.2.2.2.2) (by have := HX.out.2.1; omega) (by rw [hyo]; exact HX.out.2.2.1) now HX.out.2.2.2.1
  unfold PayP at hpay
  rw [HM.out] at hpay
  have HPAY := Lib.hid hpay
  clear hpay hyL hyF hyo
  go_wp2_with fail
  refine HPAY.out.mono ?_
  rintro e w6 ⟨ag, cg, gl, rfl, hpo, hq⟩
  have hmq : Mod (chF p sp tp tb3 a3 kp kr ao) w5 w6 := by obtain ⟨_, _, _, _, _, _, _, _, _, hm⟩ := hq; exact hm
  have hty1 : ∀ k, (Value.slice a1 1 c1).ownBlock = some k → TyB w5 k 40 := fun k hk => TyB.own HO1.out hk
  have ho6 := Own.keep HO1.out hmq (fun k hk e => H5.out.gram (hty1 k hk) e)
  have hrd6 := Rd.ofOwn hpo.own
  have h1c := dgs_one conn (z.N : Int) (gl.map (·.2)) (z.F + z.bs.length) (fun v hv => by obtain ⟨u, hu, rfl⟩ := List.mem_map.1 hv; obtain ⟨_, _, _, g1, _⟩ := (hpo.bodies u hu).1; rw [g1]; rfl)
  have hmx1 : 1 + m ≤ maxLen := by unfold maxLen; omega
  have hmx2 : (1 + m) * 64 ≤ 140737488355328 := by omega
  have hob := Own.base ho6 (Nat.zero_le _)
  have HPO := Lib.hid hpo
  have HQ := Lib.hid hq
  have HO6 := Lib.hid ho6
  have HMQ := Lib.hid hmq
  clear hpo hq ho6 hmq hty1
  go_wp2_with (first | (at_builtin; refine wpList_append_any rfl (.tmp 65) (.tmp 68) 36 rfl 40 iG (.agg #[.int .i64 0, .int .i64 0, .int .i64 0, .int .i64 0, .int .i64 0, .slice none 0 0]) 6 64 Try.underlying36 hiG hzG hsG hbG rfl (by decide) _ 1 [.int .i64 conn, .int .i64 2, .int .i64 0, .int .i64 (z.N : Int), .int .i64 0, .slice none 0 0] rfl hob _ m _ rfl hrd6 h1c hmx1 hmx2 ?_; intro v7 w7 hap; obtain ⟨a7, c7, rfl⟩ := hap.form; have HAP := Lib.hid hap; clear hap))
  (try go_wp2_with fail)
  go_ret2
  have hty6 : ∀ k, (Value.slice a1 1 c1).ownBlock = some k → TyB w6 k 40 := fun k hk => TyB.own HO6.out hk
  have hT7 : ∀ k, k < w6.heap.size → (Value.slice a1 1 c1).ownBlock = some k → NoT w6 k := fun k _ hk => (hty6 k hk).noT (by decide)
  have hT6 : ∀ k, k < w5.heap.size → chF p sp tp tb3 a3 kp kr ao k → NoT w5 k := fun k _ hk => H5.out.noT hk
  have hs3 : w.heap.size ≤ w3.heap.size := by have h1 := HMB.out.size; have h2 := HM3.out.size; have h3 : (World.drew wB).heap.size = wB.heap.size := rfl; omega
  have hs4 : w3.heap.size ≤ w4.heap.size := by have h2 := HM4.out.size; have h3 : (World.drew w3).heap.size = w3.heap.size := rfl; omega
  have hs5 := HM5.out.size
  have hs6 := HMQ.out.size
  have hgot6 := (HR4.out.keep HM5.out (fun _ _ e => e)).keepA HMQ.out (fun k hk e => by have h1 := HL4.out k hk; have h2 := H3.out.lt e; have h3 : (World.drew w3).heap.size = w3.heap.size := rfl; omega)
  have hgot7 := hgot6.keepA HAP.out.mod (fun k hk e => by
    have h1 := (HO1.out.lt k e).1
    exact HR4.out.lt hk (by omega))
  have hbd7 : BodiesV w7 kp kr g0l vs := ⟨HV4.out.1, fun i hi => by
    obtain ⟨v, g1, g2⟩ := HV4.out.2 i hi
    exact ⟨v, g1, ((g2.turn HM5.out (fun _ _ e => e.elim)).turn HMQ.out hT6).turn HAP.out.mod hT7⟩⟩
  have hlo7 := HAP.out.low (B := w.heap.size) (by omega) (fun k hk => by have := (HO1.out.lt k hk).1; omega)
  have ho7 := Own.rebase HAP.out.own hlo7
  have hmd3 : Mod (chF p sp tp tb a kp kr ao) w w3 := (HMB.out.trans (Mod.drew (fun _ => False) wB) (H := fun _ => False) (fun _ _ e => e) (fun _ _ e => e)).trans HM3.out (fun _ _ e => e.elim) (fun _ _ e => .inr (.inl e))
  have hmd3d : Mod (chF p sp tp tb a kp kr ao) w (World.drew w3) := hmd3.trans (Mod.drew (fun _ => False) w3) (fun _ _ e => e) (fun _ _ e => e.elim)
  have hmd4 : Mod (chF p sp tp tb a kp kr ao) w w4 := hmd3d.trans HM4.out (fun _ _ e => e) (fun _ _ e => e.elim (fun e => .inr (.inr (.inl e))) (fun e => .inr (.inr (.inr (.inl e)))))
  have hmd5 : Mod (chF p sp tp tb a kp kr ao) w w5 := hmd4.trans HM5.out (fun _ _ e => e) (fun _ _ e => e.elim)
  have hn : ∀ k, chF p sp tp tb3 a3 kp kr ao k → chF p sp tp tb a kp kr ao k ∨ w.heap.size ≤ k := fun k hk => by
    rcases hk with e | e | e | e | e
    · exact .inl (.inl e)
    · rcases HN3.out k e with g | g
      · exact .inl (.inr (.inl g))
      · exact .inr (by have h1 := HMB.out.size; have h3 : (World.drew wB).heap.size = wB.heap.size := rfl; omega)
    · exact .inl (.inr (.inr (.inl e)))
    · exact .inl (.inr (.inr (.inr (.inl e))))
    · exact .inl (.inr (.inr (.inr (.inr e))))
  have hq6 : ChQ p sp tp tb a kp kr ao W B M R conn (payS z B now m) w w6 := HQ.out.after hn hmd5
  obtain ⟨tb4, a4, c4, us4, ao4, co4, ou4, j1, j2, j3⟩ := hq6
  have hq7 : ChQ p sp tp tb a kp kr ao W B M R conn (payS z B now m) w w7 := ⟨tb4, a4, c4, us4, ao4, co4, ou4, j1.keep HAP.out.mod (fun k hk e => j1.gram (hty6 k e) hk) hT7, j2, j3.trans HAP.out.mod (fun _ _ e => e) (fun k hk e => by have := (HO1.out.lt k e).1; omega)⟩
  exact ⟨ad, cd, vs, a7, c7, gl, by first | rfl | simp, hgot7, hbd7, ho7, HPO.out.eq, fun u hu => ⟨((HPO.out.bodies u hu).1).keep HAP.out.mod hT7, fun k hk => Nat.le_trans (by omega) ((HPO.out.bodies u hu).2 k hk)⟩, hq7⟩
end
end Go.Proofs.Ytdahoecejnnjkaa
