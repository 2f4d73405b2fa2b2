/- The law FrameTells, walked. -/
import Derived.Test.YtgcegdeeoijbgaaFr5
import Derived.Deep.DeepCutAuto
import Derived.Deep.CutBlock
namespace Go.Proofs.Ytgcegdeeoijbgaa
open Go.RowKit Mile

theorem unS_err (b : List Int) : 0 ≤ (unS b).2 ∧ (unS b).2 ≤ 3 := by
  unfold unS
  split
  · split
    · split <;> simp
    · simp
  · simp

set_option maxHeartbeats 8000000 in
set_option maxRecDepth 100000 in
theorem ftells_walk (w : World) (kind : Int) (a : Option Addr) (n c : Nat) (body : List Int) (hn : body.length = n) (hr : Rd w 1 (.slice a n c) n (body.map (Value.int .u8))) (hb : ∀ x ∈ body, 0 ≤ x ∧ x < 256)
    (a2 : Option Addr) (n2 c2 : Nat) (raw : List Int) (hn2 : raw.length = n2) (hr2 : Rd w 1 (.slice a2 n2 c2) n2 (raw.map (Value.int .u8))) (hb2 : ∀ x ∈ raw, 0 ≤ x ∧ x < 256) (fix_ : Bool) :
    Calls Try.prog 3 #[.int .i64 kind, .slice a n c, .slice a2 n2 c2, .bool fix_] w fun e w' => e = .returned (.bool true) ∧ Mod (fun _ => False) w w' := by
  obtain ⟨i0, hi, hz0, hz1, hz2⟩ := info_parts Chk.info5
  by_cases h5 : 2100 < n
  · go_enter Try.func3, Try.ntmps3
    go_wp2_with fail
    refine (awake_any _).mono ?_
    rintro e w9 ⟨rfl, hM9⟩
    have HM := Lib.hid hM9
    clear hM9
    go_wp2_with fail
    go_ret
    exact ⟨rfl, HM.out⟩
  by_cases h6 : 2100 < n2
  · go_enter Try.func3, Try.ntmps3
    go_wp2_with fail
    refine (awake_any _).mono ?_
    rintro e w9 ⟨rfl, hM9⟩
    have HM := Lib.hid hM9
    clear hM9
    go_wp2_with fail
    go_ret
    exact ⟨rfl, HM.out⟩
  have q1 : n ≤ 2100 := by omega
  have q2 : n2 ≤ 2100 := by omega
  clear h5 h6
  have HN := Lib.hid hn
  have HB := Lib.hid hb
  have HN2 := Lib.hid hn2
  have HB2 := Lib.hid hb2
  clear hn hb hn2 hb2
  cases fix_ with
  | false =>
    have hnR := HN2.out
    have hbR := HB2.out
    have hrR := hr2
    have hMW := Mod.refl (fun _ => False) w
    clear hr2
    go_enter Try.func3, Try.ntmps3
    go_wp2_with fail
    have HNR := Lib.hid hnR
    have HBR := Lib.hid hbR
    have HRR := Lib.hid hrR
    have hbR1 := hr.keepA hMW (fun _ _ e => e.elim)
    have HBO := Lib.hid hbR1
    have hwl : ((wrapS kind body).getD []).length ≤ 100000 := by
      unfold wrapS
      split
      · rename_i h; simp only [Option.getD_some]; rw [fr_len, hd_len]; omega
      · simp
    have HSP : Hid (∃ X, strOf ((wrapS kind body).getD []) = X) := Lib.hid ⟨_, rfl⟩
    obtain ⟨X, hX⟩ := HSP.out
    obtain ⟨L1, hL1⟩ : ∃ L, (wrapS kind body).getD [] = L := ⟨_, rfl⟩
    obtain ⟨er, her⟩ : ∃ er : Int, (if (wrapS kind body).isNone then (1 : Int) else 0) = er := ⟨_, rfl⟩
    have her2 : 0 ≤ er ∧ er ≤ 1 := by rw [← her]; split <;> omega
    rw [hL1] at hX
    have HX := Lib.hid hX
    have HL1 := Lib.hid hL1
    have HER := Lib.hid her
    have herr := unS_err raw
    obtain ⟨kk, hkk⟩ : ∃ k, (unS raw).1.1 = k := ⟨_, rfl⟩
    obtain ⟨bb, hbb⟩ : ∃ k, (unS raw).1.2 = k := ⟨_, rfl⟩
    obtain ⟨ee, hee⟩ : ∃ k, (unS raw).2 = k := ⟨_, rfl⟩
    rw [hee] at herr
    have HKK := Lib.hid hkk
    have HBB := Lib.hid hbb
    have HEE := Lib.hid hee
    obtain ⟨Y, hY⟩ : ∃ Y, strOf bb = Y := ⟨_, rfl⟩
    have HY := Lib.hid hY
    clear hkk hbb hee her hL1 hX hY hwl hbR1 hnR hbR hrR HSP hr
    refine (wrap_any _ kind a n c body HN.out HBO.out HB.out).mono ?_
    rintro e w2 ⟨vx, rfl, hFx, hM2, ax, cx, hvx⟩
    rw [HER.out]
    rw [HL1.out] at hFx hvx
    subst hvx
    have Fx := Lib.hid hFx
    have M2 := Lib.hid hM2
    have hb2' := HBO.out.keepA hM2 (fun _ _ e => e.elim)
    have HBO2 := Lib.hid hb2'
    clear hFx hM2 hb2'
    go_wp2_with fail
    refine (rwrap_any _ kind a n c body HN.out HBO2.out HB.out).mono ?_
    rintro e w3 ⟨vy, rfl, hFy, hM3, ay, cy, hvy⟩
    rw [HER.out]
    rw [HL1.out] at hFy hvy
    subst hvy
    have Fy := Lib.hid hFy
    have M3 := Lib.hid hM3
    have M23 := Lib.hid (M2.out.trans hM3 (H := fun _ => False) (fun _ _ e => e) (fun _ _ e => e))
    clear hFy hM3
    go_wp2_with fail
    refine (unwrap_any _ a2 n2 c2 raw HNR.out (HRR.out.keepA M23.out (fun _ _ e => e.elim)) HBR.out (by omega)).mono ?_
    rintro e w4 ⟨a4, c4, rfl, hF4, hM4⟩
    rw [HKK.out, HBB.out, HEE.out]
    rw [HBB.out] at hF4
    have F4 := Lib.hid hF4
    have M4 := Lib.hid hM4
    have M24 := Lib.hid (M23.out.trans hM4 (H := fun _ => False) (fun _ _ e => e) (fun _ _ e => e))
    clear hF4 hM4
    go_wp2_with fail
    refine (runwrap_any _ a2 n2 c2 raw HNR.out (HRR.out.keepA M24.out (fun _ _ e => e.elim)) HBR.out (by omega)).mono ?_
    rintro e w5 ⟨a5, c5, rfl, hF5, hM5⟩
    rw [HKK.out, HBB.out, HEE.out]
    rw [HBB.out] at hF5
    have M45 := M4.out.trans hM5 (H := fun _ => False) (fun _ _ e => e) (fun _ _ e => e)
    have M35 := M3.out.trans M45 (H := fun _ => False) (fun _ _ e => e) (fun _ _ e => e)
    have k1' := run_strS (P := Try.prog) w5 22 9 5 Try.underlying22 Try.underlying5 Try.underlying9 ((Rd.ofOwn Fx.out).keepA M35 (fun _ _ e => e.elim))
    have k2' := run_strS (P := Try.prog) w5 22 9 5 Try.underlying22 Try.underlying5 Try.underlying9 ((Rd.ofOwn Fy.out).keepA M45 (fun _ _ e => e.elim))
    have k3' := run_strS (P := Try.prog) w5 22 9 5 Try.underlying22 Try.underlying5 Try.underlying9 ((Rd.ofOwn F4.out).keepA hM5 (fun _ _ e => e.elim))
    have k4' := run_strS (P := Try.prog) w5 22 9 5 Try.underlying22 Try.underlying5 Try.underlying9 (Rd.ofOwn hF5)
    rw [HX.out] at k1' k2'
    rw [HY.out] at k3' k4'
    have HM := Lib.hid ((hMW.trans M24.out (H := fun _ => False) (fun _ _ e => e) (fun _ _ e => e)).trans hM5 (H := fun _ => False) (fun _ _ e => e) (fun _ _ e => e))
    clear M45 M35 hF5 hM5 hMW
    go_wp2_with (go_at_call 7; refine (awake_any _).mono ?_; rintro e w9 ⟨rfl, hM9⟩; have HM9 := Lib.hid hM9; clear hM9)
    go_ret
    exact ⟨rfl, HM.out.trans HM9.out (fun _ _ e => e) (fun _ _ e => e)⟩
  | true =>
    by_cases h9 : 9 ≤ n2
    · have hcast : (n2 : Int) - 4 = ((n2 - 4 : Nat) : Int) := by omega
      obtain ⟨m, hm⟩ : ∃ m, n2 - 4 = m := ⟨_, rfl⟩
      rw [hm] at hcast
      obtain ⟨m1, hm1'⟩ : ∃ k, m + 1 = k := ⟨_, rfl⟩
      obtain ⟨m2, hm2'⟩ : ∃ k, m + 2 = k := ⟨_, rfl⟩
      obtain ⟨m3, hm3'⟩ : ∃ k, m + 3 = k := ⟨_, rfl⟩
      have hm1 : (m : Int) + 1 = (m1 : Int) := by omega
      have hm2 : (m : Int) + 2 = (m2 : Int) := by omega
      have hm3 : (m : Int) + 3 = (m3 : Int) := by omega
      have HN9 : Hid (n2 = m + 4) := Lib.hid (by omega)
      have h1c : ∀ u ∈ raw.map (Value.int .u8), u.oneCell' = true := by intro u hu; simp at hu; obtain ⟨x, _, rfl⟩ := hu; rfl
      have hap1 : 0 + n2 ≤ maxLen := by unfold maxLen; omega
      have hap2 : (0 + n2) * 1 ≤ 140737488355328 := by omega
      have hdl : (raw.take m).length = m := by rw [List.length_take, HN2.out]; omega
      have htl : (raw.drop m).length = 4 := by rw [List.length_drop, HN2.out]; omega
      have hdr : ∀ x ∈ raw.take m, 0 ≤ x ∧ x < 256 := fun x hx => HB2.out x (List.mem_of_mem_take hx)
      obtain ⟨hd, hhd⟩ : ∃ l, raw.take m = l := ⟨_, rfl⟩
      obtain ⟨old, hold⟩ : ∃ l, raw.drop m = l := ⟨_, rfl⟩
      have hsplit : raw = hd ++ old := by rw [← hhd, ← hold, List.take_append_drop]
      rw [hhd] at hdl hdr
      rw [hold] at htl
      have HDL := Lib.hid hdl
      have HDR := Lib.hid hdr
      have HDG := Lib.hid htl
      have HSPL := Lib.hid hsplit
      clear hdl hdr htl hsplit hhd hold
      go_enter Try.func3, Try.ntmps3
      go_wp2_with (at_builtin; refine wpList_append_any rfl (.tmp 36) (.tmp 37) 22 rfl 5 i0 (.int .u8 0) 1 1 Try.underlying22 hi hz0 hz1 hz2 rfl (by decide) _ 0 [] rfl (own_empty _ _ _ _ (by simp)) _ n2 (raw.map (Value.int .u8)) rfl (hr2.alloc _) h1c hap1 hap2 ?_; intro v4 wq hap; obtain ⟨aq, cq, rfl⟩ := hap.form; have ho4 := hap.own; have hl4 := hap.low (B := w.heap.size) (by simp) (low_lit (Nat.le_refl _)); have hm4 := hap.modOld (Mod.alloc (fun _ => False) w _) (low_lit (Nat.le_refl _)); simp only [Nat.zero_add, List.nil_append] at ho4 hl4; clear hap; obtain ⟨g, rfl⟩ := own_some3 ho4 (by omega); have hg := hl4 g rfl; rw [HSPL.out] at ho4; have hmc : m ≤ cq := (by obtain ⟨_, a', c', he, h1, _⟩ := Rd.ofOwn ho4; cases he; omega); have hts := (fun wx => run_takeS (P := Try.prog) wx 22 5 i0 Try.underlying22 hi (some ⟨g, 0, none⟩) n2 cq m hmc); have S1 := Lib.hid ho4; have G1 := Lib.hid hm4; clear ho4 hl4 hm4)
      have hrt := (Rd.ofOwn S1.out).take (n := m) (by omega)
      rw [Nat.mul_one, ← List.map_take, List.take_append_of_le_length (by rw [HDL.out]; omega), List.take_of_length_le (by rw [HDL.out]; omega)] at hrt
      obtain ⟨sm, hsm⟩ : ∃ sm, (csum hd).toNat = sm := ⟨_, rfl⟩
      have hlt := (csum hd).isLt
      rw [hsm] at hlt
      have hlt2 : sm < 4294967296 := by simpa using hlt
      have HSM := Lib.hid hsm
      clear hlt hsm
      refine (rsum_any (some ⟨g, 0, none⟩) m cq hd _ hrt HDR.out).mono ?_
      rw [HSM.out]
      rintro e w5 ⟨rfl, hw5⟩
      subst hw5
      obtain ⟨v0, r0⟩ := own_cell S1.out m (by omega)
      have f0 := S1.out.frozenAt m
      have t0 := S1.out.stored m (.int .u8 ((sm : Int) / 16777216))
      obtain ⟨v1, r1⟩ := own_cell t0.1 m1 (by omega)
      have f1 := t0.1.frozenAt m1
      have t1 := t0.1.stored m1 (.int .u8 ((sm : Int) / 65536 % 256))
      obtain ⟨v2, r2⟩ := own_cell t1.1 m2 (by omega)
      have f2 := t1.1.frozenAt m2
      have t2 := t1.1.stored m2 (.int .u8 ((sm : Int) / 256 % 256))
      obtain ⟨v3, r3⟩ := own_cell t2.1 m3 (by omega)
      have f3 := t2.1.frozenAt m3
      have t3 := t2.1.stored m3 (.int .u8 ((sm : Int) % 256))
      have g4 := Lib.hid ((((G1.out.trans (Mod.ofGrown t0.2) (H := fun _ => False) (fun _ _ e => e) (fun i hi e => by have e1 : g = i := Option.some.inj e; omega)).trans (Mod.ofGrown t1.2) (H := fun _ => False) (fun _ _ e => e) (fun i hi e => by have e1 : g = i := Option.some.inj e; omega)).trans (Mod.ofGrown t2.2) (H := fun _ => False) (fun _ _ e => e) (fun i hi e => by have e1 : g = i := Option.some.inj e; omega)).trans (Mod.ofGrown t3.2) (H := fun _ => False) (fun _ _ e => e) (fun i hi e => by have e1 : g = i := Option.some.inj e; omega))
      have S4 := t3.1
      have hset : ((((hd ++ old).set m ((sm : Int) / 16777216)).set m1 ((sm : Int) / 65536 % 256)).set m2 ((sm : Int) / 256 % 256)).set m3 ((sm : Int) % 256) = hd ++ [(sm : Int) / 16777216, (sm : Int) / 65536 % 256, (sm : Int) / 256 % 256, (sm : Int) % 256] := by
        rw [← hm1', ← hm2', ← hm3']; exact set4 hd old HDG.out m HDL.out _ _ _ _
      rw [← List.map_set, ← List.map_set, ← List.map_set, ← List.map_set, hset] at S4
      have hfr : hd ++ [(sm : Int) / 16777216, (sm : Int) / 65536 % 256, (sm : Int) / 256 % 256, (sm : Int) % 256] = frL hd := by
        unfold frL; rw [digs4, HSM.out, show (sm : Int) / 16777216 % 256 = (sm : Int) / 16777216 by omega]
      rw [hfr] at S4
      have S5 := Lib.hid S4
      clear t0 t1 t2 t3 S4 hfr hrt hset hts hr2 h1c hap1 hap2
      go_wp2_with fail
      obtain ⟨W5, hW5⟩ : ∃ W5, (((wq.setCell ⟨g, m, none⟩ (.int .u8 ((sm : Int) / 16777216))).setCell ⟨g, m1, none⟩ (.int .u8 ((sm : Int) / 65536 % 256))).setCell ⟨g, m2, none⟩ (.int .u8 ((sm : Int) / 256 % 256))).setCell ⟨g, m3, none⟩ (.int .u8 ((sm : Int) % 256)) = W5 := ⟨_, rfl⟩
      rw [hW5] at S5 g4 ⊢
      clear hW5 r0 r1 r2 r3 f0 f1 f2 f3
      have hnR : (frL hd).length = n2 := by rw [fr_len, HDL.out]; exact HN9.out.symm
      have hbR := fr_range HDR.out
      have hrR := Rd.ofOwn S5.out
      have hMW := g4.out
      clear hm1 hm2 hm3 hm1' hm2' hm3' hm hcast
      have HNR := Lib.hid hnR
      have HBR := Lib.hid hbR
      have HRR := Lib.hid hrR
      have hbR1 := hr.keepA hMW (fun _ _ e => e.elim)
      have HBO := Lib.hid hbR1
      have hwl : ((wrapS kind body).getD []).length ≤ 100000 := by
        unfold wrapS
        split
        · rename_i h; simp only [Option.getD_some]; rw [fr_len, hd_len]; omega
        · simp
      have HSP : Hid (∃ X, strOf ((wrapS kind body).getD []) = X) := Lib.hid ⟨_, rfl⟩
      obtain ⟨X, hX⟩ := HSP.out
      obtain ⟨L1, hL1⟩ : ∃ L, (wrapS kind body).getD [] = L := ⟨_, rfl⟩
      obtain ⟨er, her⟩ : ∃ er : Int, (if (wrapS kind body).isNone then (1 : Int) else 0) = er := ⟨_, rfl⟩
      have her2 : 0 ≤ er ∧ er ≤ 1 := by rw [← her]; split <;> omega
      rw [hL1] at hX
      have HX := Lib.hid hX
      have HL1 := Lib.hid hL1
      have HER := Lib.hid her
      have herr := unS_err (frL hd)
      obtain ⟨kk, hkk⟩ : ∃ k, (unS (frL hd)).1.1 = k := ⟨_, rfl⟩
      obtain ⟨bb, hbb⟩ : ∃ k, (unS (frL hd)).1.2 = k := ⟨_, rfl⟩
      obtain ⟨ee, hee⟩ : ∃ k, (unS (frL hd)).2 = k := ⟨_, rfl⟩
      rw [hee] at herr
      have HKK := Lib.hid hkk
      have HBB := Lib.hid hbb
      have HEE := Lib.hid hee
      obtain ⟨Y, hY⟩ : ∃ Y, strOf bb = Y := ⟨_, rfl⟩
      have HY := Lib.hid hY
      clear hkk hbb hee her hL1 hX hY hwl hbR1 hnR hbR hrR HSP hr
      refine (wrap_any _ kind a n c body HN.out HBO.out HB.out).mono ?_
      rintro e w2 ⟨vx, rfl, hFx, hM2, ax, cx, hvx⟩
      rw [HER.out]
      rw [HL1.out] at hFx hvx
      subst hvx
      have Fx := Lib.hid hFx
      have M2 := Lib.hid hM2
      have hb2' := HBO.out.keepA hM2 (fun _ _ e => e.elim)
      have HBO2 := Lib.hid hb2'
      clear hFx hM2 hb2'
      go_wp2_with fail
      refine (rwrap_any _ kind a n c body HN.out HBO2.out HB.out).mono ?_
      rintro e w3 ⟨vy, rfl, hFy, hM3, ay, cy, hvy⟩
      rw [HER.out]
      rw [HL1.out] at hFy hvy
      subst hvy
      have Fy := Lib.hid hFy
      have M3 := Lib.hid hM3
      have M23 := Lib.hid (M2.out.trans hM3 (H := fun _ => False) (fun _ _ e => e) (fun _ _ e => e))
      clear hFy hM3
      go_wp2_with fail
      refine (unwrap_any _ (some ⟨g, 0, none⟩) n2 cq (frL hd) HNR.out (HRR.out.keepA M23.out (fun _ _ e => e.elim)) HBR.out (by omega)).mono ?_
      rintro e w4 ⟨a4, c4, rfl, hF4, hM4⟩
      rw [HKK.out, HBB.out, HEE.out]
      rw [HBB.out] at hF4
      have F4 := Lib.hid hF4
      have M4 := Lib.hid hM4
      have M24 := Lib.hid (M23.out.trans hM4 (H := fun _ => False) (fun _ _ e => e) (fun _ _ e => e))
      clear hF4 hM4
      go_wp2_with fail
      refine (runwrap_any _ (some ⟨g, 0, none⟩) n2 cq (frL hd) HNR.out (HRR.out.keepA M24.out (fun _ _ e => e.elim)) HBR.out (by omega)).mono ?_
      rintro e w5 ⟨a5, c5, rfl, hF5, hM5⟩
      rw [HKK.out, HBB.out, HEE.out]
      rw [HBB.out] at hF5
      have M45 := M4.out.trans hM5 (H := fun _ => False) (fun _ _ e => e) (fun _ _ e => e)
      have M35 := M3.out.trans M45 (H := fun _ => False) (fun _ _ e => e) (fun _ _ e => e)
      have k1' := run_strS (P := Try.prog) w5 22 9 5 Try.underlying22 Try.underlying5 Try.underlying9 ((Rd.ofOwn Fx.out).keepA M35 (fun _ _ e => e.elim))
      have k2' := run_strS (P := Try.prog) w5 22 9 5 Try.underlying22 Try.underlying5 Try.underlying9 ((Rd.ofOwn Fy.out).keepA M45 (fun _ _ e => e.elim))
      have k3' := run_strS (P := Try.prog) w5 22 9 5 Try.underlying22 Try.underlying5 Try.underlying9 ((Rd.ofOwn F4.out).keepA hM5 (fun _ _ e => e.elim))
      have k4' := run_strS (P := Try.prog) w5 22 9 5 Try.underlying22 Try.underlying5 Try.underlying9 (Rd.ofOwn hF5)
      rw [HX.out] at k1' k2'
      rw [HY.out] at k3' k4'
      have HM := Lib.hid ((hMW.trans M24.out (H := fun _ => False) (fun _ _ e => e) (fun _ _ e => e)).trans hM5 (H := fun _ => False) (fun _ _ e => e) (fun _ _ e => e))
      clear M45 M35 hF5 hM5 hMW
      go_wp2_with (go_at_call 7; refine (awake_any _).mono ?_; rintro e w9 ⟨rfl, hM9⟩; have HM9 := Lib.hid hM9; clear hM9)
      go_ret
      exact ⟨rfl, HM.out.trans HM9.out (fun _ _ e => e) (fun _ _ e => e)⟩
    · have hnR := HN2.out
      have hbR := HB2.out
      have hrR := hr2
      have hMW := Mod.refl (fun _ => False) w
      clear hr2
      go_enter Try.func3, Try.ntmps3
      go_wp2_with fail
      have HNR := Lib.hid hnR
      have HBR := Lib.hid hbR
      have HRR := Lib.hid hrR
      have hbR1 := hr.keepA hMW (fun _ _ e => e.elim)
      have HBO := Lib.hid hbR1
      have hwl : ((wrapS kind body).getD []).length ≤ 100000 := by
        unfold wrapS
        split
        · rename_i h; simp only [Option.getD_some]; rw [fr_len, hd_len]; omega
        · simp
      have HSP : Hid (∃ X, strOf ((wrapS kind body).getD []) = X) := Lib.hid ⟨_, rfl⟩
      obtain ⟨X, hX⟩ := HSP.out
      obtain ⟨L1, hL1⟩ : ∃ L, (wrapS kind body).getD [] = L := ⟨_, rfl⟩
      obtain ⟨er, her⟩ : ∃ er : Int, (if (wrapS kind body).isNone then (1 : Int) else 0) = er := ⟨_, rfl⟩
      have her2 : 0 ≤ er ∧ er ≤ 1 := by rw [← her]; split <;> omega
      rw [hL1] at hX
      have HX := Lib.hid hX
      have HL1 := Lib.hid hL1
      have HER := Lib.hid her
      have herr := unS_err raw
      obtain ⟨kk, hkk⟩ : ∃ k, (unS raw).1.1 = k := ⟨_, rfl⟩
      obtain ⟨bb, hbb⟩ : ∃ k, (unS raw).1.2 = k := ⟨_, rfl⟩
      obtain ⟨ee, hee⟩ : ∃ k, (unS raw).2 = k := ⟨_, rfl⟩
      rw [hee] at herr
      have HKK := Lib.hid hkk
      have HBB := Lib.hid hbb
      have HEE := Lib.hid hee
      obtain ⟨Y, hY⟩ : ∃ Y, strOf bb = Y := ⟨_, rfl⟩
      have HY := Lib.hid hY
      clear hkk hbb hee her hL1 hX hY hwl hbR1 hnR hbR hrR HSP hr
      refine (wrap_any _ kind a n c body HN.out HBO.out HB.out).mono ?_
      rintro e w2 ⟨vx, rfl, hFx, hM2, ax, cx, hvx⟩
      rw [HER.out]
      rw [HL1.out] at hFx hvx
      subst hvx
      have Fx := Lib.hid hFx
      have M2 := Lib.hid hM2
      have hb2' := HBO.out.keepA hM2 (fun _ _ e => e.elim)
      have HBO2 := Lib.hid hb2'
      clear hFx hM2 hb2'
      go_wp2_with fail
      refine (rwrap_any _ kind a n c body HN.out HBO2.out HB.out).mono ?_
      rintro e w3 ⟨vy, rfl, hFy, hM3, ay, cy, hvy⟩
      rw [HER.out]
      rw [HL1.out] at hFy hvy
      subst hvy
      have Fy := Lib.hid hFy
      have M3 := Lib.hid hM3
      have M23 := Lib.hid (M2.out.trans hM3 (H := fun _ => False) (fun _ _ e => e) (fun _ _ e => e))
      clear hFy hM3
      go_wp2_with fail
      refine (unwrap_any _ a2 n2 c2 raw HNR.out (HRR.out.keepA M23.out (fun _ _ e => e.elim)) HBR.out (by omega)).mono ?_
      rintro e w4 ⟨a4, c4, rfl, hF4, hM4⟩
      rw [HKK.out, HBB.out, HEE.out]
      rw [HBB.out] at hF4
      have F4 := Lib.hid hF4
      have M4 := Lib.hid hM4
      have M24 := Lib.hid (M23.out.trans hM4 (H := fun _ => False) (fun _ _ e => e) (fun _ _ e => e))
      clear hF4 hM4
      go_wp2_with fail
      refine (runwrap_any _ a2 n2 c2 raw HNR.out (HRR.out.keepA M24.out (fun _ _ e => e.elim)) HBR.out (by omega)).mono ?_
      rintro e w5 ⟨a5, c5, rfl, hF5, hM5⟩
      rw [HKK.out, HBB.out, HEE.out]
      rw [HBB.out] at hF5
      have M45 := M4.out.trans hM5 (H := fun _ => False) (fun _ _ e => e) (fun _ _ e => e)
      have M35 := M3.out.trans M45 (H := fun _ => False) (fun _ _ e => e) (fun _ _ e => e)
      have k1' := run_strS (P := Try.prog) w5 22 9 5 Try.underlying22 Try.underlying5 Try.underlying9 ((Rd.ofOwn Fx.out).keepA M35 (fun _ _ e => e.elim))
      have k2' := run_strS (P := Try.prog) w5 22 9 5 Try.underlying22 Try.underlying5 Try.underlying9 ((Rd.ofOwn Fy.out).keepA M45 (fun _ _ e => e.elim))
      have k3' := run_strS (P := Try.prog) w5 22 9 5 Try.underlying22 Try.underlying5 Try.underlying9 ((Rd.ofOwn F4.out).keepA hM5 (fun _ _ e => e.elim))
      have k4' := run_strS (P := Try.prog) w5 22 9 5 Try.underlying22 Try.underlying5 Try.underlying9 (Rd.ofOwn hF5)
      rw [HX.out] at k1' k2'
      rw [HY.out] at k3' k4'
      have HM := Lib.hid ((hMW.trans M24.out (H := fun _ => False) (fun _ _ e => e) (fun _ _ e => e)).trans hM5 (H := fun _ => False) (fun _ _ e => e) (fun _ _ e => e))
      clear M45 M35 hF5 hM5 hMW
      go_wp2_with (go_at_call 7; refine (awake_any _).mono ?_; rintro e w9 ⟨rfl, hM9⟩; have HM9 := Lib.hid hM9; clear hM9)
      go_ret
      exact ⟨rfl, HM.out.trans HM9.out (fun _ _ e => e) (fun _ _ e => e)⟩
theorem ftells_all (w : World) (kind : Int) (_ : (Lit.int .i64 kind).wf = true) (a : Option Addr) (n c : Nat) (body : List Int) (ok : (encSlice (encInt .u8)).ok w (.slice a n c, body)) (a2 : Option Addr) (n2 c2 : Nat) (raw : List Int) (ok2 : (encSlice (encInt .u8)).ok w (.slice a2 n2 c2, raw)) (fix_ : Bool) :
    Calls Try.prog 3 #[.int .i64 kind, .slice a n c, .slice a2 n2 c2, .bool fix_] w fun e w' => e = .returned (.bool true) ∧ Below w.heap.size w w' := by
  obtain ⟨hn, hr, hb⟩ := ok_ints ok
  obtain ⟨hn2, hr2, hb2⟩ := ok_ints ok2
  exact (ftells_walk w kind a n c body hn hr (u8_range hb) a2 n2 c2 raw hn2 hr2 (u8_range hb2) fix_).mono fun e w' h => ⟨h.1, h.2.below (Nat.le_refl _) (fun _ e => e.elim)⟩
end Go.Proofs.Ytgcegdeeoijbgaa
