/- The law FrameBack, walked. -/
import Derived.Test.YtgcegdeeoijbgaaAwake3
import Derived.Test.YtgcegdeeoijbgaaRound
import Derived.Test.YtgcegdeeoijbgaaOpensBI
namespace Go.Proofs.Ytgcegdeeoijbgaa
open Go.RowKit Mile

set_option maxHeartbeats 4000000 in
theorem fback_walk (w : World) (kind : Int) (a : Option Addr) (n c : Nat) (body : List Int) (hn : body.length = n) (hr : Rd w 1 (.slice a n c) n (body.map (Value.int .u8))) (hb : ∀ x ∈ body, 0 ≤ x ∧ x < 256) (cut more : Int) (hmore : 0 ≤ more ∧ more < 256) :
    Calls Try.prog 4 #[.int .i64 kind, .slice a n c, .int .i64 cut, .int .u8 more] w fun e w' => e = .returned (.bool true) ∧ Mod (fun _ => False) w w' := by
  obtain ⟨i0, hi, hz0, hz1, hz2⟩ := info_parts Chk.info5
  by_cases h5 : 500 < n
  · go_enter Try.func4, Try.ntmps4
    go_wp2_with fail
    refine (awake_any _).mono ?_
    rintro e w9 ⟨rfl, hM9⟩
    have HM := Lib.hid hM9
    clear hM9
    go_wp2_with fail
    go_ret
    exact ⟨rfl, HM.out⟩
  have q1 : n ≤ 500 := by omega
  clear h5
  have HN := Lib.hid hn
  have HB := Lib.hid hb
  clear hn hb
  have k1 := Int.emod_nonneg kind (show (256 : Int) ≠ 0 by omega)
  have k2 := Int.emod_lt_of_pos kind (show (0 : Int) < 256 by omega)
  obtain ⟨kd, hkd⟩ : ∃ kd, kind % 256 = kd := ⟨_, rfl⟩
  rw [hkd] at k1 k2
  have HKD := Lib.hid hkd
  clear hkd
  obtain ⟨b, hbd⟩ : ∃ b, frL (hdL kd body) = b := ⟨_, rfl⟩
  have hbl : b.length = n + 9 := by rw [← hbd, fr_len, hd_len, HN.out]
  have hbr : ∀ x ∈ b, 0 ≤ x ∧ x < 256 := by rw [← hbd]; exact fr_range (hd_range ⟨k1, k2⟩ HB.out)
  have hu1 : unS b = ((kd, body), 0) := by rw [← hbd]; exact unS_wrap (by rw [HN.out]; omega)
  obtain ⟨j, hj⟩ : ∃ j : Nat, (cut % ((n : Int) + 9)).toNat = j := ⟨_, rfl⟩
  have hcut : cut % ((n : Int) + 9) = (j : Int) ∧ j < n + 9 := by
    have h1 := Int.emod_nonneg cut (show ((n : Int) + 9) ≠ 0 by omega)
    have h2 := Int.emod_lt_of_pos cut (show (0 : Int) < (n : Int) + 9 by omega)
    omega
  obtain ⟨hc1, hc2⟩ := hcut
  have hu2 : unS (b.take j) = ((0, []), 2) := by
    rw [← hbd]
    exact unS_cut (by rw [hd_len]; omega) (hd_long (by rw [HN.out]; omega)) (by rw [hbd, hbl]; exact hc2)
  have hu3 : unS (b ++ [more]) = ((0, []), 2) := by
    rw [← hbd]
    exact unS_more (by rw [hd_len]; omega) (hd_long (by rw [HN.out]; omega)) more
  have HU1 := Lib.hid hu1
  have HU2 := Lib.hid hu2
  have HU3 := Lib.hid hu3
  have HC1 := Lib.hid hc1
  have HBL := Lib.hid hbl
  have HBR := Lib.hid hbr
  clear hu1 hu2 hu3 hc1 hj hbl hbr
  go_enter Try.func4, Try.ntmps4
  go_wp2_with fail
  refine (round_any _ _ _ (by omega) (by omega)).mono ?_
  rintro e w' ⟨rfl, rfl⟩
  rw [HKD.out]
  go_wp2_with fail
  refine (wrap_ok w kd ⟨k1, k2⟩ a n c body HN.out hr HB.out (by omega)).mono ?_
  rw [hbd]
  rintro e w1 ⟨a1, c1, rfl, hF1, hM1⟩
  have HBD := Lib.hid hbd
  clear hbd
  have hr1 := Rd.ofOwn hF1
  go_wp2_with fail
  refine (unwrap_at HU1.out HN.out w1 a1 (n + 9) c1 HBL.out hr1 HBR.out (by omega)).mono ?_
  rintro e w2 ⟨a2, c2, rfl, hF2, hM2⟩
  have hr2 := hr1.keepA hM2 (fun _ _ e => e.elim)
  have hs2 := Rd.ofOwn hF2
  have hM12 := hM1.trans hM2 (H := fun _ => False) (fun _ _ e => e) (fun _ _ e => e)
  clear hr1 hM1 hM2 hF1 hF2
  have hjc : j ≤ c1 := by obtain ⟨_, a', c', he, h1, _⟩ := hr2; cases he; omega
  have hts := fun wx => run_takeS (P := Try.prog) wx 22 5 i0 Try.underlying22 hi a1 (n + 9) c1 j hjc
  go_wp2_with fail
  refine (round_any _ _ _ (by omega) (by omega)).mono ?_
  rintro e w' ⟨rfl, rfl⟩
  rw [HC1.out]
  go_wp2_with fail
  have hrt := hr2.take (n := j) (by omega)
  rw [Nat.mul_one, ← List.map_take] at hrt
  refine (unwrap_at (m := 0) HU2.out rfl w2 a1 j c1 (by rw [List.length_take, HBL.out]; omega) hrt (fun x hx => HBR.out x (List.mem_of_mem_take hx)) (by omega)).mono ?_
  rintro e w3 ⟨a3, c3, rfl, hF3, hM3⟩
  have hr3 := hr2.keepA hM3 (fun _ _ e => e.elim)
  have hs3 := hs2.keepA hM3 (fun _ _ e => e.elim)
  have hM13 := hM12.trans hM3 (H := fun _ => False) (fun _ _ e => e) (fun _ _ e => e)
  clear hr2 hs2 hM12 hM3 hF3 hrt hts
  have h1c : ∀ u ∈ b.map (Value.int .u8), u.oneCell' = true := by intro u hu; simp at hu; obtain ⟨x, _, rfl⟩ := hu; rfl
  have hap1 : 0 + (n + 9) ≤ maxLen := by unfold maxLen; omega
  have hap2 : (0 + (n + 9)) * 1 ≤ 140737488355328 := by omega
  have h1d : ∀ u ∈ [Value.int .u8 more], u.oneCell' = true := by simp [Value.oneCell']
  have hap3 : n + 9 + 1 ≤ maxLen := by unfold maxLen; omega
  have hap4 : (n + 9 + 1) * 1 ≤ 140737488355328 := by omega
  go_wp2_with (first
    | (at_builtin; refine wpList_append_any rfl (.tmp 62) (.tmp 63) 22 rfl 5 i0 (.int .u8 0) 1 1 Try.underlying22 hi hz0 hz1 hz2 rfl (by decide) _ 0 [] rfl (own_empty _ _ _ _ (by simp)) _ (n + 9) (b.map (Value.int .u8)) rfl (hr3.alloc _) h1c hap1 hap2 ?_; intro v4 w4 hap; obtain ⟨a4, c4, rfl⟩ := hap.form; have ho4 := hap.own; have hl4 := hap.low (B := w3.heap.size) (by simp) (low_lit (Nat.le_refl _)); have hm4 := hap.modOld (Mod.alloc (fun _ => False) w3 _) (low_lit (Nat.le_refl _)); simp only [Nat.zero_add, List.nil_append] at ho4 hl4; clear hap)
    | (at_builtin; refine wpList_append_any rfl (.tmp 64) (.tmp 66) 22 rfl 5 i0 (.int .u8 0) 1 1 Try.underlying22 hi hz0 hz1 hz2 rfl (by decide) _ (n + 9) _ rfl (World.ownsRow.alloc ho4 _) _ 1 [.int .u8 more] rfl (Rd.one w4 _ _) h1d hap3 hap4 ?_; intro v5 w5 hap; obtain ⟨a5, c5, rfl⟩ := hap.form; have ho5 := hap.own; have hm5 := hap.modOld (hm4.thenAlloc _) hl4; clear hap ho4 hm4 hl4))
  rw [show b.map (Value.int .u8) ++ [Value.int .u8 more] = (b ++ [more]).map (Value.int .u8) by simp] at ho5
  have hbm : ∀ x ∈ b ++ [more], 0 ≤ x ∧ x < 256 := fun x hx => by
    rcases List.mem_append.1 hx with e | e
    · exact HBR.out x e
    · rcases List.mem_singleton.1 e with rfl; exact hmore
  refine (unwrap_at (m := 0) HU3.out rfl w5 a5 (n + 9 + 1) c5 (by rw [List.length_append, HBL.out]; rfl) (Rd.ofOwn ho5) hbm (by omega)).mono ?_
  rintro e w6 ⟨a6, c6, rfl, hF6, hM6⟩
  have hm6 := hm5.trans hM6 (H := fun _ => False) (fun _ _ e => e) (fun _ _ e => e)
  have hs6 := hs3.keepA hm6 (fun _ _ e => e.elim)
  have hM16 := hM13.trans hm6 (H := fun _ => False) (fun _ _ e => e) (fun _ _ e => e)
  have hr6 := hr.keepA hM16 (fun _ _ e => e.elim)
  obtain ⟨X, hX⟩ : ∃ X, strOf body = X := ⟨_, rfl⟩
  have k1' := run_strS (P := Try.prog) w6 22 9 5 Try.underlying22 Try.underlying5 Try.underlying9 hs6
  have k2' := run_strS (P := Try.prog) w6 22 9 5 Try.underlying22 Try.underlying5 Try.underlying9 hr6
  rw [hX] at k1' k2'
  have HM := Lib.hid hM16
  clear hX hs6 hr6 hM16 hm6 hM6 hF6 hbm ho5 hm5 hM13 hs3 hr3 hr h1c h1d hap1 hap2 hap3 hap4
  go_wp2_with (go_at_call 7; refine (awake_any _).mono ?_; rintro e w9 ⟨rfl, hM9⟩; have HM9 := Lib.hid hM9; clear hM9)
  go_ret
  exact ⟨rfl, HM.out.trans HM9.out (fun _ _ e => e) (fun _ _ e => e)⟩

theorem byte_wf {x : Int} (h : (Lit.int .u8 x).wf = true) : 0 ≤ x ∧ x < 256 := by
  have : 0 ≤ x ∧ x ≤ 255 := by simpa [Lit.wf, IntKind.min, IntKind.max, IntKind.signed, IntKind.bits] using h
  omega
theorem fback_all (w : World) (kind : Int) (_ : (Lit.int .i64 kind).wf = true) (a : Option Addr) (n c : Nat) (body : List Int) (ok : (encSlice (encInt .u8)).ok w (.slice a n c, body)) (cut : Int) (_ : (Lit.int .i64 cut).wf = true) (more : Int) (hm : (Lit.int .u8 more).wf = true) :
    Calls Try.prog 4 #[.int .i64 kind, .slice a n c, .int .i64 cut, .int .u8 more] w fun e w' => e = .returned (.bool true) ∧ Below w.heap.size w w' := by
  obtain ⟨hn, hr, hb⟩ := ok_ints ok
  exact (fback_walk w kind a n c body hn hr (u8_range hb) cut more (byte_wf hm)).mono fun e w' h => ⟨h.1, h.2.below (Nat.le_refl _) (fun _ e => e.elim)⟩
end Go.Proofs.Ytgcegdeeoijbgaa
