/- The document's own answer to frames, by contract: summed, Wrap, Unwrap. -/
import Derived.Test.YtabfmnlpipbegaaVers3
namespace Mile
open Go Go.RowKit
theorem sum_iff {hd t : List Int} (ht : t.length = 4) (hb : ∀ x ∈ t, 0 ≤ x ∧ x < 256) : hd ++ t = frL hd ↔ undigs 0 t = ((csum hd).toNat : Int) := by
  unfold frL
  constructor
  · intro h
    rw [List.append_cancel_left h]
    exact undigs_digs_fit _ _ (sum_fits _)
  · intro h
    rw [← h]
    congr 1
    match t, ht with
    | [a, b, c, d], _ =>
      have ha := hb a (by simp)
      have hb' := hb b (by simp)
      have hc := hb c (by simp)
      have hd' := hb d (by simp)
      rw [digs4]
      show [a, b, c, d] = [((((0 * 256 + a) * 256 + b) * 256 + c) * 256 + d) / 16777216 % 256, ((((0 * 256 + a) * 256 + b) * 256 + c) * 256 + d) / 65536 % 256, ((((0 * 256 + a) * 256 + b) * 256 + c) * 256 + d) / 256 % 256, ((((0 * 256 + a) * 256 + b) * 256 + c) * 256 + d) % 256]
      simp only [List.cons.injEq, and_true]
      omega
/-- A right sum, as bytes that stand behind. -/
theorem framed_iff {b : List Int} {m : Nat} (hl : b.length = m + 4) (h9 : 5 ≤ m) (hbn : bodyN b + 5 = m) (hb : ∀ x ∈ b, 0 ≤ x ∧ x < 256) (h0 : b.getD 0 0 = 77) : framed b ↔ frL (b.take m) = b := by
  have ht : (b.drop m).length = 4 := by rw [List.length_drop]; omega
  have hs := sum_iff (hd := b.take m) (t := b.drop m) ht (fun x hx => hb x (List.mem_of_mem_drop hx))
  rw [List.take_append_drop] at hs
  unfold framed
  rw [hl, Nat.add_sub_cancel]
  constructor
  · rintro ⟨_, _, h⟩; exact (hs.2 h).symm
  · intro h; exact ⟨⟨by omega, by omega⟩, h0, hs.1 h.symm⟩
end Mile
namespace Go.Proofs.Ytabfmnlpipbegaa
open Go.RowKit Mile
set_option maxRecDepth 100000

set_option maxHeartbeats 4000000 in
theorem summed_any (w : World) (a : Option Addr) (n c : Nat) (hd : List Int) (hn : hd.length = n) (hr : Rd w 1 (.slice a n c) n (hd.map (Value.int .u8))) (hb : ∀ x ∈ hd, 0 ≤ x ∧ x < 256) (hs : n ≤ 100000) :
    Calls Try.prog 35 #[.slice a n c] w fun e w' => ∃ a' c', e = .returned (.slice a' (n + 4) c') ∧ w'.ownsRow w.heap.size 5 1 (.slice a' (n + 4) c') (n + 4) ((frL hd).map (Value.int .u8)) ∧ Mod (fun _ => False) w w' := by
  obtain ⟨i0, hi, hz0, hz1, hz2⟩ := info_parts Chk.info5
  obtain ⟨sm, hsm⟩ : ∃ sm, (csum hd).toNat = sm := ⟨_, rfl⟩
  have hlt := (csum hd).isLt
  rw [hsm] at hlt
  have hlt2 : sm < 4294967296 := by simpa using hlt
  have hfr : (hd ++ [(sm : Int) / 16777216, (sm : Int) / 65536 % 256, (sm : Int) / 256 % 256, (sm : Int) % 256]) = frL hd := by
    unfold frL; rw [digs4, hsm, show (sm : Int) / 16777216 % 256 = (sm : Int) / 16777216 by omega]
  have HFR := Lib.hid hfr
  have HSM := Lib.hid hsm
  have HN := Lib.hid hn
  clear hlt hsm hfr hn
  have h1c : ∀ u ∈ hd.map (Value.int .u8), u.oneCell' = true := by intro u hu; simp at hu; obtain ⟨x, _, rfl⟩ := hu; rfl
  have h1d : ∀ u ∈ [Value.int .u8 ((sm : Int) / 16777216), .int .u8 ((sm : Int) / 65536 % 256), .int .u8 ((sm : Int) / 256 % 256), .int .u8 ((sm : Int) % 256)], u.oneCell' = true := by simp [Value.oneCell']
  have hap1 : 0 + n ≤ maxLen := by unfold maxLen; omega
  have hap2 : (0 + n) * 1 ≤ 140737488355328 := by omega
  have hap3 : n + 4 ≤ maxLen := by unfold maxLen; omega
  have hap4 : (n + 4) * 1 ≤ 140737488355328 := by omega
  go_enter Try.func35, Try.ntmps35
  go_wp2_with fail
  refine (rsum_any a n c hd _ hr hb).mono ?_
  rw [HSM.out]
  rintro e w1 ⟨rfl, hw1⟩
  subst hw1
  go_wp2_with (first
    | (at_builtin; refine wpList_append_any rfl (.tmp 6) (.tmp 7) 27 rfl 5 i0 (.int .u8 0) 1 1 Try.underlying27 hi hz0 hz1 hz2 rfl (by decide) _ 0 [] rfl (own_empty _ _ _ _ (by simp)) _ n (hd.map (Value.int .u8)) rfl (hr.alloc _) h1c hap1 hap2 ?_; intro v4 w4 hap; obtain ⟨a4, c4, rfl⟩ := hap.form; have ho4 := hap.own; have hl4 := hap.low (B := w.heap.size) (by simp) (low_lit (Nat.le_refl _)); have hm4 := hap.modOld (Mod.alloc (fun _ => False) w _) (low_lit (Nat.le_refl _)); simp only [Nat.zero_add, List.nil_append] at ho4 hl4; clear hap)
    | (at_builtin; refine wpList_append_any rfl (.tmp 8) (.tmp 20) 27 rfl 5 i0 (.int .u8 0) 1 1 Try.underlying27 hi hz0 hz1 hz2 rfl (by decide) _ n _ rfl (World.ownsRow.alloc ho4 _) _ 4 [.int .u8 ((sm : Int) / 16777216), .int .u8 ((sm : Int) / 65536 % 256), .int .u8 ((sm : Int) / 256 % 256), .int .u8 ((sm : Int) % 256)] rfl (Rd.lit _ [.int .u8 ((sm : Int) / 16777216), .int .u8 ((sm : Int) / 65536 % 256), .int .u8 ((sm : Int) / 256 % 256), .int .u8 ((sm : Int) % 256)] _ _ 4 rfl rfl (by omega)) h1d hap3 hap4 ?_; intro v5 w5 hap; obtain ⟨a5, c5, rfl⟩ := hap.form; have ho5 := hap.own; have hl5 := Lib.hid (hap.low (B := w.heap.size) (by have := hm4.size; simp; omega) hl4); have hm5 := Lib.hid (hap.modOld (hm4.thenAlloc _) hl4); clear hap ho4 hm4 hl4; rw [show hd.map (Value.int .u8) ++ [Value.int .u8 ((sm : Int) / 16777216), .int .u8 ((sm : Int) / 65536 % 256), .int .u8 ((sm : Int) / 256 % 256), .int .u8 ((sm : Int) % 256)] = (frL hd).map (Value.int .u8) by rw [← HFR.out]; simp] at ho5; have HO5 := Lib.hid ho5; clear ho5))
  go_ret
  exact ⟨a5, c5, rfl, Own.rebase HO5.out hl5.out, hm5.out⟩

set_option maxHeartbeats 4000000 in
theorem rwrap_any (w : World) (kind : Int) (a : Option Addr) (n c : Nat) (body : List Int) (hn : body.length = n) (hr : Rd w 1 (.slice a n c) n (body.map (Value.int .u8))) (hb : ∀ x ∈ body, 0 ≤ x ∧ x < 256) :
    Calls Try.prog 21 #[.int .i64 kind, .slice a n c] w (WrapP kind body w) := by
  obtain ⟨i0, hi, hz0, hz1, hz2⟩ := info_parts Chk.info5
  have HN := Lib.hid hn
  clear hn
  by_cases hno : ¬ ((0 ≤ kind ∧ kind < 256) ∧ n ≤ 2000)
  · have hw : wrapS kind body = none := by unfold wrapS; rw [if_neg (by rw [HN.out]; exact hno)]
    have HW := Lib.hid hw
    clear hw
    rcases Int.lt_or_le kind 0 with g0 | g0
    · go_enter Try.func21, Try.ntmps21
      go_wp2_with fail
      go_ret2
      exact ⟨_, by rw [HW.out]; rfl, by rw [HW.out]; exact World.ownsRow_nil _ _ _ _, Mod.refl _ _, _, _, by rw [HW.out]; rfl⟩
    · rcases Int.lt_or_le 255 kind with g1 | g1
      · go_enter Try.func21, Try.ntmps21
        go_wp2_with fail
        go_ret2
        exact ⟨_, by rw [HW.out]; rfl, by rw [HW.out]; exact World.ownsRow_nil _ _ _ _, Mod.refl _ _, _, _, by rw [HW.out]; rfl⟩
      · have g2 : 2000 < n := by omega
        go_enter Try.func21, Try.ntmps21
        go_wp2_with fail
        go_ret2
        exact ⟨_, by rw [HW.out]; rfl, by rw [HW.out]; exact World.ownsRow_nil _ _ _ _, Mod.refl _ _, _, _, by rw [HW.out]; rfl⟩
  · have hy : (0 ≤ kind ∧ kind < 256) ∧ n ≤ 2000 := by omega
    obtain ⟨hk, q1⟩ := hy
    clear hno
    have hw : wrapS kind body = some (frL (hdL kind body)) := wrapS_some hk (by rw [HN.out]; exact q1)
    have HW := Lib.hid hw
    have h1c : ∀ u ∈ body.map (Value.int .u8), u.oneCell' = true := by intro u hu; simp at hu; obtain ⟨x, _, rfl⟩ := hu; rfl
    have hap1 : 5 + n ≤ maxLen := by unfold maxLen; omega
    have hap2 : (5 + n) * 1 ≤ 140737488355328 := by omega
    have hhd : hdL kind body = [77, 3, kind, (n : Int) / 256, (n : Int) % 256] ++ body := by rw [hd_form, HN.out, show (n : Int) / 256 % 256 = (n : Int) / 256 by omega]; rfl
    have HHD := Lib.hid hhd
    have hhl := hd_len kind body
    rw [HN.out] at hhl
    have HHL := Lib.hid hhl
    have HHR := Lib.hid (hd_range hk hb)
    clear hw hhd hhl hb
    go_enter Try.func21, Try.ntmps21
    have hlit := World.ownsRow_lit (base := 0) (e := 5) (size := 1) w #[.int .u8 77, .int .u8 3, .int .u8 kind, .int .u8 ((n : Int) / 256), .int .u8 ((n : Int) % 256)] 5 (Nat.zero_le _) (by unfold maxLen; omega) rfl
    go_wp2_with (at_builtin; refine wpList_append_any rfl (.tmp 28) (.tmp 29) 27 rfl 5 i0 (.int .u8 0) 1 1 Try.underlying27 hi hz0 hz1 hz2 rfl (by decide) _ 5 _ rfl hlit _ n (body.map (Value.int .u8)) rfl (hr.alloc _) h1c hap1 hap2 ?_; intro v4 w4 hap; obtain ⟨a4, c4, rfl⟩ := hap.form; have ho4 := hap.own; have hm4 := hap.modOld (Mod.alloc (fun _ => False) w _) (low_lit (Nat.le_refl _)); clear hap hlit)
    rw [show (#[Value.int .u8 77, .int .u8 3, .int .u8 kind, .int .u8 ((n : Int) / 256), .int .u8 ((n : Int) % 256)] : Array Value).toList ++ body.map (Value.int .u8) = (hdL kind body).map (Value.int .u8) by rw [HHD.out]; rfl] at ho4
    have hr4 := Rd.ofOwn ho4
    clear ho4
    refine (summed_any w4 a4 (5 + n) c4 (hdL kind body) (by rw [HHL.out]; omega) hr4 HHR.out (by omega)).mono ?_
    rintro e w5 ⟨a5, c5, rfl, ho5, hm5⟩
    have hB := Own.base ho5 hm4.size
    have HM := Lib.hid (hm4.trans hm5 (H := fun _ => False) (fun _ _ e => e) (fun _ _ e => e))
    have HO := Lib.hid hB
    clear hB ho5 hm5 hm4 hr4
    have hlen : (frL (hdL kind body)).length = 5 + n + 4 := by rw [fr_len, HHL.out]; omega
    have HLEN := Lib.hid hlen
    clear hlen
    go_wp2_with fail
    go_ret2
    refine ⟨.slice a5 (5 + n + 4) c5, by rw [HW.out]; rfl, ?_, HM.out, a5, c5, by rw [HW.out]; show _ = Value.slice a5 (frL (hdL kind body)).length c5; rw [HLEN.out]⟩
    rw [HW.out]
    unfold Fresh
    show World.ownsRow _ _ _ _ _ (frL (hdL kind body)).length _
    rw [HLEN.out]
    exact HO.out
end Go.Proofs.Ytabfmnlpipbegaa
