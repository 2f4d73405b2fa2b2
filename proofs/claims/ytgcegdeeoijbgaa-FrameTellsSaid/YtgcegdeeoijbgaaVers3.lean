/- The law FrameVersions, walked. -/
import Derived.Test.YtgcegdeeoijbgaaBack3
import Derived.Laws.OwnMore
import Derived.Deep.DeepCutAuto
import Derived.Deep.CutBlock
namespace Mile
open Go Go.RowKit
theorem set4 (hd t : List Int) (ht : t.length = 4) (L : Nat) (hL : hd.length = L) (d0 d1 d2 d3 : Int) : ((((hd ++ t).set L d0).set (L + 1) d1).set (L + 2) d2).set (L + 3) d3 = hd ++ [d0, d1, d2, d3] := by
  subst hL
  match t, ht with
  | [w, x, y, z], _ =>
    apply List.ext_getElem?
    intro i
    rcases Nat.lt_or_ge i hd.length with h | h
    · rw [List.getElem?_set_ne (by omega), List.getElem?_set_ne (by omega), List.getElem?_set_ne (by omega), List.getElem?_set_ne (by omega), List.getElem?_append_left h, List.getElem?_append_left h]
    · obtain ⟨k, rfl⟩ := Nat.exists_eq_add_of_le h
      have hl : (hd ++ [w, x, y, z]).length = hd.length + 4 := by simp
      rcases (show k = 0 ∨ k = 1 ∨ k = 2 ∨ k = 3 ∨ 4 ≤ k by omega) with rfl | rfl | rfl | rfl | hk
      · rw [List.getElem?_set_ne (by omega), List.getElem?_set_ne (by omega), List.getElem?_set_ne (by omega), Nat.add_zero, List.getElem?_set_self (by omega)]; simp
      · rw [List.getElem?_set_ne (by omega), List.getElem?_set_ne (by omega), List.getElem?_set_self (by simp)]; simp
      · rw [List.getElem?_set_ne (by omega), List.getElem?_set_self (by simp)]; simp
      · rw [List.getElem?_set_self (by simp)]; simp
      · rw [List.getElem?_eq_none (by simp; omega), List.getElem?_eq_none (by simp; omega)]
theorem digs4 (x : Int) : digs x 4 = [x / 16777216 % 256, x / 65536 % 256, x / 256 % 256, x % 256] := by
  show [x / 2 ^ (8 * 3) % 256, x / 2 ^ (8 * 2) % 256, x / 2 ^ (8 * 1) % 256, x / 2 ^ (8 * 0) % 256] = _
  simp
theorem unS_ver {k v : Int} {body : List Int} (h : body.length ≤ 2000) : unS (frL ((hdL k body).set 1 v)) = if v = 3 then ((k, body), 0) else ((0, []), 3) := by
  have e : (hdL k body).set 1 v = 77 :: v :: k :: (body.length : Int) / 256 % 256 :: (body.length : Int) % 256 :: body := by rw [hd_form]; rfl
  have hb : bodyN (77 :: v :: k :: (body.length : Int) / 256 % 256 :: (body.length : Int) % 256 :: body) = body.length := by
    show (body.length : Int) / 256 % 256 * 256 + (body.length : Int) % 256 = _
    omega
  rw [e, unS_fr (by simp) (by rw [hb]; simp; omega), hb]
  show (if (77 : Int) = 77 then (if v = 3 then (if (body.length : Int) ≤ 2000 then ((k, body), 0) else ((0, []), 2)) else ((0, []), 3)) else ((0, []), 2) : (Int × List Int) × Int) = _
  have hl : (body.length : Int) ≤ 2000 := by omega
  simp only [hl, if_true]
theorem unS_fst {k v : Int} {body : List Int} (h : body.length ≤ 2000) : unS (frL ((hdL k body).set 0 v)) = if v = 77 then ((k, body), 0) else ((0, []), 2) := by
  have e : (hdL k body).set 0 v = v :: 3 :: k :: (body.length : Int) / 256 % 256 :: (body.length : Int) % 256 :: body := by rw [hd_form]; rfl
  have hb : bodyN (v :: 3 :: k :: (body.length : Int) / 256 % 256 :: (body.length : Int) % 256 :: body) = body.length := by
    show (body.length : Int) / 256 % 256 * 256 + (body.length : Int) % 256 = _
    omega
  rw [e, unS_fr (by simp) (by rw [hb]; simp; omega), hb]
  show (if v = 77 then (if (3 : Int) = 3 then (if (body.length : Int) ≤ 2000 then ((k, body), 0) else ((0, []), 2)) else ((0, []), 3)) else ((0, []), 2) : (Int × List Int) × Int) = _
  have hl : (body.length : Int) ≤ 2000 := by omega
  simp only [hl, if_true]
end Mile
namespace Go.Proofs.Ytgcegdeeoijbgaa
open Go.RowKit Mile

theorem own_some3 {w : World} {base : Nat} {e : TypeId} {size : Nat} {a : Option Addr} {n c : Nat} {xs : List Value} (h : w.ownsRow base e size (.slice a n c) n xs) (hn : 0 < n) : ∃ g, a = some ⟨g, 0, none⟩ := by
  rcases h.2 with ⟨h', _⟩ | ⟨g, cap, cur, h', _⟩
  · simp only [Value.slice.injEq] at h'; omega
  · cases h'; exact ⟨g, rfl⟩
theorem own_cell {w : World} {base : Nat} {e : TypeId} {g n c : Nat} {xs : List Value} (h : w.ownsRow base e 1 (.slice (some ⟨g, 0, none⟩) n c) n xs) (j : Nat) (hj : j < n) : ∃ v, w.cell? ⟨g, j, none⟩ = some v := by
  have hl := h.1
  rw [Nat.mul_one] at hl
  exact ⟨xs[j]'(by omega), by rw [h.cellAt j (by omega)]; exact List.getElem?_eq_getElem (by omega)⟩

set_option maxHeartbeats 8000000 in
set_option maxRecDepth 100000 in
theorem fvers_walk (w : World) (kind : Int) (a : Option Addr) (n c : Nat) (body : List Int) (hn : body.length = n) (hr : Rd w 1 (.slice a n c) n (body.map (Value.int .u8))) (hb : ∀ x ∈ body, 0 ≤ x ∧ x < 256) (ver fst : Int) (hv : 0 ≤ ver ∧ ver < 256) (hf : 0 ≤ fst ∧ fst < 256) :
    Calls Try.prog 6 #[.int .i64 kind, .slice a n c, .int .u8 ver, .int .u8 fst] w fun e w' => e = .returned (.bool true) ∧ Mod (fun _ => False) w w' := by
  obtain ⟨i0, hi, hz0, hz1, hz2⟩ := info_parts Chk.info5
  by_cases h5 : 300 < n
  · go_enter Try.func6, Try.ntmps6
    go_wp2_with fail
    refine (awake_any _).mono ?_
    rintro e w9 ⟨rfl, hM9⟩
    have HM := Lib.hid hM9
    clear hM9
    go_wp2_with fail
    go_ret
    exact ⟨rfl, HM.out⟩
  have q1 : n ≤ 300 := by omega
  clear h5
  have HN := Lib.hid hn
  have HB := Lib.hid hb
  clear hn hb
  have k1 := Int.emod_nonneg kind (show (256 : Int) ≠ 0 by omega)
  have k2 := Int.emod_lt_of_pos kind (show (0 : Int) < 256 by omega)
  obtain ⟨kd, hkd⟩ : ∃ kd, kind % 256 = kd := ⟨_, rfl⟩
  rw [hkd] at k1 k2
  have HKD := Lib.hid hkd
  clear hkd
  obtain ⟨b, hbd⟩ : ∃ b, frL (hdL kd body) = b := ⟨_, rfl⟩
  have hbl : b.length = n + 9 := by rw [← hbd, fr_len, hd_len, HN.out]
  have hbr : ∀ x ∈ b, 0 ≤ x ∧ x < 256 := by rw [← hbd]; exact fr_range (hd_range ⟨k1, k2⟩ HB.out)
  have HBL := Lib.hid hbl
  have HBR := Lib.hid hbr
  clear hbl hbr
  go_enter Try.func6, Try.ntmps6
  go_wp2_with fail
  refine (round_any _ _ _ (by omega) (by omega)).mono ?_
  rintro e w' ⟨rfl, rfl⟩
  rw [HKD.out]
  go_wp2_with fail
  refine (wrap_ok w kd ⟨k1, k2⟩ a n c body HN.out hr HB.out (by omega)).mono ?_
  rw [hbd]
  rintro e w1 ⟨a1, c1, rfl, hF1, hM1⟩
  have HBD := Lib.hid hbd
  clear hbd
  have hr1 := Rd.ofOwn hF1
  have hM1' := Lib.hid hM1
  clear hM1 hF1
  have z0 : decide ((n : Int) + 9 < 9) = false := by simp; omega
  go_wp2_with fail
  go_loopw [11, 12, 13, 14, 15, 16, 17, 18] (fun i _ _ _ _ _ _ _ wr => ∃ t : Nat, t ≤ 2 ∧ i = .int .i64 t ∧ Mod (fun _ => False) w1 wr) (fun i _ _ _ _ _ _ _ _ => 2 - (intOf i).toNat)
  case atStart => exact ⟨0, by omega, rfl, Mod.refl _ _⟩
  case round =>
    obtain ⟨t, ht, rfl, hM⟩ := hrel
    have h1c : ∀ u ∈ b.map (Value.int .u8), u.oneCell' = true := by intro u hu; simp at hu; obtain ⟨x, _, rfl⟩ := hu; rfl
    have hap1 : 0 + (n + 9) ≤ maxLen := by unfold maxLen; omega
    have hap2 : (0 + (n + 9)) * 1 ≤ 140737488355328 := by omega
    have hrW := hr1.keepA hM (fun _ _ e => e.elim)
    rcases (show t = 0 ∨ t = 1 ∨ t = 2 by omega) with rfl | rfl | rfl
    · have hcast : (n : Int) + 9 - 4 = ((n + 5 : Nat) : Int) := by omega
      obtain ⟨m, hm⟩ : ∃ m, n + 5 = m := ⟨_, rfl⟩
      rw [hm] at hcast
      obtain ⟨m1, hm1'⟩ : ∃ k, m + 1 = k := ⟨_, rfl⟩
      obtain ⟨m2, hm2'⟩ : ∃ k, m + 2 = k := ⟨_, rfl⟩
      obtain ⟨m3, hm3'⟩ : ∃ k, m + 3 = k := ⟨_, rfl⟩
      have hm1 : (m : Int) + 1 = (m1 : Int) := by omega
      have hm2 : (m : Int) + 2 = (m2 : Int) := by omega
      have hm3 : (m : Int) + 3 = (m3 : Int) := by omega
      have HN9 : Hid (n + 9 = m + 4) := Lib.hid (by omega)
      have HD' : Hid (∃ hd', (hdL kd body).set 1 ver = hd') := Lib.hid ⟨_, rfl⟩
      obtain ⟨hd', hhd⟩ := HD'.out
      have hdl : hd'.length = m := by rw [← hhd, List.length_set, hd_len, HN.out, hm]
      have hdr : ∀ x ∈ hd', 0 ≤ x ∧ x < 256 := by
        rw [← hhd]
        intro x hx
        rcases List.mem_or_eq_of_mem_set hx with e | e
        · exact hd_range ⟨k1, k2⟩ HB.out x e
        · rw [e]; exact hv
      have hbs : b.set 1 ver = hd' ++ digs (csum (hdL kd body)).toNat 4 := by
        rw [← HBD.out, ← hhd]; unfold frL; rw [List.set_append, if_pos (by rw [hd_len]; omega)]
      have hdg := digs_length (csum (hdL kd body)).toNat 4
      obtain ⟨old, hold⟩ : ∃ o, digs (csum (hdL kd body)).toNat 4 = o := ⟨_, rfl⟩
      rw [hold] at hbs hdg
      have hu : unS (frL hd') = if ver = 3 then ((kd, body), 0) else ((0, []), 3) := by rw [← hhd]; exact unS_ver (by rw [HN.out]; omega)
      have HU := Lib.hid hu
      have HDL := Lib.hid hdl
      have HDR := Lib.hid hdr
      have HBS := Lib.hid hbs
      have HDG := Lib.hid hdg
      clear hu hdl hdr hbs hdg hold hhd HD'
      go_upto_if 46 with (at_builtin; refine wpList_append_any rfl (.tmp 41) (.tmp 42) 22 rfl 5 i0 (.int .u8 0) 1 1 Try.underlying22 hi hz0 hz1 hz2 rfl (by decide) _ 0 [] rfl (own_empty _ _ _ _ (by simp)) _ (n + 9) (b.map (Value.int .u8)) rfl (hrW.alloc _) h1c hap1 hap2 ?_; intro v4 w4 hap; obtain ⟨a4, c4, rfl⟩ := hap.form; have ho4 := hap.own; have hl4 := hap.low (B := wr.heap.size) (by simp) (low_lit (Nat.le_refl _)); have hm4 := hap.modOld (Mod.alloc (fun _ => False) wr _) (low_lit (Nat.le_refl _)); simp only [Nat.zero_add, List.nil_append] at ho4 hl4; clear hap; obtain ⟨g, rfl⟩ := own_some3 ho4 (by omega); have hg := hl4 g rfl; obtain ⟨cv, hcv⟩ := own_cell ho4 1 (by omega); have hfz := ho4.frozenAt 1; have hmc : m ≤ c4 := (by obtain ⟨_, a', c', he, h1, _⟩ := Rd.ofOwn ho4; cases he; omega); have hts := (fun wx => run_takeS (P := Try.prog) wx 22 5 i0 Try.underlying22 hi (some ⟨g, 0, none⟩) (n + 9) c4 m hmc); have hst := ho4.stored 1 (.int .u8 ver); rw [← List.map_set, HBS.out] at hst; have S1 := Lib.hid hst.1; have G1 := Lib.hid (hm4.trans (Mod.ofGrown hst.2) (H := fun _ => False) (fun _ _ e => e) (fun i hi e => by have e1 : g = i := Option.some.inj e; omega)); clear hst ho4 hl4 hm4)
      have hrt := (Rd.ofOwn S1.out).take (n := m) (by omega)
      rw [Nat.mul_one, ← List.map_take, List.take_append_of_le_length (by rw [HDL.out]; omega), List.take_of_length_le (by rw [HDL.out]; omega)] at hrt
      obtain ⟨sm, hsm⟩ : ∃ sm, (csum hd').toNat = sm := ⟨_, rfl⟩
      have hlt := (csum hd').isLt
      rw [hsm] at hlt
      have hlt2 : sm < 4294967296 := by simpa using hlt
      have HSM := Lib.hid hsm
      clear hlt hsm
      refine (rsum_any (some ⟨g, 0, none⟩) m c4 hd' _ hrt HDR.out).mono ?_
      rw [HSM.out]
      rintro e w5 ⟨rfl, rfl⟩
      obtain ⟨v0, r0⟩ := own_cell S1.out m (by omega)
      have f0 := S1.out.frozenAt m
      have t0 := S1.out.stored m (.int .u8 ((sm : Int) / 16777216))
      obtain ⟨v1, r1⟩ := own_cell t0.1 m1 (by omega)
      have f1 := t0.1.frozenAt m1
      have t1 := t0.1.stored m1 (.int .u8 ((sm : Int) / 65536 % 256))
      obtain ⟨v2, r2⟩ := own_cell t1.1 m2 (by omega)
      have f2 := t1.1.frozenAt m2
      have t2 := t1.1.stored m2 (.int .u8 ((sm : Int) / 256 % 256))
      obtain ⟨v3, r3⟩ := own_cell t2.1 m3 (by omega)
      have f3 := t2.1.frozenAt m3
      have t3 := t2.1.stored m3 (.int .u8 ((sm : Int) % 256))
      have g4 := Lib.hid ((((G1.out.trans (Mod.ofGrown t0.2) (H := fun _ => False) (fun _ _ e => e) (fun i hi e => by have e1 : g = i := Option.some.inj e; omega)).trans (Mod.ofGrown t1.2) (H := fun _ => False) (fun _ _ e => e) (fun i hi e => by have e1 : g = i := Option.some.inj e; omega)).trans (Mod.ofGrown t2.2) (H := fun _ => False) (fun _ _ e => e) (fun i hi e => by have e1 : g = i := Option.some.inj e; omega)).trans (Mod.ofGrown t3.2) (H := fun _ => False) (fun _ _ e => e) (fun i hi e => by have e1 : g = i := Option.some.inj e; omega))
      have S4 := t3.1
      have hset : ((((hd' ++ old).set m ((sm : Int) / 16777216)).set m1 ((sm : Int) / 65536 % 256)).set m2 ((sm : Int) / 256 % 256)).set m3 ((sm : Int) % 256) = hd' ++ [(sm : Int) / 16777216, (sm : Int) / 65536 % 256, (sm : Int) / 256 % 256, (sm : Int) % 256] := by
        rw [← hm1', ← hm2', ← hm3']; exact set4 hd' old HDG.out m HDL.out _ _ _ _
      rw [← List.map_set, ← List.map_set, ← List.map_set, ← List.map_set, hset] at S4
      have hfr : hd' ++ [(sm : Int) / 16777216, (sm : Int) / 65536 % 256, (sm : Int) / 256 % 256, (sm : Int) % 256] = frL hd' := by
        unfold frL; rw [digs4, HSM.out, show (sm : Int) / 16777216 % 256 = (sm : Int) / 16777216 by omega]
      rw [hfr] at S4
      have S5 := Lib.hid S4
      clear t0 t1 t2 t3 S4 hfr hrt hset
      clear hfz hcv hts
      go_wp2_with fail
      obtain ⟨W5, hW5⟩ : ∃ W5, ((((w4.setCell ⟨g, 1, none⟩ (.int .u8 ver)).setCell ⟨g, m, none⟩ (.int .u8 ((sm : Int) / 16777216))).setCell ⟨g, m1, none⟩ (.int .u8 ((sm : Int) / 65536 % 256))).setCell ⟨g, m2, none⟩ (.int .u8 ((sm : Int) / 256 % 256))).setCell ⟨g, m3, none⟩ (.int .u8 ((sm : Int) % 256)) = W5 := ⟨_, rfl⟩
      rw [hW5] at S5 g4 ⊢
      clear hW5 r0 r1 r2 r3 f0 f1 f2 f3
      have hfl : (frL hd').length = n + 9 := by rw [fr_len, HDL.out]; omega
      have hMW := hM.trans g4.out (H := fun _ => False) (fun _ _ e => e) (fun _ _ e => e)
      by_cases hc : ver = 3
      · have hu := HU.out
        rw [if_pos hc] at hu
        subst hc
        refine (unwrap_at hu HN.out W5 (some ⟨g, 0, none⟩) (n + 9) c4 hfl (Rd.ofOwn S5.out) (fr_range HDR.out) (by omega)).mono ?_
        rintro e w6 ⟨a6, c6, rfl, hF6, hM6⟩
        have hM6' := hMW.trans hM6 (H := fun _ => False) (fun _ _ e => e) (fun _ _ e => e)
        obtain ⟨X, hX⟩ : ∃ X, strOf body = X := ⟨_, rfl⟩
        have k1' := run_strS (P := Try.prog) w6 22 9 5 Try.underlying22 Try.underlying5 Try.underlying9 (Rd.ofOwn hF6)
        have k2' := run_strS (P := Try.prog) w6 22 9 5 Try.underlying22 Try.underlying5 Try.underlying9 (hr.keepA (hM1'.out.trans hM6' (H := fun _ => False) (fun _ _ e => e) (fun _ _ e => e)) (fun _ _ e => e.elim))
        rw [hX] at k1' k2'
        have HM6 := Lib.hid hM6'
        clear hX hM6 hM6' hF6 hMW hM hr hr1 hrW h1c hap1 hap2 hu
        go_wp2_with fail
        go_roundw
        case rel => exact ⟨0 + 1, by omega, by go_num, HM6.out⟩
        case measure => simp [intOf]
      · have hu := HU.out
        rw [if_neg hc] at hu
        have g1 : (ver != 3) = true := by simpa using hc
        have g2 : (ver == 3) = false := by simpa using hc
        refine (unwrap_at (m := 0) hu rfl W5 (some ⟨g, 0, none⟩) (n + 9) c4 hfl (Rd.ofOwn S5.out) (fr_range HDR.out) (by omega)).mono ?_
        rintro e w6 ⟨a6, c6, rfl, hF6, hM6⟩
        have HM6 := Lib.hid (hMW.trans hM6 (H := fun _ => False) (fun _ _ e => e) (fun _ _ e => e))
        clear hM6 hF6 hMW hM hr hr1 hrW h1c hap1 hap2 hu
        go_wp2_with fail
        go_roundw
        case rel => exact ⟨0 + 1, by omega, by go_num, HM6.out⟩
        case measure => simp [intOf]
    · have hcast : (n : Int) + 9 - 4 = ((n + 5 : Nat) : Int) := by omega
      obtain ⟨m, hm⟩ : ∃ m, n + 5 = m := ⟨_, rfl⟩
      rw [hm] at hcast
      obtain ⟨m1, hm1'⟩ : ∃ k, m + 1 = k := ⟨_, rfl⟩
      obtain ⟨m2, hm2'⟩ : ∃ k, m + 2 = k := ⟨_, rfl⟩
      obtain ⟨m3, hm3'⟩ : ∃ k, m + 3 = k := ⟨_, rfl⟩
      have hm1 : (m : Int) + 1 = (m1 : Int) := by omega
      have hm2 : (m : Int) + 2 = (m2 : Int) := by omega
      have hm3 : (m : Int) + 3 = (m3 : Int) := by omega
      have HN9 : Hid (n + 9 = m + 4) := Lib.hid (by omega)
      have HD' : Hid (∃ hd', (hdL kd body).set 0 fst = hd') := Lib.hid ⟨_, rfl⟩
      obtain ⟨hd', hhd⟩ := HD'.out
      have hdl : hd'.length = m := by rw [← hhd, List.length_set, hd_len, HN.out, hm]
      have hdr : ∀ x ∈ hd', 0 ≤ x ∧ x < 256 := by
        rw [← hhd]
        intro x hx
        rcases List.mem_or_eq_of_mem_set hx with e | e
        · exact hd_range ⟨k1, k2⟩ HB.out x e
        · rw [e]; exact hf
      have hbs : b.set 0 fst = hd' ++ digs (csum (hdL kd body)).toNat 4 := by
        rw [← HBD.out, ← hhd]; unfold frL; rw [List.set_append, if_pos (by rw [hd_len]; omega)]
      have hdg := digs_length (csum (hdL kd body)).toNat 4
      obtain ⟨old, hold⟩ : ∃ o, digs (csum (hdL kd body)).toNat 4 = o := ⟨_, rfl⟩
      rw [hold] at hbs hdg
      have hu : unS (frL hd') = if fst = 77 then ((kd, body), 0) else ((0, []), 2) := by rw [← hhd]; exact unS_fst (by rw [HN.out]; omega)
      have HU := Lib.hid hu
      have HDL := Lib.hid hdl
      have HDR := Lib.hid hdr
      have HBS := Lib.hid hbs
      have HDG := Lib.hid hdg
      clear hu hdl hdr hbs hdg hold hhd HD'
      go_upto_if 46 with (at_builtin; refine wpList_append_any rfl (.tmp 41) (.tmp 42) 22 rfl 5 i0 (.int .u8 0) 1 1 Try.underlying22 hi hz0 hz1 hz2 rfl (by decide) _ 0 [] rfl (own_empty _ _ _ _ (by simp)) _ (n + 9) (b.map (Value.int .u8)) rfl (hrW.alloc _) h1c hap1 hap2 ?_; intro v4 w4 hap; obtain ⟨a4, c4, rfl⟩ := hap.form; have ho4 := hap.own; have hl4 := hap.low (B := wr.heap.size) (by simp) (low_lit (Nat.le_refl _)); have hm4 := hap.modOld (Mod.alloc (fun _ => False) wr _) (low_lit (Nat.le_refl _)); simp only [Nat.zero_add, List.nil_append] at ho4 hl4; clear hap; obtain ⟨g, rfl⟩ := own_some3 ho4 (by omega); have hg := hl4 g rfl; obtain ⟨cv, hcv⟩ := own_cell ho4 0 (by omega); have hfz := ho4.frozenAt 0; have hmc : m ≤ c4 := (by obtain ⟨_, a', c', he, h1, _⟩ := Rd.ofOwn ho4; cases he; omega); have hts := (fun wx => run_takeS (P := Try.prog) wx 22 5 i0 Try.underlying22 hi (some ⟨g, 0, none⟩) (n + 9) c4 m hmc); have hst := ho4.stored 0 (.int .u8 fst); rw [← List.map_set, HBS.out] at hst; have S1 := Lib.hid hst.1; have G1 := Lib.hid (hm4.trans (Mod.ofGrown hst.2) (H := fun _ => False) (fun _ _ e => e) (fun i hi e => by have e1 : g = i := Option.some.inj e; omega)); clear hst ho4 hl4 hm4)
      have hrt := (Rd.ofOwn S1.out).take (n := m) (by omega)
      rw [Nat.mul_one, ← List.map_take, List.take_append_of_le_length (by rw [HDL.out]; omega), List.take_of_length_le (by rw [HDL.out]; omega)] at hrt
      obtain ⟨sm, hsm⟩ : ∃ sm, (csum hd').toNat = sm := ⟨_, rfl⟩
      have hlt := (csum hd').isLt
      rw [hsm] at hlt
      have hlt2 : sm < 4294967296 := by simpa using hlt
      have HSM := Lib.hid hsm
      clear hlt hsm
      refine (rsum_any (some ⟨g, 0, none⟩) m c4 hd' _ hrt HDR.out).mono ?_
      rw [HSM.out]
      rintro e w5 ⟨rfl, rfl⟩
      obtain ⟨v0, r0⟩ := own_cell S1.out m (by omega)
      have f0 := S1.out.frozenAt m
      have t0 := S1.out.stored m (.int .u8 ((sm : Int) / 16777216))
      obtain ⟨v1, r1⟩ := own_cell t0.1 m1 (by omega)
      have f1 := t0.1.frozenAt m1
      have t1 := t0.1.stored m1 (.int .u8 ((sm : Int) / 65536 % 256))
      obtain ⟨v2, r2⟩ := own_cell t1.1 m2 (by omega)
      have f2 := t1.1.frozenAt m2
      have t2 := t1.1.stored m2 (.int .u8 ((sm : Int) / 256 % 256))
      obtain ⟨v3, r3⟩ := own_cell t2.1 m3 (by omega)
      have f3 := t2.1.frozenAt m3
      have t3 := t2.1.stored m3 (.int .u8 ((sm : Int) % 256))
      have g4 := Lib.hid ((((G1.out.trans (Mod.ofGrown t0.2) (H := fun _ => False) (fun _ _ e => e) (fun i hi e => by have e1 : g = i := Option.some.inj e; omega)).trans (Mod.ofGrown t1.2) (H := fun _ => False) (fun _ _ e => e) (fun i hi e => by have e1 : g = i := Option.some.inj e; omega)).trans (Mod.ofGrown t2.2) (H := fun _ => False) (fun _ _ e => e) (fun i hi e => by have e1 : g = i := Option.some.inj e; omega)).trans (Mod.ofGrown t3.2) (H := fun _ => False) (fun _ _ e => e) (fun i hi e => by have e1 : g = i := Option.some.inj e; omega))
      have S4 := t3.1
      have hset : ((((hd' ++ old).set m ((sm : Int) / 16777216)).set m1 ((sm : Int) / 65536 % 256)).set m2 ((sm : Int) / 256 % 256)).set m3 ((sm : Int) % 256) = hd' ++ [(sm : Int) / 16777216, (sm : Int) / 65536 % 256, (sm : Int) / 256 % 256, (sm : Int) % 256] := by
        rw [← hm1', ← hm2', ← hm3']; exact set4 hd' old HDG.out m HDL.out _ _ _ _
      rw [← List.map_set, ← List.map_set, ← List.map_set, ← List.map_set, hset] at S4
      have hfr : hd' ++ [(sm : Int) / 16777216, (sm : Int) / 65536 % 256, (sm : Int) / 256 % 256, (sm : Int) % 256] = frL hd' := by
        unfold frL; rw [digs4, HSM.out, show (sm : Int) / 16777216 % 256 = (sm : Int) / 16777216 by omega]
      rw [hfr] at S4
      have S5 := Lib.hid S4
      clear t0 t1 t2 t3 S4 hfr hrt hset
      clear hfz hcv hts
      go_wp2_with fail
      obtain ⟨W5, hW5⟩ : ∃ W5, ((((w4.setCell ⟨g, 0, none⟩ (.int .u8 fst)).setCell ⟨g, m, none⟩ (.int .u8 ((sm : Int) / 16777216))).setCell ⟨g, m1, none⟩ (.int .u8 ((sm : Int) / 65536 % 256))).setCell ⟨g, m2, none⟩ (.int .u8 ((sm : Int) / 256 % 256))).setCell ⟨g, m3, none⟩ (.int .u8 ((sm : Int) % 256)) = W5 := ⟨_, rfl⟩
      rw [hW5] at S5 g4 ⊢
      clear hW5 r0 r1 r2 r3 f0 f1 f2 f3
      have hfl : (frL hd').length = n + 9 := by rw [fr_len, HDL.out]; omega
      have hMW := hM.trans g4.out (H := fun _ => False) (fun _ _ e => e) (fun _ _ e => e)
      by_cases hc : fst = 77
      · have hu := HU.out
        rw [if_pos hc] at hu
        subst hc
        refine (unwrap_at hu HN.out W5 (some ⟨g, 0, none⟩) (n + 9) c4 hfl (Rd.ofOwn S5.out) (fr_range HDR.out) (by omega)).mono ?_
        rintro e w6 ⟨a6, c6, rfl, hF6, hM6⟩
        have hM6' := hMW.trans hM6 (H := fun _ => False) (fun _ _ e => e) (fun _ _ e => e)
        obtain ⟨X, hX⟩ : ∃ X, strOf body = X := ⟨_, rfl⟩
        have k1' := run_strS (P := Try.prog) w6 22 9 5 Try.underlying22 Try.underlying5 Try.underlying9 (Rd.ofOwn hF6)
        have k2' := run_strS (P := Try.prog) w6 22 9 5 Try.underlying22 Try.underlying5 Try.underlying9 (hr.keepA (hM1'.out.trans hM6' (H := fun _ => False) (fun _ _ e => e) (fun _ _ e => e)) (fun _ _ e => e.elim))
        rw [hX] at k1' k2'
        have HM6 := Lib.hid hM6'
        clear hX hM6 hM6' hF6 hMW hM hr hr1 hrW h1c hap1 hap2 hu
        go_wp2_with fail
        go_roundw
        case rel => exact ⟨1 + 1, by omega, by go_num, HM6.out⟩
        case measure => simp [intOf]
      · have hu := HU.out
        rw [if_neg hc] at hu
        have g1 : (fst != 77) = true := by simpa using hc
        have g2 : (fst == 77) = false := by simpa using hc
        refine (unwrap_at (m := 0) hu rfl W5 (some ⟨g, 0, none⟩) (n + 9) c4 hfl (Rd.ofOwn S5.out) (fr_range HDR.out) (by omega)).mono ?_
        rintro e w6 ⟨a6, c6, rfl, hF6, hM6⟩
        have HM6 := Lib.hid (hMW.trans hM6 (H := fun _ => False) (fun _ _ e => e) (fun _ _ e => e))
        clear hM6 hF6 hMW hM hr hr1 hrW h1c hap1 hap2 hu
        go_wp2_with fail
        go_roundw
        case rel => exact ⟨1 + 1, by omega, by go_num, HM6.out⟩
        case measure => simp [intOf]
    · have HM9 := Lib.hid (hM1'.out.trans hM (H := fun _ => False) (fun _ _ e => e) (fun _ _ e => e))
      clear hM hr hr1 hrW h1c hap1 hap2
      go_wp2_with fail
      refine (awake_any _).mono ?_
      rintro e w9 ⟨rfl, hM9⟩
      have HMA := Lib.hid hM9
      clear hM9
      go_wp2_with fail
      go_ret
      exact ⟨rfl, HM9.out.trans HMA.out (fun _ _ e => e) (fun _ _ e => e)⟩
theorem fvers_all (w : World) (kind : Int) (_ : (Lit.int .i64 kind).wf = true) (a : Option Addr) (n c : Nat) (body : List Int) (ok : (encSlice (encInt .u8)).ok w (.slice a n c, body)) (ver : Int) (hv : (Lit.int .u8 ver).wf = true) (fst : Int) (hf : (Lit.int .u8 fst).wf = true) :
    Calls Try.prog 6 #[.int .i64 kind, .slice a n c, .int .u8 ver, .int .u8 fst] w fun e w' => e = .returned (.bool true) ∧ Below w.heap.size w w' := by
  obtain ⟨hn, hr, hb⟩ := ok_ints ok
  exact (fvers_walk w kind a n c body hn hr (u8_range hb) ver fst (byte_wf hv) (byte_wf hf)).mono fun e w' h => ⟨h.1, h.2.below (Nat.le_refl _) (fun _ e => e.elim)⟩
end Go.Proofs.Ytgcegdeeoijbgaa
