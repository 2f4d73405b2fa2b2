/- slices.IndexFunc and DeleteFunc at []int, of the closures of Next and Prev, by contract. -/
import Derived.Test.YtbjdjafkpldbnaaDelP
import Derived.Test.YtbjdjafkpldbnaaIRow
import Derived.Deep.DeepCutAuto
import Derived.Deep.CutBlock
namespace Go.Proofs.Ytbjdjafkpldbnaa
open Go.RowKit Mile
set_option maxRecDepth 100000

set_option maxHeartbeats 4000000 in
theorem indexN_any (b2 b3 : Nat) (p : Int → Bool) (FB : Nat → Prop) (w : World) (a : Option Addr) (n c : Nat) (xs : List Int) (hn : xs.length = n) (hr : Rd w 1 (.slice a n c) n (xs.map (Value.int .i64))) (hb : n ≤ 1000000)
    (hf : ∀ W x, Mod FB w W → Calls Try.prog 69 #[.int .i64 x, .pointer (some ⟨b2, 0, none⟩), .pointer (some ⟨b3, 0, none⟩)] W fun e w' => e = .returned (.bool (p x)) ∧ Mod (fun _ => False) W w') :
    Calls Try.prog 76 #[.slice a n c, .func (.func 69) #[] #[.pointer (some ⟨b2, 0, none⟩), .pointer (some ⟨b3, 0, none⟩)]] w fun e w' => (∃ r : Int, e = .returned (.int .i64 r) ∧ ((r = -1 ∧ ∀ x ∈ xs, p x = false) ∨ ∃ k : Nat, r = k ∧ ∃ hk : k < xs.length, p (xs[k]'hk) = true ∧ ∀ x ∈ xs.take k, p x = false)) ∧ Mod (fun _ => False) w w' := by
  obtain ⟨iI, hiI, hzI, hsI, hbI⟩ := info_parts GR.infoI
  have HF := Lib.hid hf
  have HN := Lib.hid hn
  clear hf hn
  go_enter Try.func76, Try.ntmps76
  go_wp2_with fail
  go_loopw [8] (fun i wr => ∃ k : Nat, k ≤ n ∧ i = .int .i64 k ∧ Mod (fun _ => False) w wr ∧ ∀ x ∈ xs.take k, p x = false) (fun i _ => n - (intOf i).toNat)
  case atStart => exact ⟨0, by omega, rfl, Mod.refl _ _, fun x hx => by simp at hx⟩
  case round =>
    obtain ⟨k, hk, rfl, hm, hall⟩ := hrel
    obtain ⟨wo, hwo⟩ : ∃ x : World, x = wr := ⟨_, rfl⟩
    subst hwo
    have HM := Lib.hid hm
    have HA := Lib.hid hall
    clear hm hall
    by_cases hlt : k < n
    · have z0 : decide ((k : Int) < (n : Int)) = true := by simp; omega
      have hkl : k < xs.length := by rw [HN.out]; exact hlt
      obtain ⟨eb, eo, hpl, e0⟩ := rd1 (hr.keep HM.out (fun _ _ e => e)) k hkl
      have hix := fun wx => run_indexS (P := Try.prog) wx 22 3 iI 1 Try.underlying22 hiI hsI a n c k hlt (hr.some_ (by omega))
      rw [hpl] at hix
      obtain ⟨x, hx⟩ : ∃ x, xs[k] = x := ⟨_, rfl⟩
      rw [hx] at e0
      have HX := Lib.hid hx
      clear hx hpl
      obtain ⟨b, hpb⟩ : ∃ b, p x = b := ⟨_, rfl⟩
      have HP := Lib.hid hpb
      clear hpb
      go_wp2_with fail
      refine (HF.out _ x (HM.out.mono (fun _ _ e => e.elim))).mono ?_
      rintro e w2 ⟨rfl, hm2⟩
      rw [HP.out]
      have HM2 := Lib.hid (HM.out.of2 hm2)
      clear hm2 hix e0
      cases b with
      | true =>
        go_wp2_with fail
        go_ret
        exact ⟨⟨k, rfl, .inr ⟨k, rfl, hkl, by rw [HX.out]; exact HP.out, HA.out⟩⟩, HM2.out⟩
      | false =>
        go_wp2_with fail
        go_roundw
        case rel =>
          refine ⟨k + 1, hlt, by go_num, HM2.out, fun y hy => ?_⟩
          rw [List.take_succ_eq_append_getElem hkl] at hy
          rcases List.mem_append.1 hy with h | h
          · exact HA.out y h
          · rw [List.mem_singleton] at h; rw [h, HX.out]; exact HP.out
        case measure => simp [intOf]; omega
    · have z0 : decide ((k : Int) < (n : Int)) = false := by simp; omega
      go_wp2_with fail
      go_ret
      exact ⟨⟨-1, rfl, .inl ⟨rfl, fun x hx => HA.out x (by rw [List.take_of_length_le (by have := HN.out; omega)]; exact hx)⟩⟩, HM.out⟩

set_option maxHeartbeats 8000000 in
theorem deleteN_any (b2 b3 : Nat) (p : Int → Bool) (w : World) (base : Nat) (a : Option Addr) (n c : Nat) (xs : List Int) (hn : xs.length = n) (ho : w.ownsRow base 3 1 (.slice a n c) n (xs.map (Value.int .i64))) (hb : n ≤ 1000000)
    (hf : ∀ W x, Mod (fun k => (Value.slice a n c).ownBlock = some k) w W → Calls Try.prog 69 #[.int .i64 x, .pointer (some ⟨b2, 0, none⟩), .pointer (some ⟨b3, 0, none⟩)] W fun e w' => e = .returned (.bool (p x)) ∧ Mod (fun _ => False) W w') :
    Calls Try.prog 67 #[.slice a n c, .func (.func 69) #[] #[.pointer (some ⟨b2, 0, none⟩), .pointer (some ⟨b3, 0, none⟩)]] w fun e w' => (∃ v, e = .returned v ∧ IRow (kept p xs) v w' ∧ v.ownBlock = (Value.slice a n c).ownBlock) ∧ Mod (fun k => (Value.slice a n c).ownBlock = some k) w w' := by
  obtain ⟨iI, hiI, hzI, hsI, hbI⟩ := info_parts GR.infoI
  have HF := Lib.hid hf
  have HN := Lib.hid hn
  clear hf hn
  go_enter Try.func67, Try.ntmps67
  go_wp2_with fail
  refine (indexN_any b2 b3 p _ w a n c xs HN.out (Rd.ofOwn ho) hb HF.out).mono ?_
  rintro e w1 ⟨⟨r, rfl, hr⟩, hm⟩
  have HM := Lib.hid hm
  clear hm
  rcases hr with ⟨rfl, hall⟩ | ⟨k, rfl, hk, hpk, hall⟩
  · have HA := Lib.hid hall
    clear hall
    go_wp2_with fail
    go_ret
    refine ⟨⟨.slice a n c, rfl, ⟨a, c, ?_, ?_⟩, rfl⟩, HM.out.mono (fun _ _ e => e.elim)⟩
    · rw [kept_none HA.out, HN.out]
    · rw [kept_none HA.out, HN.out]; exact (Rd.ofOwn ho).keep HM.out (fun _ _ e => e)
  · have hkn : k < n := by rw [← HN.out]; exact hk
    obtain ⟨ob, c', hab, hlo, hlt⟩ := own_block ho (by omega)
    cases hab
    have hI0 := delI_start hk hpk hall
    have HI0 := Lib.hid hI0
    have hO := Lib.hid (Own.keep ho HM.out (fun _ _ e => e))
    clear hall hpk hI0
    have z0 : ((k : Int) == -1) = false := by rw [beq_eq_false_iff_ne]; omega
    have HOB : Hid (∀ k, (Value.slice (some ⟨ob, 0, none⟩) n c).ownBlock = some k ↔ k = ob) := Lib.hid fun k => by simp [Value.ownBlock]; omega
    go_wp2_with fail
    go_loopw [5, 6] (fun i j wr => ∃ I J : Nat, i = .int .i64 I ∧ j = .int .i64 J ∧ ∃ ys, DelI p xs ys I J ∧ World.ownsRow wr base 3 1 (.slice (some ⟨ob, 0, none⟩) n c) n (ys.map (Value.int .i64)) ∧ Mod (fun k => k = ob) w wr) (fun _ j _ => n - (intOf j).toNat)
    case atStart => exact ⟨k, k + 1, rfl, by go_num, xs, HI0.out, hO.out, HM.out.mono (fun _ _ e => e.elim)⟩
    case round =>
      obtain ⟨I, J, rfl, rfl, ys, hI, hOw, hm⟩ := hrel
      obtain ⟨wo, hwo⟩ : ∃ x : World, x = wr := ⟨_, rfl⟩
      subst hwo
      have hJ : J ≤ n := by have := hI.2.1; have := HN.out; omega
      have hIJ : I < J := hI.2.2.1
      have hyl : ys.length = n := by rw [hI.1]; exact HN.out
      have HI := Lib.hid hI
      have HO := Lib.hid hOw
      have HMW := Lib.hid hm
      have HYL := Lib.hid hyl
      clear hI hOw hm hyl hO HI0
      by_cases hlt2 : J < n
      · have z1 : decide ((J : Int) < (n : Int)) = true := by simp; omega
        obtain ⟨hy, he⟩ := delI_at HI.out (by rw [HN.out]; exact hlt2)
        obtain ⟨eb, eo, hpl, e0⟩ := rd1 (Rd.ofOwn HO.out) J hy
        have hix := fun wx => run_indexS (P := Try.prog) wx 22 3 iI 1 Try.underlying22 hiI hsI (some ⟨ob, 0, none⟩) n c J hlt2 (by simp)
        rw [hpl] at hix
        rw [he] at e0
        obtain ⟨x, hx⟩ : ∃ x, xs[J]'(by rw [HN.out]; exact hlt2) = x := ⟨_, rfl⟩
        rw [hx] at e0
        have HX := Lib.hid hx
        clear hx hpl he hy
        obtain ⟨b, hpb⟩ : ∃ b, p x = b := ⟨_, rfl⟩
        have HP := Lib.hid hpb
        clear hpb
        go_wp2_with fail
        refine (HF.out _ x (HMW.out.mono (fun i _ e => (HOB.out i).2 e))).mono ?_
        rintro e w2 ⟨rfl, hm2⟩
        rw [HP.out]
        have HM2 : Hid (Mod (fun k => k = ob) w w2) := Lib.hid (HMW.out.trans hm2 (fun _ _ e => e) (fun _ _ e => e.elim))
        have HO2 := Lib.hid (Own.keep HO.out hm2 (fun _ _ e => e))
        clear hm2 hix e0
        cases b with
        | true =>
          go_wp2_with fail
          go_roundw
          case rel => exact ⟨I, J + 1, rfl, by go_num, ys, delI_skip HI.out (by rw [HN.out]; exact hlt2) (by rw [HX.out]; exact HP.out), HO2.out, HM2.out⟩
          case measure => simp [intOf]; omega
        | false =>
          have hIn : I < n := by omega
          have hix2 : ∀ wx, (Instr.indexAt 22 (.slice (some ⟨ob, 0, none⟩) n c) (.int .i64 (I : Int))).run Try.prog wx = .ok (.pointer (some ⟨ob, I, none⟩)) wx := fun wx => by
            have h := run_indexS (P := Try.prog) wx 22 3 iI 1 Try.underlying22 hiI hsI (some ⟨ob, 0, none⟩) n c I hIn (by simp)
            have hp := (show elemA (some ⟨ob, 0, none⟩) I 1 = ⟨ob, I, none⟩ by unfold elemA; rw [Option.getD_some, Addr.add_lit, Nat.zero_add, Nat.mul_one])
            rw [hp] at h; exact h
          have hroom := Room.ofOwn HO2.out I (by omega)
          obtain ⟨v0, q0⟩ := hroom.cell
          have q1 := hroom.free
          have hst := (HO2.out.stored I (.int .i64 x)).1
          rw [← List.map_set] at hst
          have HST := Lib.hid hst
          clear hst hroom
          go_wp2_with fail
          go_roundw
          case rel =>
            refine ⟨I + 1, J + 1, by go_num, by go_num, ys.set I x, ?_, HST.out, HM2.out.thenSet _ _ (fun _ => rfl)⟩
            have h := delI_keep HI.out (by rw [HN.out]; exact hlt2) (by rw [HX.out]; exact HP.out)
            rw [HX.out] at h; exact h
          case measure => simp [intOf]; omega
      · obtain rfl : J = n := by omega
        have z1 : decide ((J : Int) < (J : Int)) = false := by simp
        have hE := delI_end (show DelI p xs ys I xs.length by rw [HN.out]; exact HI.out)
        obtain ⟨h1, h2, h3⟩ := hE
        have h4 : I < J := by rw [← HN.out]; exact h3
        have H1 := Lib.hid h1
        have H2 := Lib.hid h2
        have hcap : J ≤ c := by obtain ⟨_, h | ⟨g, cap, cur, he, _, _, hc, _⟩⟩ := HO.out; exact absurd h.1 (by simp); cases he; exact hc
        have hsl := fun wx => run_dropS (P := Try.prog) wx 22 3 iI 1 Try.underlying22 hiI hsI (some ⟨ob, 0, none⟩) J c I (by omega)
        have hdr : dropA (some ⟨ob, 0, none⟩) c I 1 = some ⟨ob, I, none⟩ := by unfold dropA; rw [if_neg (by omega)]; show some (Addr.add _ _) = _; rw [Addr.add_lit, Nat.zero_add, Nat.mul_one]
        rw [hdr] at hsl
        have hzv : ∀ w : World, (zeroValue 3).run Try.prog w = .ok (.int .i64 0) w := fun w => by kernel_rfl
        have hcl := fun ty => Lib.run_clear_slice (P := Try.prog) wo 22 3 ty (.int .i64 0) Try.underlying22 hzv rfl rfl ob I (J - I) (c - I) (by omega) (fun j hj => by obtain ⟨v, hv⟩ := (Room.ofOwn HO.out (I + j) (by omega)).cell; rw [hv]; rfl) (fun j hj => (Room.ofOwn HO.out (I + j) (by omega)).free)
        have htk := fun wx => run_takeS (P := Try.prog) wx 22 3 iI Try.underlying22 hiI (some ⟨ob, 0, none⟩) J c I (by omega)
        clear h1 h2 h3 hdr hzv
        go_wp2_with fail
        go_ret
        refine ⟨⟨.slice (some ⟨ob, 0, none⟩) I c, rfl, ⟨some ⟨ob, 0, none⟩, c, by rw [← H2.out], ?_⟩, rfl⟩, (HMW.out.trans (Mod.setCells _ _ _) (fun i _ e => (HOB.out i).2 e) (fun i _ e => (HOB.out i).2 e))⟩
        rw [← H2.out, ← H1.out]
        exact rd_cleared HO.out (by omega)

set_option maxHeartbeats 4000000 in
theorem indexP_any (b2 b3 : Nat) (p : Int → Bool) (FB : Nat → Prop) (w : World) (a : Option Addr) (n c : Nat) (xs : List Int) (hn : xs.length = n) (hr : Rd w 1 (.slice a n c) n (xs.map (Value.int .i64))) (hb : n ≤ 1000000)
    (hf : ∀ W x, Mod FB w W → Calls Try.prog 72 #[.int .i64 x, .pointer (some ⟨b2, 0, none⟩), .pointer (some ⟨b3, 0, none⟩)] W fun e w' => e = .returned (.bool (p x)) ∧ Mod (fun _ => False) W w') :
    Calls Try.prog 76 #[.slice a n c, .func (.func 72) #[] #[.pointer (some ⟨b2, 0, none⟩), .pointer (some ⟨b3, 0, none⟩)]] w fun e w' => (∃ r : Int, e = .returned (.int .i64 r) ∧ ((r = -1 ∧ ∀ x ∈ xs, p x = false) ∨ ∃ k : Nat, r = k ∧ ∃ hk : k < xs.length, p (xs[k]'hk) = true ∧ ∀ x ∈ xs.take k, p x = false)) ∧ Mod (fun _ => False) w w' := by
  obtain ⟨iI, hiI, hzI, hsI, hbI⟩ := info_parts GR.infoI
  have HF := Lib.hid hf
  have HN := Lib.hid hn
  clear hf hn
  go_enter Try.func76, Try.ntmps76
  go_wp2_with fail
  go_loopw [8] (fun i wr => ∃ k : Nat, k ≤ n ∧ i = .int .i64 k ∧ Mod (fun _ => False) w wr ∧ ∀ x ∈ xs.take k, p x = false) (fun i _ => n - (intOf i).toNat)
  case atStart => exact ⟨0, by omega, rfl, Mod.refl _ _, fun x hx => by simp at hx⟩
  case round =>
    obtain ⟨k, hk, rfl, hm, hall⟩ := hrel
    obtain ⟨wo, hwo⟩ : ∃ x : World, x = wr := ⟨_, rfl⟩
    subst hwo
    have HM := Lib.hid hm
    have HA := Lib.hid hall
    clear hm hall
    by_cases hlt : k < n
    · have z0 : decide ((k : Int) < (n : Int)) = true := by simp; omega
      have hkl : k < xs.length := by rw [HN.out]; exact hlt
      obtain ⟨eb, eo, hpl, e0⟩ := rd1 (hr.keep HM.out (fun _ _ e => e)) k hkl
      have hix := fun wx => run_indexS (P := Try.prog) wx 22 3 iI 1 Try.underlying22 hiI hsI a n c k hlt (hr.some_ (by omega))
      rw [hpl] at hix
      obtain ⟨x, hx⟩ : ∃ x, xs[k] = x := ⟨_, rfl⟩
      rw [hx] at e0
      have HX := Lib.hid hx
      clear hx hpl
      obtain ⟨b, hpb⟩ : ∃ b, p x = b := ⟨_, rfl⟩
      have HP := Lib.hid hpb
      clear hpb
      go_wp2_with fail
      refine (HF.out _ x (HM.out.mono (fun _ _ e => e.elim))).mono ?_
      rintro e w2 ⟨rfl, hm2⟩
      rw [HP.out]
      have HM2 := Lib.hid (HM.out.of2 hm2)
      clear hm2 hix e0
      cases b with
      | true =>
        go_wp2_with fail
        go_ret
        exact ⟨⟨k, rfl, .inr ⟨k, rfl, hkl, by rw [HX.out]; exact HP.out, HA.out⟩⟩, HM2.out⟩
      | false =>
        go_wp2_with fail
        go_roundw
        case rel =>
          refine ⟨k + 1, hlt, by go_num, HM2.out, fun y hy => ?_⟩
          rw [List.take_succ_eq_append_getElem hkl] at hy
          rcases List.mem_append.1 hy with h | h
          · exact HA.out y h
          · rw [List.mem_singleton] at h; rw [h, HX.out]; exact HP.out
        case measure => simp [intOf]; omega
    · have z0 : decide ((k : Int) < (n : Int)) = false := by simp; omega
      go_wp2_with fail
      go_ret
      exact ⟨⟨-1, rfl, .inl ⟨rfl, fun x hx => HA.out x (by rw [List.take_of_length_le (by have := HN.out; omega)]; exact hx)⟩⟩, HM.out⟩

set_option maxHeartbeats 8000000 in
theorem deleteP_any (b2 b3 : Nat) (p : Int → Bool) (w : World) (base : Nat) (a : Option Addr) (n c : Nat) (xs : List Int) (hn : xs.length = n) (ho : w.ownsRow base 3 1 (.slice a n c) n (xs.map (Value.int .i64))) (hb : n ≤ 1000000)
    (hf : ∀ W x, Mod (fun k => (Value.slice a n c).ownBlock = some k) w W → Calls Try.prog 72 #[.int .i64 x, .pointer (some ⟨b2, 0, none⟩), .pointer (some ⟨b3, 0, none⟩)] W fun e w' => e = .returned (.bool (p x)) ∧ Mod (fun _ => False) W w') :
    Calls Try.prog 67 #[.slice a n c, .func (.func 72) #[] #[.pointer (some ⟨b2, 0, none⟩), .pointer (some ⟨b3, 0, none⟩)]] w fun e w' => (∃ v, e = .returned v ∧ IRow (kept p xs) v w' ∧ v.ownBlock = (Value.slice a n c).ownBlock) ∧ Mod (fun k => (Value.slice a n c).ownBlock = some k) w w' := by
  obtain ⟨iI, hiI, hzI, hsI, hbI⟩ := info_parts GR.infoI
  have HF := Lib.hid hf
  have HN := Lib.hid hn
  clear hf hn
  go_enter Try.func67, Try.ntmps67
  go_wp2_with fail
  refine (indexP_any b2 b3 p _ w a n c xs HN.out (Rd.ofOwn ho) hb HF.out).mono ?_
  rintro e w1 ⟨⟨r, rfl, hr⟩, hm⟩
  have HM := Lib.hid hm
  clear hm
  rcases hr with ⟨rfl, hall⟩ | ⟨k, rfl, hk, hpk, hall⟩
  · have HA := Lib.hid hall
    clear hall
    go_wp2_with fail
    go_ret
    refine ⟨⟨.slice a n c, rfl, ⟨a, c, ?_, ?_⟩, rfl⟩, HM.out.mono (fun _ _ e => e.elim)⟩
    · rw [kept_none HA.out, HN.out]
    · rw [kept_none HA.out, HN.out]; exact (Rd.ofOwn ho).keep HM.out (fun _ _ e => e)
  · have hkn : k < n := by rw [← HN.out]; exact hk
    obtain ⟨ob, c', hab, hlo, hlt⟩ := own_block ho (by omega)
    cases hab
    have hI0 := delI_start hk hpk hall
    have HI0 := Lib.hid hI0
    have hO := Lib.hid (Own.keep ho HM.out (fun _ _ e => e))
    clear hall hpk hI0
    have z0 : ((k : Int) == -1) = false := by rw [beq_eq_false_iff_ne]; omega
    have HOB : Hid (∀ k, (Value.slice (some ⟨ob, 0, none⟩) n c).ownBlock = some k ↔ k = ob) := Lib.hid fun k => by simp [Value.ownBlock]; omega
    go_wp2_with fail
    go_loopw [5, 6] (fun i j wr => ∃ I J : Nat, i = .int .i64 I ∧ j = .int .i64 J ∧ ∃ ys, DelI p xs ys I J ∧ World.ownsRow wr base 3 1 (.slice (some ⟨ob, 0, none⟩) n c) n (ys.map (Value.int .i64)) ∧ Mod (fun k => k = ob) w wr) (fun _ j _ => n - (intOf j).toNat)
    case atStart => exact ⟨k, k + 1, rfl, by go_num, xs, HI0.out, hO.out, HM.out.mono (fun _ _ e => e.elim)⟩
    case round =>
      obtain ⟨I, J, rfl, rfl, ys, hI, hOw, hm⟩ := hrel
      obtain ⟨wo, hwo⟩ : ∃ x : World, x = wr := ⟨_, rfl⟩
      subst hwo
      have hJ : J ≤ n := by have := hI.2.1; have := HN.out; omega
      have hIJ : I < J := hI.2.2.1
      have hyl : ys.length = n := by rw [hI.1]; exact HN.out
      have HI := Lib.hid hI
      have HO := Lib.hid hOw
      have HMW := Lib.hid hm
      have HYL := Lib.hid hyl
      clear hI hOw hm hyl hO HI0
      by_cases hlt2 : J < n
      · have z1 : decide ((J : Int) < (n : Int)) = true := by simp; omega
        obtain ⟨hy, he⟩ := delI_at HI.out (by rw [HN.out]; exact hlt2)
        obtain ⟨eb, eo, hpl, e0⟩ := rd1 (Rd.ofOwn HO.out) J hy
        have hix := fun wx => run_indexS (P := Try.prog) wx 22 3 iI 1 Try.underlying22 hiI hsI (some ⟨ob, 0, none⟩) n c J hlt2 (by simp)
        rw [hpl] at hix
        rw [he] at e0
        obtain ⟨x, hx⟩ : ∃ x, xs[J]'(by rw [HN.out]; exact hlt2) = x := ⟨_, rfl⟩
        rw [hx] at e0
        have HX := Lib.hid hx
        clear hx hpl he hy
        obtain ⟨b, hpb⟩ : ∃ b, p x = b := ⟨_, rfl⟩
        have HP := Lib.hid hpb
        clear hpb
        go_wp2_with fail
        refine (HF.out _ x (HMW.out.mono (fun i _ e => (HOB.out i).2 e))).mono ?_
        rintro e w2 ⟨rfl, hm2⟩
        rw [HP.out]
        have HM2 : Hid (Mod (fun k => k = ob) w w2) := Lib.hid (HMW.out.trans hm2 (fun _ _ e => e) (fun _ _ e => e.elim))
        have HO2 := Lib.hid (Own.keep HO.out hm2 (fun _ _ e => e))
        clear hm2 hix e0
        cases b with
        | true =>
          go_wp2_with fail
          go_roundw
          case rel => exact ⟨I, J + 1, rfl, by go_num, ys, delI_skip HI.out (by rw [HN.out]; exact hlt2) (by rw [HX.out]; exact HP.out), HO2.out, HM2.out⟩
          case measure => simp [intOf]; omega
        | false =>
          have hIn : I < n := by omega
          have hix2 : ∀ wx, (Instr.indexAt 22 (.slice (some ⟨ob, 0, none⟩) n c) (.int .i64 (I : Int))).run Try.prog wx = .ok (.pointer (some ⟨ob, I, none⟩)) wx := fun wx => by
            have h := run_indexS (P := Try.prog) wx 22 3 iI 1 Try.underlying22 hiI hsI (some ⟨ob, 0, none⟩) n c I hIn (by simp)
            have hp := (show elemA (some ⟨ob, 0, none⟩) I 1 = ⟨ob, I, none⟩ by unfold elemA; rw [Option.getD_some, Addr.add_lit, Nat.zero_add, Nat.mul_one])
            rw [hp] at h; exact h
          have hroom := Room.ofOwn HO2.out I (by omega)
          obtain ⟨v0, q0⟩ := hroom.cell
          have q1 := hroom.free
          have hst := (HO2.out.stored I (.int .i64 x)).1
          rw [← List.map_set] at hst
          have HST := Lib.hid hst
          clear hst hroom
          go_wp2_with fail
          go_roundw
          case rel =>
            refine ⟨I + 1, J + 1, by go_num, by go_num, ys.set I x, ?_, HST.out, HM2.out.thenSet _ _ (fun _ => rfl)⟩
            have h := delI_keep HI.out (by rw [HN.out]; exact hlt2) (by rw [HX.out]; exact HP.out)
            rw [HX.out] at h; exact h
          case measure => simp [intOf]; omega
      · obtain rfl : J = n := by omega
        have z1 : decide ((J : Int) < (J : Int)) = false := by simp
        have hE := delI_end (show DelI p xs ys I xs.length by rw [HN.out]; exact HI.out)
        obtain ⟨h1, h2, h3⟩ := hE
        have h4 : I < J := by rw [← HN.out]; exact h3
        have H1 := Lib.hid h1
        have H2 := Lib.hid h2
        have hcap : J ≤ c := by obtain ⟨_, h | ⟨g, cap, cur, he, _, _, hc, _⟩⟩ := HO.out; exact absurd h.1 (by simp); cases he; exact hc
        have hsl := fun wx => run_dropS (P := Try.prog) wx 22 3 iI 1 Try.underlying22 hiI hsI (some ⟨ob, 0, none⟩) J c I (by omega)
        have hdr : dropA (some ⟨ob, 0, none⟩) c I 1 = some ⟨ob, I, none⟩ := by unfold dropA; rw [if_neg (by omega)]; show some (Addr.add _ _) = _; rw [Addr.add_lit, Nat.zero_add, Nat.mul_one]
        rw [hdr] at hsl
        have hzv : ∀ w : World, (zeroValue 3).run Try.prog w = .ok (.int .i64 0) w := fun w => by kernel_rfl
        have hcl := fun ty => Lib.run_clear_slice (P := Try.prog) wo 22 3 ty (.int .i64 0) Try.underlying22 hzv rfl rfl ob I (J - I) (c - I) (by omega) (fun j hj => by obtain ⟨v, hv⟩ := (Room.ofOwn HO.out (I + j) (by omega)).cell; rw [hv]; rfl) (fun j hj => (Room.ofOwn HO.out (I + j) (by omega)).free)
        have htk := fun wx => run_takeS (P := Try.prog) wx 22 3 iI Try.underlying22 hiI (some ⟨ob, 0, none⟩) J c I (by omega)
        clear h1 h2 h3 hdr hzv
        go_wp2_with fail
        go_ret
        refine ⟨⟨.slice (some ⟨ob, 0, none⟩) I c, rfl, ⟨some ⟨ob, 0, none⟩, c, by rw [← H2.out], ?_⟩, rfl⟩, (HMW.out.trans (Mod.setCells _ _ _) (fun i _ e => (HOB.out i).2 e) (fun i _ e => (HOB.out i).2 e))⟩
        rw [← H2.out, ← H1.out]
        exact rd_cleared HO.out (by omega)
end Go.Proofs.Ytbjdjafkpldbnaa
