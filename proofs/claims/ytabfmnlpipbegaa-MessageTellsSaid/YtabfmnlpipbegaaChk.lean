/- Contracts of package check and of the document's own answer: what each comes to. -/
import Derived.Test.YtabfmnlpipbegaaRows
import Derived.Test.YtabfmnlpipbegaaCrcM
namespace Go.Proofs.Ytabfmnlpipbegaa
open Go.RowKit Mile
set_option maxRecDepth 100000

theorem Chk.info5 : (Try.prog.info? 5).map (fun i => (i.zero, i.size, i.bytes)) = some (some (.int .u8 0), 1, 1) := by kernel_rfl
theorem Chk.info25 : (Try.prog.info? 27).map (fun i => (i.zero, i.size, i.bytes)) = some (some (.slice none 0 0), 1, 24) := by kernel_rfl

theorem divide_any (c : B32) (w : World) : Calls Try.prog 56 #[.int .u32 (c.toNat : Int)] w fun e w' => e = .returned (.int .u32 ((crounds 8 c).toNat : Int)) ∧ w = w' := by
  go_enter Try.func56, Try.ntmps56
  go_wp2
  go_loop [0, 3] (fun s i => ∃ (k : Nat) (d : B32), k ≤ 8 ∧ i = .int .i64 k ∧ s = .int .u32 (d.toNat : Int) ∧ crounds (8 - k) d = crounds 8 c) (fun _ i => 8 - (intOf i).toNat)
  case atStart => exact ⟨0, c, by omega, rfl, rfl, rfl⟩
  case round =>
    obtain ⟨k, d, hk, rfl, rfl, hd⟩ := hrel
    have HD := Lib.hid hd
    clear hd
    by_cases hlt : k < 8
    · go_wp2
      go_round
      case rel => exact ⟨k + 1, cstep d, hlt, by go_num, by rw [step_product], by rw [← HD.out, show 8 - k = (8 - (k + 1)) + 1 by omega]; rfl⟩
      case measure => simp [intOf]; omega
    · obtain rfl : k = 8 := by omega
      go_wp2
      go_ret
      exact ⟨by show Ending.returned (.int .u32 (d.toNat : Int)) = _; rw [← HD.out]; rfl, rfl⟩

theorem crun_take (c : B32) (bs : List Int) (k : Nat) (h : k < bs.length) : crun c (bs.take (k + 1)) = cbyte (crun c (bs.take k)) bs[k] := by
  unfold crun
  rw [List.take_succ_eq_append_getElem h, List.foldl_append]; rfl

/-- Parts that read as rows of bytes. -/
def Parts (w : World) (v : Value) (ps : List (Value × List Int)) : Prop :=
  Rd w 1 v ps.length (ps.map (·.1)) ∧ ∀ p ∈ ps, Rd w 1 p.1 p.2.length (p.2.map (Value.int .u8)) ∧ ∀ n ∈ p.2, 0 ≤ n ∧ n < 256

theorem rsum_any (a : Option Addr) (n c : Nat) (bs : List Int) (w : World) (h : Rd w 1 (.slice a n c) n (bs.map (Value.int .u8))) (hb : ∀ x ∈ bs, 0 ≤ x ∧ x < 256) :
    Calls Try.prog 50 #[.slice a n c] w fun e w' => e = .returned (.int .u32 ((csum bs).toNat : Int)) ∧ w = w' := by
  obtain ⟨i0, hi, hz0, hz1, hz2⟩ := info_parts Chk.info5
  have hl : bs.length = n := by have := h.1; simpa using this
  have hm : n ≤ maxLen := by obtain ⟨_, a', c', he, h1, h2, _⟩ := h; cases he; omega
  have HL := Lib.hid hl
  clear hl
  unfold maxLen at hm
  go_enter Try.func50, Try.ntmps50
  go_wp2
  go_loop [3, 4, 5] (fun s i j => ∃ (k : Nat), k ≤ n ∧ i = .int .i64 k ∧ s = .int .u32 ((crun (~~~0#32) (bs.take k)).toNat : Int)) (fun _ i _ => n - (intOf i).toNat)
  case atStart => exact ⟨0, by omega, rfl, by rw [ones_u32]; rfl⟩
  case round =>
    obtain ⟨k, hk, rfl, rfl⟩ := hrel
    by_cases hlt : k < n
    · have hkl : k < bs.length := by rw [HL.out]; exact hlt
      have hst := Lib.hid (crun_take (~~~0#32) bs k hkl)
      have hb1 := hb _ (List.getElem_mem hkl)
      have hix := fun wx => run_indexS (P := Try.prog) wx 27 5 i0 1 Try.underlying27 hi hz1 a n c k hlt (h.some_ (by omega))
      have hcell : w.cell? (elemA a k 1) = some (.int .u8 bs[k]) := h.elem (by simp [hkl])
      obtain ⟨S, hS⟩ : ∃ S, crun (~~~0#32) (bs.take k) = S := ⟨_, rfl⟩
      rw [hS] at hst
      rw [hS]
      clear hS
      obtain ⟨b, hbb⟩ : ∃ b, bs[k] = b := ⟨_, rfl⟩
      rw [hbb] at hst hcell hb1
      clear hbb
      go_wp2
      go_loop [3, 5] (fun s i => ∃ (m : Nat) (d : B32), m ≤ 8 ∧ i = .int .i64 m ∧ s = .int .u32 (d.toNat : Int) ∧ crounds (8 - m) d = cbyte S b) (fun _ i => 8 - (intOf i).toNat)
      case atStart => exact ⟨0, S ^^^ BitVec.ofInt 32 b, by omega, rfl, by rw [xor_u32_of S b hb1.1 hb1.2], rfl⟩
      case round =>
        obtain ⟨m, d, hm8, rfl, rfl, hd⟩ := hrel
        have HD := Lib.hid hd
        clear hd
        by_cases hlt8 : m < 8
        · have hnext : crounds (8 - (m + 1)) (cstep d) = cbyte S b := by rw [← HD.out, show 8 - m = (8 - (m + 1)) + 1 by omega]; rfl
          have HN := Lib.hid hnext
          clear hnext
          cases hbit : d.getLsbD 0 with
          | true =>
            have e1 : (bits BinOp.and IntKind.u32 (d.toNat : Int) 1 == 1) = true := by rw [and_u32, hbit]; rfl
            have e2 := Lib.hid (step_one d hbit)
            clear hbit
            go_wp2
            go_round
            case rel => exact ⟨m + 1, cstep d, hlt8, by go_num, by rw [e2.out], HN.out⟩
            case measure => simp [intOf]; omega
          | false =>
            have e1 : (bits BinOp.and IntKind.u32 (d.toNat : Int) 1 == 1) = false := by rw [and_u32, hbit]; rfl
            have e2 := Lib.hid (step_none d hbit)
            clear hbit
            go_wp2
            go_round
            case rel => exact ⟨m + 1, cstep d, hlt8, by go_num, by rw [e2.out], HN.out⟩
            case measure => simp [intOf]; omega
        · obtain rfl : m = 8 := by omega
          go_wp2
          go_round
          case rel => exact ⟨k + 1, hlt, by go_num, by rw [hst.out, ← HD.out]; rfl⟩
          case measure => simp [intOf]; omega
    · obtain rfl : k = n := by omega
      have e : bs.take k = bs := List.take_of_length_le (by rw [HL.out]; exact Nat.le_refl _)
      rw [e]
      go_wp2
      go_ret
      exact ⟨by show Ending.returned (.int .u32 _) = _; rw [not_u32]; rfl, rfl⟩
/-- All parts, one behind the other. -/
def flat (ps : List (Value × List Int)) : List Int := ps.flatMap (·.2)

theorem flat_take (ps : List (Value × List Int)) (k : Nat) (h : k < ps.length) : flat (ps.take (k + 1)) = flat (ps.take k) ++ ps[k].2 := by
  unfold flat
  rw [List.take_succ_eq_append_getElem h, List.flatMap_append]; simp

theorem sum_any (a : Option Addr) (n c : Nat) (ps : List (Value × List Int)) (w : World) (hn : ps.length = n) (h : Parts w (.slice a n c) ps) :
    Calls Try.prog 49 #[.slice a n c] w fun e w' => e = .returned (.int .u32 ((csum (flat ps)).toNat : Int)) ∧ w = w' := by
  obtain ⟨i0, hi, hz0, hz1, hz2⟩ := info_parts Chk.info5
  obtain ⟨i25, hi25, hz250, hz251, hz252⟩ := info_parts Chk.info25
  obtain ⟨h, hp⟩ := h
  rw [hn] at h
  have hm : n ≤ maxLen := by obtain ⟨_, a', c', he, h1, h2, _⟩ := h; cases he; omega
  have HL := Lib.hid hn
  clear hn
  unfold maxLen at hm
  go_enter Try.func49, Try.ntmps49
  go_wp2
  go_loop [3, 10] (fun s i => ∃ (k : Nat), k ≤ n ∧ i = .int .i64 k ∧ s = .int .u32 ((crun (~~~0#32) (flat (ps.take k))).toNat : Int)) (fun _ i => n - (intOf i).toNat)
  case atStart => exact ⟨0, by omega, rfl, by rw [ones_u32]; rfl⟩
  case round =>
    obtain ⟨k, hk, rfl, rfl⟩ := hrel
    by_cases hlt : k < n
    · have hkl : k < ps.length := by rw [HL.out]; exact hlt
      have hst := Lib.hid (flat_take ps k hkl)
      obtain ⟨hpr, hpb⟩ := hp _ (List.getElem_mem hkl)
      have hix := fun wx => run_indexS (P := Try.prog) wx 94 27 i25 1 Try.underlying94 hi25 hz251 a n c k hlt (h.some_ (by omega))
      have hcell : w.cell? (elemA a k 1) = some ps[k].1 := h.elem (by simp [hkl])
      obtain ⟨S, hS⟩ : ∃ S, crun (~~~0#32) (flat (ps.take k)) = S := ⟨_, rfl⟩
      have hS2 : crun (~~~0#32) (flat (ps.take (k + 1))) = crun S ps[k].2 := by rw [hst.out, crun_append, hS]
      rw [hS]
      clear hS hst
      obtain ⟨pv, hpv⟩ : ∃ pv, ps[k].1 = pv := ⟨_, rfl⟩
      obtain ⟨bs, hbs⟩ : ∃ bs, ps[k].2 = bs := ⟨_, rfl⟩
      rw [hpv] at hcell hpr
      rw [hbs] at hpr hpb hS2
      have HS2 := Lib.hid hS2
      clear hpv hbs hS2
      obtain ⟨a2, c2, rfl⟩ : ∃ a2 c2, pv = .slice a2 bs.length c2 := by obtain ⟨_, a', c', he, _⟩ := hpr; exact ⟨a', c', he⟩
      have hm2 : bs.length ≤ 9223372036854775807 := by obtain ⟨_, a', c', he, h1, h2, _⟩ := hpr; cases he; unfold maxLen at h2; omega
      go_wp2
      go_loop [3, 16] (fun s i => ∃ (m : Nat), m ≤ bs.length ∧ i = .int .i64 m ∧ s = .int .u32 ((crun S (bs.take m)).toNat : Int)) (fun _ i => bs.length - (intOf i).toNat)
      case atStart => exact ⟨0, by omega, rfl, rfl⟩
      case round =>
        obtain ⟨m, hmm, rfl, rfl⟩ := hrel
        by_cases hlm : m < bs.length
        · have hst := Lib.hid (crun_take S bs m hlm)
          have hb1 := hpb _ (List.getElem_mem hlm)
          have hix2 := fun wx => run_indexS (P := Try.prog) wx 27 5 i0 1 Try.underlying27 hi hz1 a2 bs.length c2 m hlm (hpr.some_ (by omega))
          have hcell2 : w.cell? (elemA a2 m 1) = some (.int .u8 bs[m]) := hpr.elem (by simp [hlm])
          obtain ⟨S2, hS2⟩ : ∃ S2, crun S (bs.take m) = S2 := ⟨_, rfl⟩
          rw [hS2] at hst
          rw [hS2]
          clear hS2
          obtain ⟨b, hbb⟩ : ∃ b, bs[m] = b := ⟨_, rfl⟩
          rw [hbb] at hst hcell2 hb1
          clear hbb
          have hx := Lib.hid (xor_u32_of S2 b hb1.1 hb1.2)
          go_wp2_with fail
          rw [hx.out]
          refine (divide_any _ _).mono ?_
          rintro e w' ⟨rfl, rfl⟩
          go_wp2
          go_round
          case rel => exact ⟨m + 1, hlm, by go_num, by rw [hst.out]; rfl⟩
          case measure => simp [intOf]; omega
        · obtain rfl : m = bs.length := by omega
          go_wp2
          go_round
          case rel => exact ⟨k + 1, hlt, by go_num, by rw [HS2.out, List.take_length]⟩
          case measure => simp [intOf]; omega
    · obtain rfl : k = n := by omega
      have e : ps.take k = ps := List.take_of_length_le (by rw [HL.out]; exact Nat.le_refl _)
      rw [e]
      go_wp2
      go_ret
      exact ⟨by show Ending.returned (.int .u32 _) = _; rw [not_u32]; rfl, rfl⟩
end Go.Proofs.Ytabfmnlpipbegaa
