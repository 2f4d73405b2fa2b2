/- The law HeapLowers, walked. -/
import Derived.Test.YtheahhcbmknaoaaSorts4
import Derived.Test.YtheahhcbmknaoaaRound
namespace Mile
open Go Go.RowKit

theorem dropS_length {id c : Int} : ∀ {S : List It}, Ids S → keyS S id = some c → (dropS S id).length + 1 = S.length
  | [], _, h => by simp [keyS] at h
  | y :: r, hi, h => by
    unfold Ids at hi
    rw [List.map_cons, List.pairwise_cons] at hi
    by_cases e : y.1 = id
    · have hr : dropS r id = r := List.filter_eq_self.2 fun x hx => by
        have := hi.1 x.1 (List.mem_map_of_mem hx)
        rw [e] at this
        simpa using Ne.symm this
      have : dropS (y :: r) id = dropS r id := List.filter_cons_of_neg (by simp [e])
      rw [this, hr]; rfl
    · have h1 : dropS (y :: r) id = y :: dropS r id := List.filter_cons_of_pos (by simpa using e)
      have hk : keyS r id = some c := by
        unfold keyS at h ⊢
        rw [List.find?_cons, show (y.1 == id) = false by simpa using e] at h
        exact h
      rw [h1, List.length_cons, List.length_cons, dropS_length hi.2 hk]
theorem insS_length (S : List It) (x : It) : (insS S x).length = S.length + 1 := by rw [(insS_perm S x).length_eq]; rfl

/-- How many there are behind a push. -/
theorem pushS_length {S : List It} (hi : Ids S) (id key : Int) : (pushS S id key).2.length = if (keyS S id).isSome then S.length else S.length + 1 := by
  unfold pushS
  cases hk : keyS S id with
  | none => simp only [Option.isSome_none, Bool.false_eq_true, if_false, insS_length]
  | some c =>
    by_cases hle : c ≤ key
    · simp only [hle, if_true, Option.isSome_some]
    · simp only [hle, if_false, Option.isSome_some, if_true, insS_length]
      exact dropS_length hi hk
theorem pushS_same {S : List It} {id key : Int} (h : (pushS S id key).1 = false) : (pushS S id key).2 = S := by
  unfold pushS at h ⊢
  cases hk : keyS S id with
  | none => rw [hk] at h; simp at h
  | some c =>
    rw [hk] at h
    by_cases hle : c ≤ key
    · simp only [hle, if_true]
    · simp only [hle, if_false] at h; simp at h

theorem low_step {S : List It} (hi : Ids S) (id x bv : Int) (was : Nat) (h : (keyS S id = none ∧ x = bv ∧ S.length = was) ∨ (keyS S id = some bv ∧ S.length = was + 1)) :
    keyS (pushS S id x).2 id = some (if x < bv then x else bv) ∧ (pushS S id x).2.length = was + 1 := by
  rw [keyS_push hi, if_pos rfl, pushS_fst, pushS_length hi]
  rcases h with ⟨h1, rfl, h3⟩ | ⟨h1, h3⟩
  · rw [h1]; simp; exact h3
  · rw [h1]
    refine ⟨?_, by simpa using h3⟩
    by_cases hx : x < bv
    · simp [hx]
    · simp [hx]
end Mile
namespace Go.Proofs.Ytheahhcbmknaoaa
open Go.RowKit Mile

theorem LW.info3 : (Try.prog.info? 3).map (fun i => (i.zero, i.size, i.bytes)) = some (some (.int .i64 0), 1, 8) := by kernel_rfl
theorem opens_ints4 : Opens Try.prog 47 (encSlice (encInt .i64)) := opens_slice Try.underlying47 (by kernel_rfl) (opens_int Try.underlying3) (by decide)

/-- The first loop: as many as were counted, at most; the number itself is not there. -/
def Low1 (w W : World) (p : Nat) (id : Int) (c0 j : Nat) : Prop := ∃ S F, HeapSt w W p S F ∧ S.length ≤ c0 ∧ c0 ≤ j ∧ keyS S id = none
/-- The second loop: the least of the keys so far. -/
def Low2 (w W : World) (p : Nat) (id : Int) (was j : Nat) (k0 bv : Int) : Prop := ∃ S F, HeapSt w W p S F ∧ ((j = 0 ∧ keyS S id = none ∧ bv = k0 ∧ S.length = was) ∨ (0 < j ∧ keyS S id = some bv ∧ S.length = was + 1))

set_option maxHeartbeats 4000000 in
set_option maxRecDepth 100000 in
theorem lowers_walk (w : World) (id : Int) (hid : (Lit.int .i64 id).wf = true)
    (a : Option Addr) (n c : Nat) (ks : List Int) (hn : ks.length = n) (hr : Rd w 1 (.slice a n c) n (ks.map (Value.int .i64))) (hks : ∀ x ∈ ks, (Lit.int .i64 x).wf = true)
    (b : Option Addr) (m d : Nat) (os : List Int) (hm : os.length = m) (hro : Rd w 1 (.slice b m d) m (os.map (Value.int .i64))) (hos : ∀ x ∈ os, (Lit.int .i64 x).wf = true) :
    Calls Try.prog 5 #[.int .i64 id, .slice a n c, .slice b m d] w fun e w' => e = .returned (.bool true) ∧ Mod (fun _ => False) w w' := by
  obtain ⟨i3, hi3, hz30, hz31, hz32⟩ := info_parts LW.info3
  have HN := Lib.hid hn
  have HM := Lib.hid hm
  clear hn hm
  by_cases h1 : n = 0
  · subst h1
    go_enter Try.func5, Try.ntmps5
    go_wp2_with fail
    refine (awake_any _).mono ?_
    rintro e w9 ⟨rfl, hM9⟩
    go_wp2
    go_ret
    exact ⟨rfl, hM9⟩
  have hz : ((n : Int) == 0) = false := by rw [beq_eq_false_iff_ne]; omega
  by_cases h2 : 30 < n
  · go_enter Try.func5, Try.ntmps5
    go_wp2_with fail
    refine (awake_any _).mono ?_
    rintro e w9 ⟨rfl, hM9⟩
    go_wp2
    go_ret
    exact ⟨rfl, hM9⟩
  by_cases h3 : 30 < m
  · go_enter Try.func5, Try.ntmps5
    go_wp2_with fail
    refine (awake_any _).mono ?_
    rintro e w9 ⟨rfl, hM9⟩
    go_wp2
    go_ret
    exact ⟨rfl, hM9⟩
  have q1 : n ≤ 30 := by omega
  have q2 : m ≤ 30 := by omega
  clear h2 h3
  go_enter Try.func5, Try.ntmps5
  go_wp2_with fail
  have hT0 := HeapSt.new (Mod.refl (fun _ => False) w) w.heap.size rfl
  obtain ⟨p, hp⟩ : ∃ p, w.heap.size = p := ⟨_, rfl⟩
  rw [hp] at hT0 ⊢
  have HPP := Lib.hid hp
  clear hp
  go_loopw [8, 9, 10] (fun cn i _ wr => ∃ (c0 j : Nat), j ≤ m ∧ cn = .int .i64 c0 ∧ i = .int .i64 j ∧ Low1 w wr p id c0 j) (fun _ i _ _ => m - (intOf i).toNat)
  case atStart => exact ⟨0, 0, by omega, rfl, rfl, [], _, hT0, by simp, by omega, rfl⟩
  case round =>
    clear hT0
    obtain ⟨c0, j, hj, rfl, rfl, S, F, hT, hSl, hc0, hnone⟩ := hrel
    by_cases hlt : j < m
    · have hjl : j < os.length := by rw [HM.out]; exact hlt
      have hix := fun wx => run_indexS (P := Try.prog) wx 47 3 i3 1 Try.underlying47 hi3 hz31 b m d j hlt (hro.some_ (by omega))
      have hcell : wr.cell? (elemA b j 1) = some (.int .i64 os[j]) := (hro.keepA hT.mod (fun _ _ e => e.elim)).elem (by simp [hjl])
      have hxo := hos _ (List.getElem_mem hjl)
      obtain ⟨x, hx⟩ : ∃ x, os[j] = x := ⟨_, rfl⟩
      rw [hx] at hcell hxo
      clear hx
      have hm1 := Int.emod_nonneg x (show (50 : Int) ≠ 0 by decide)
      have hm2 := Int.emod_lt_of_pos x (show (0 : Int) < 50 by decide)
      obtain ⟨o, ho⟩ : ∃ o, x % 50 = o := ⟨_, rfl⟩
      have HO := Lib.hid ho
      rw [ho] at hm1 hm2
      have hwo : (Lit.int .i64 o).wf = true := (i64_wf _).2 (by omega)
      clear ho
      by_cases he : o = id
      · have d1 : (o == id) = true := by simpa using he
        go_wp2_with fail
        refine (round_any _ _ _ (by omega) (by omega)).mono ?_
        rintro e w' ⟨rfl, rfl⟩
        rw [HO.out]
        go_wp2_with fail
        go_roundw
        case rel => exact ⟨c0, j + 1, hlt, rfl, by go_num, S, F, hT, hSl, by omega, hnone⟩
        case measure => simp [intOf]; omega
      · have d1 : (o == id) = false := by rw [beq_eq_false_iff_ne]; exact he
        have hkp := keyS_push hT.obj.ids o x id
        rw [if_neg (fun e => he e.symm), hnone] at hkp
        have hpl := pushS_len S o x
        have hps := @pushS_same S o x
        have hSl9 : S.length ≤ 900000000 := by omega
        obtain ⟨pr, hpr⟩ : ∃ pr, pushS S o x = pr := ⟨_, rfl⟩
        rw [hpr] at hkp hpl hps
        obtain ⟨pb, pS⟩ := pr
        simp only at hkp hpl hps
        have HPR := Lib.hid hpr
        clear hpr
        cases pb with
        | true =>
          clear hps
          go_wp2_with fail
          refine (round_any _ _ _ (by omega) (by omega)).mono ?_
          rintro e w' ⟨rfl, rfl⟩
          rw [HO.out]
          go_wp2_with fail
          refine (hpush_any p _ S F hT.obj hSl9 o x hwo hxo).mono ?_
          rintro e w1 ⟨rfl, F1, hO1, hA1⟩
          rw [HPR.out] at hO1 ⊢
          have hH1 := hT.aft hO1 hA1
          go_wp2_with fail
          go_roundw
          case rel => exact ⟨c0 + 1, j + 1, hlt, by go_num, by go_num, pS, F1, hH1, by omega, by omega, hkp⟩
          case measure => simp [intOf]; omega
        | false =>
          have hps := hps rfl
          subst hps
          go_wp2_with fail
          refine (round_any _ _ _ (by omega) (by omega)).mono ?_
          rintro e w' ⟨rfl, rfl⟩
          rw [HO.out]
          go_wp2_with fail
          refine (hpush_any p _ pS F hT.obj hSl9 o x hwo hxo).mono ?_
          rintro e w1 ⟨rfl, F1, hO1, hA1⟩
          rw [HPR.out] at hO1 ⊢
          have hH1 := hT.aft hO1 hA1
          go_wp2_with fail
          go_roundw
          case rel => exact ⟨c0, j + 1, hlt, rfl, by go_num, pS, F1, hH1, by omega, by omega, hkp⟩
          case measure => simp [intOf]; omega
    · obtain rfl : j = m := by omega
      have h0l : 0 < ks.length := by rw [HN.out]; omega
      have hix0 : ∀ wx, (Instr.indexAt 47 (.slice a n c) (.int .i64 0)).run Try.prog wx = .ok (.pointer (some (elemA a 0 1))) wx := fun wx => run_indexS (P := Try.prog) wx 47 3 i3 1 Try.underlying47 hi3 hz31 a n c 0 (by omega) (hr.some_ (by omega))
      have hcell0 : wr.cell? (elemA a 0 1) = some (.int .i64 ks[0]) := (hr.keepA hT.mod (fun _ _ e => e.elim)).elem (by simp [h0l])
      obtain ⟨k0, hk0⟩ : ∃ k0, ks[0] = k0 := ⟨_, rfl⟩
      rw [hk0] at hcell0
      have HK0 := Lib.hid hk0
      clear hk0
      obtain ⟨was, hwas⟩ : ∃ was, S.length = was := ⟨_, rfl⟩
      rw [hwas] at hSl
      have HW := Lib.hid hwas
      clear hwas
      have hwas1 : was ≤ 30 := by omega
      have hge : decide ((was : Int) ≤ (c0 : Int)) = true := by simpa using hSl
      go_wp2_with fail
      refine (len_any p _ S F hT.obj).mono ?_
      rintro e w1 ⟨rfl, rfl⟩
      rw [HW.out]
      go_wp2_with fail
      go_loopw [12, 13, 14, 15] (fun be i _ _ wr => ∃ (k : Nat) (bv : Int), k ≤ n ∧ be = .int .i64 bv ∧ i = .int .i64 k ∧ Low2 w wr p id was k k0 bv) (fun _ i _ _ _ => n - (intOf i).toNat)
      case atStart => exact ⟨0, k0, by omega, rfl, rfl, S, F, hT, Or.inl ⟨rfl, hnone, rfl, HW.out⟩⟩
      case round =>
        clear hT hcell0 hnone hix0 HW
        obtain ⟨k, bv, hk, rfl, rfl, S, F, hT, hor⟩ := hrel
        by_cases hlt : k < n
        · have hjl : k < ks.length := by rw [HN.out]; exact hlt
          have hix := fun wx => run_indexS (P := Try.prog) wx 47 3 i3 1 Try.underlying47 hi3 hz31 a n c k hlt (hr.some_ (by omega))
          have HC : Hid (∀ W, Mod (fun _ => False) w W → W.cell? (elemA a k 1) = some (.int .i64 ks[k])) := Lib.hid fun W hm => (hr.keepA hm (fun _ _ e => e.elim)).elem (by simp [hjl])
          have hxo := hks _ (List.getElem_mem hjl)
          have hk0' : k = 0 → ks[k] = k0 := fun e => by subst e; exact HK0.out
          obtain ⟨x, hx⟩ : ∃ x, ks[k] = x := ⟨_, rfl⟩
          rw [hx] at HC hxo hk0'
          clear hx
          have hstep := low_step hT.obj.ids id x bv was (by
            rcases hor with ⟨h1, h2, h3, h4⟩ | ⟨h1, h2, h3⟩
            · exact Or.inl ⟨h2, by rw [hk0' h1, h3], h4⟩
            · exact Or.inr ⟨h2, h3⟩)
          have hSl9 : S.length ≤ 900000000 := by
            rcases hor with ⟨h1, h2, h3, h4⟩ | ⟨h1, h2, h3⟩ <;> omega
          clear hor hk0'
          obtain ⟨mb, hmb⟩ : ∃ mb, (if x < bv then x else bv) = mb := ⟨_, rfl⟩
          have hmin : ∀ wx, (Builtin.min_ #[3, 3] 3 #[.int .i64 bv, .int .i64 x]).run Try.prog wx = .ok (.int .i64 mb) wx := by
            intro wx
            rw [run_min_int2, hmb]
          rw [hmb] at hstep
          clear hmb
          have hcell := HC.out _ hT.mod
          obtain ⟨pr, hpr⟩ : ∃ pr, pushS S id x = pr := ⟨_, rfl⟩
          rw [hpr] at hstep
          obtain ⟨pb, pS⟩ := pr
          simp only at hstep
          have HPR := Lib.hid hpr
          clear hpr
          have HST := Lib.hid hstep
          clear hstep
          have d1 : (mb == mb) = true := by simp
          have Hmin := Lib.hid hmin
          clear hmin
          have hmin := Hmin.out
          go_wp2_with fail
          refine (hpush_any p _ S F hT.obj hSl9 id x hid hxo).mono ?_
          rintro e w1 ⟨rfl, F1, hO1, hA1⟩
          rw [HPR.out] at hO1 ⊢
          have hH1 := hT.aft hO1 hA1
          clear hcell
          have hcell := HC.out _ hH1.mod
          go_wp2_with fail
          refine (hkey_any p _ pS F1 hO1 id hid).mono ?_
          rintro e w2 ⟨rfl, rfl⟩
          rw [HST.out.1]
          simp only [Option.getD_some, Option.isSome_some]
          go_wp2_with fail
          refine (len_any p _ pS F1 hO1).mono ?_
          rintro e w3 ⟨rfl, rfl⟩
          rw [HST.out.2]
          have d2 : (((was + 1 : Nat) : Int) == (was : Int) + 1) = true := by simp
          go_wp2_with fail
          go_roundw
          case rel => exact ⟨k + 1, mb, hlt, rfl, by go_num, pS, F1, hH1, Or.inr ⟨by omega, HST.out.1, HST.out.2⟩⟩
          case measure => simp [intOf]; omega
        · obtain rfl : k = n := by omega
          go_wp2_with fail
          refine (awake_any _).mono ?_
          rintro e w9 ⟨rfl, hM9⟩
          go_wp2
          go_ret
          exact ⟨rfl, hT.mod.trans hM9 (fun _ _ e => e) (fun _ _ e => e)⟩

theorem lowers_all (w : World) (id : Int) (hid : (Lit.int .i64 id).wf = true) (a : Option Addr) (n c : Nat) (ks : List Int) (ok : (encSlice (encInt .i64)).ok w (.slice a n c, ks))
    (b : Option Addr) (m d : Nat) (os : List Int) (ok2 : (encSlice (encInt .i64)).ok w (.slice b m d, os)) :
    Calls Try.prog 5 #[.int .i64 id, .slice a n c, .slice b m d] w fun e w' => e = .returned (.bool true) ∧ Below w.heap.size w w' := by
  obtain ⟨hn, hr, hks⟩ := ok_ints ok
  obtain ⟨hm, hro, hos⟩ := ok_ints ok2
  exact (lowers_walk w id hid a n c ks hn hr hks b m d os hm hro hos).mono fun e w' h => ⟨h.1, h.2.below (Nat.le_refl _) (fun _ e => e.elim)⟩
end Go.Proofs.Ytheahhcbmknaoaa
