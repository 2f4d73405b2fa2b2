/- The law OctetsSpoilt, walked. -/
import Derived.Test.YtldnegadkadmkaaAwake1
import Derived.Test.YtldnegadkadmkaaBase2
namespace Go.Proofs.Ytldnegadkadmkaa
open Go.RowKit Mile

theorem round_any (k n : Int) (w : World) (h1 : 0 < n) (h2 : n ≤ 4611686018427387904) : Calls Try.prog 23 #[.int .i64 k, .int .i64 n] w fun e w' => e = .returned (.int .i64 (k % n)) ∧ w = w' := by
  have t1 : -n < k.tmod n := by have := Int.tmod_lt_of_pos (-k) h1; rw [Int.neg_tmod] at this; omega
  have t2 : k.tmod n < n := Int.tmod_lt_of_pos k h1
  have t3 : k % n = if k.tmod n < 0 then k.tmod n + n else k.tmod n := by
    rw [Int.tmod_eq_emod]
    have e1 := Int.emod_nonneg k (show n ≠ 0 by omega)
    have e2 := Int.emod_lt_of_pos k h1
    split <;> split <;> first | omega | (rw [Int.natAbs_of_nonneg (by omega)] at *; omega)
  have hn0 : (n == 0) = false := by simp; omega
  by_cases hz : k.tmod n < 0
  · rw [if_pos hz] at t3
    have T3 := Lib.hid t3
    clear t3
    go_enter Try.func23, Try.ntmps23
    go_wp2
    go_ret
    exact ⟨by rw [T3.out]; rfl, rfl⟩
  · rw [if_neg hz] at t3
    have T3 := Lib.hid t3
    clear t3
    go_enter Try.func23, Try.ntmps23
    go_wp2
    go_ret
    exact ⟨by rw [T3.out]; rfl, rfl⟩

theorem Oct.info3 : (Try.prog.info? 3).map (fun i => (i.zero, i.size, i.bytes)) = some (some (.int .i64 0), 1, 8) := by kernel_rfl

theorem After.mk {w w' : World} {F F' : Nat → Prop} (h : Mod F w w') (k : ∀ i, F' i → F i ∨ w.heap.size ≤ i) : After w w' F F' := ⟨h, k⟩
theorem Wr.alloc {w : World} {p : Nat} {s : Option (List Int)} {F : Nat → Prop} (h : Wr w p s F) (o : Obj) : Wr (w.alloc o) p s F := h.keep (Mod.alloc (fun _ => False) w o) (fun _ _ e => e)
theorem Wr.drew {w : World} {p : Nat} {s : Option (List Int)} {F : Nat → Prop} (h : Wr w p s F) : Wr w.drew p s F := h.keep (Mod.drew (fun _ => False) w) (fun _ _ e => e)

/-- The numbers that fit in 1 + r bytes are those below M. -/
structure IsM (r M : Int) : Prop where
  r0 : 0 ≤ r
  r1 : r < 7
  lo : 256 ≤ M
  hi : M ≤ 72057594037927936
  wrap : IntKind.i64.wrap (2 ^ (8 * (1 + r)).toNat) = M
  fits : ∀ n, Mile.fits (1 + r).toNat n = decide (0 ≤ n ∧ n < M)

theorem exM (r : Int) (r0 : 0 ≤ r) (r1 : r < 7) : ∃ M, IsM r M := by
  refine ⟨2 ^ (8 * (1 + r)).toNat, r0, r1, ?_, ?_, ?_, fun n => ?_⟩
  · have : r = 0 ∨ r = 1 ∨ r = 2 ∨ r = 3 ∨ r = 4 ∨ r = 5 ∨ r = 6 := by omega
    rcases this with rfl | rfl | rfl | rfl | rfl | rfl | rfl <;> decide
  · have : r = 0 ∨ r = 1 ∨ r = 2 ∨ r = 3 ∨ r = 4 ∨ r = 5 ∨ r = 6 := by omega
    rcases this with rfl | rfl | rfl | rfl | rfl | rfl | rfl <;> decide
  · have : r = 0 ∨ r = 1 ∨ r = 2 ∨ r = 3 ∨ r = 4 ∨ r = 5 ∨ r = 6 := by omega
    rcases this with rfl | rfl | rfl | rfl | rfl | rfl | rfl <;> decide
  · unfold Mile.fits
    rw [show 8 * (1 + r).toNat = (8 * (1 + r)).toNat by omega]

theorem IsM.ok {r M : Int} (h : IsM r M) : sizeOk (1 + r) = true := by
  have := h.r0; have := h.r1
  simp [sizeOk]; omega

theorem IsM.keeps {r M : Int} (h : IsM r M) (x : Int) (s : Option (List Int)) : (numsS (1 + r) [x % M] s).isNone = s.isNone ∧ ((numsS (1 + r) [x % M] s).getD []).length ≤ (s.getD []).length + 7 := by
  have hlo := h.lo
  have f : Mile.fits (1 + r).toNat (x % M) = true := by
    rw [h.fits]
    simp only [decide_eq_true_eq]
    exact ⟨Int.emod_nonneg x (by omega), Int.emod_lt_of_pos x (by omega)⟩
  have := h.r0; have := h.r1
  cases s with
  | none => simp [numsS]
  | some bs => simp [numsS, h.ok, numsL, f, digs_length]; omega

theorem IsM.spoils {r M : Int} (h : IsM r M) (s : Option (List Int)) (x : Int) (hx : x < 0 ∨ M ≤ x) : numsS (1 + r) [x] s = none := by
  have f : Mile.fits (1 + r).toNat x = false := by
    rw [h.fits]
    simp only [decide_eq_false_iff_not]
    omega
  cases s with
  | none => simp [numsS]
  | some bs => simp [numsS, h.ok, numsL, f]

set_option maxHeartbeats 2000000 in
theorem spoilt_walk (w : World) (size at_ : Int) (a1 : Option Addr) (c1 : Nat) (ns : List Int) (a2 : Option Addr) (c2 : Nat) (more : List Int)
    (hr1 : Rd w 1 (.slice a1 ns.length c1) ns.length (ns.map (Value.int .i64))) (hr2 : Rd w 1 (.slice a2 more.length c2) more.length (more.map (Value.int .u8))) (hb : ∀ b ∈ more, 0 ≤ b ∧ b < 256) (hl1 : ns.length ≤ 20) (hl2 : more.length ≤ 40) :
    Calls Try.prog 6 #[.int .i64 size, .slice a1 ns.length c1, .int .i64 at_, .slice a2 more.length c2] w fun e w' => e = .returned (.bool true) ∧ Mod (fun _ => False) w w' := by
  obtain ⟨i3, hi3, hy3, hz3, hv3⟩ := info_parts Oct.info3
  have q1 : (ns.length : Int) ≤ 20 := by omega
  have q2 : (more.length : Int) ≤ 40 := by omega
  obtain ⟨r, hr⟩ : ∃ r, size % 7 = r := ⟨_, rfl⟩
  have r0 : 0 ≤ r := by omega
  have r1 : r < 7 := by omega
  obtain ⟨k, hk⟩ : ∃ k : Nat, at_ % ((ns.length : Int) + 1) = k := ⟨(at_ % ((ns.length : Int) + 1)).toNat, by have := Int.emod_nonneg at_ (show (ns.length : Int) + 1 ≠ 0 by omega); omega⟩
  have k1 : k ≤ ns.length := by have := Int.emod_lt_of_pos at_ (show 0 < (ns.length : Int) + 1 by omega); omega
  obtain ⟨M, hM⟩ := exM r r0 r1
  have M0 := hM.lo
  have M1 := hM.hi
  have HR := Lib.hid hr
  have HK := Lib.hid hk
  clear hr hk
  go_enter Try.func6, Try.ntmps6
  go_wp2_with fail
  refine (round_any size 7 _ (by omega) (by omega)).mono ?_
  rintro e w0 ⟨rfl, rfl⟩
  rw [HR.out]
  go_wp2_with fail
  refine (round_any at_ ((ns.length : Int) + 1) _ (by omega) (by omega)).mono ?_
  rintro e w0 ⟨rfl, rfl⟩
  rw [HK.out]
  go_wp2_with fail
  go_loopw [11, 12] (fun v i wr => ∃ (j : Nat) (s : Option (List Int)) (F : Nat → Prop), j ≤ ns.length ∧ i = .int .i64 j ∧ v = .pointer (some ⟨w.heap.size, 0, none⟩) ∧ Wr wr w.heap.size s F ∧ After w wr (fun _ => False) F ∧ (s.getD []).length ≤ 7 * j ∧ (s.isNone = decide (k < j)))
    (fun _ i _ => ns.length - (intOf i).toNat)
  case atStart =>
    exact ⟨0, some [], fun k => k = w.heap.size, Nat.zero_le _, rfl, rfl, Wr.new _ rfl, ⟨Mod.alloc _ _ _, fun k hk => .inr (by omega)⟩, by simp, by simp⟩
  case round =>
    obtain ⟨j, s, F, hj, rfl, rfl, hW, hA, hL, hS⟩ := hrel
    by_cases hlt : j < ns.length
    · have hs1 := hr1.some_ (by omega)
      have hrw : Rd wr 1 (.slice a1 ns.length c1) ns.length (ns.map (Value.int .i64)) := hr1.keepA hA.1 (fun _ _ e => e.elim)
      have hcell : wr.cell? (elemA a1 j 1) = some (.int .i64 ns[j]) := hrw.elem (by simp [hlt])
      have hix := fun wx => run_indexS (P := Try.prog) wx 32 3 i3 1 Try.underlying32 hi3 hz3 a1 ns.length c1 j hlt hs1
      have e8 : IntKind.i64.wrap (8 * (1 + r)) = 8 * (1 + r) := IntWalk.i64_in _ (by omega)
      have eM := hM.wrap
      have hKp := hM.keeps ns[j] s
      have hSp := fun s => hM.spoils s M (.inr (Int.le_refl _))
      have hWlt := hW.lt w.heap.size
      have hp0 : F w.heap.size := by obtain ⟨_, _, _, h3, _⟩ := hW; exact h3
      have hsz : w.heap.size < wr.heap.size := hWlt hp0
      have hFl : ∀ b, F b → b ≠ wr.heap.size := fun b hb => by have := hW.lt b hb; omega
      by_cases hjk : j = k
      · subst hjk
        go_wp2_with fail
        go_region_with (first | (go_at_call 23; refine (round_any _ M _ (by omega) (by omega)).mono ?_; rintro e w' ⟨rfl, rfl⟩) | (go_at_call 9; refine (nums_any w.heap.size _ s F (by exact (hW.alloc _).drew) (1 + r) _ [ns[j] % M] (by exact (Rd.one wr _ _).drew) (by intro b hb hf; simp [Value.ownBlock] at hb; exact absurd hb.symm (hFl b hf)) (by simp; omega)).mono ?_; rintro e w1 ⟨rfl, F1, hW1, hA1⟩))
        have hA1' : After w w1 (fun _ => False) F1 := hA.trans ((After.mk (((Mod.refl _ wr).thenAlloc _).thenDrew) (fun _ e => .inl e)).trans hA1)
        have hW1l := hW1.lt
        go_wp2_with fail
        refine (nums_any w.heap.size _ _ F1 (hW1.alloc _) (1 + r) _ [M] (Rd.one w1 _ _) (by intro b hb hf; simp [Value.ownBlock] at hb; have := hW1l b hf; omega) (by simp; omega)).mono ?_
        rintro e w2 ⟨rfl, F2, hW2, hA2⟩
        rw [hSp] at hW2
        have hA2' : After w w2 (fun _ => False) F2 := hA1'.trans ((After.mk ((Mod.refl _ w1).thenAlloc _) (fun _ e => .inl e)).trans hA2)
        go_wp2
        go_roundw
        case rel => exact ⟨j + 1, none, F2, hlt, by go_num, rfl, hW2, hA2', by simp, by simp⟩
        case measure => simp [intOf]; omega
      · have hne : ((j : Int) == (k : Int)) = false := by simp; omega
        go_wp2_with fail
        go_region_with (first | (go_at_call 23; refine (round_any _ M _ (by omega) (by omega)).mono ?_; rintro e w' ⟨rfl, rfl⟩) | (go_at_call 9; refine (nums_any w.heap.size _ s F (by exact (hW.alloc _).drew) (1 + r) _ [ns[j] % M] (by exact (Rd.one wr _ _).drew) (by intro b hb hf; simp [Value.ownBlock] at hb; exact absurd hb.symm (hFl b hf)) (by simp; omega)).mono ?_; rintro e w1 ⟨rfl, F1, hW1, hA1⟩))
        have hA1' : After w w1 (fun _ => False) F1 := hA.trans ((After.mk (((Mod.refl _ wr).thenAlloc _).thenDrew) (fun _ e => .inl e)).trans hA1)
        go_wp2
        go_roundw
        case rel => exact ⟨j + 1, _, F1, hlt, by go_num, rfl, hW1, hA1', by omega, by rw [hKp.1, hS]; simp; omega⟩
        case measure => simp [intOf]; omega
    · obtain rfl : j = ns.length := by omega
      by_cases hkl : k = ns.length
      case' pos =>
        obtain rfl := hkl
        have hSp := fun s => hM.spoils s (-1) (.inl (by omega))
        have hWl := hW.lt
        go_wp2_with fail
        refine (nums_any w.heap.size _ _ F (hW.alloc _) (1 + r) _ [-1] (Rd.one wr _ _) (by intro b hb hf; simp [Value.ownBlock] at hb; have := hWl b hf; omega) (by simp; omega)).mono ?_
        rintro e w2 ⟨rfl, F2, hW2, hA2⟩
        rw [hSp] at hW2
        have hA2' : After w w2 (fun _ => False) F2 := hA.trans ((After.mk ((Mod.refl _ wr).thenAlloc _) (fun _ e => .inl e)).trans hA2)
        clear hW hA hL hS hA2
      case' neg =>
        have hne : ((k : Int) == (ns.length : Int)) = false := by simp; omega
        have hsn : s = none := by simpa [show k < ns.length by omega] using hS
        subst hsn
        have hW2 := hW
        have hA2' := hA
        clear hW hA hL hS
      all_goals
        have hm2 := hr2.keepA hA2'.1 (fun _ _ e => e.elim)
        go_wp2_with fail
        refine (raw_any w.heap.size _ none _ hW2 _ more hm2 (by simp; omega)).mono ?_
        rintro e w3 ⟨rfl, F3, hW3, hA3⟩
        have hA3' := hA2'.trans hA3
        have hWl := hW3.lt
        go_wp2_with fail
        refine (nums_any w.heap.size _ none F3 (hW3.alloc _) 1 _ [1] (Rd.one w3 _ _) (by intro b hb hf; simp [Value.ownBlock] at hb; have := hWl b hf; omega) (by simp)).mono ?_
        rintro e w4 ⟨rfl, F4, hW4, hA4⟩
        have hA4' : After w w4 (fun _ => False) F4 := hA3'.trans ((After.mk ((Mod.refl _ w3).thenAlloc _) (fun _ e => .inl e)).trans hA4)
        go_wp2_with fail
        refine (bytes_any w.heap.size _ none F4 hW4 (by simp)).mono ?_
        rintro e w5 ⟨vb, rfl, _, hM5, ab, cb, rfl⟩
        have m5 : Mod (fun _ => False) w w5 := hA4'.1.trans hM5 (fun _ _ e => e) (fun _ _ e => e)
        have hm5 := hr2.keepA m5 (fun _ _ e => e.elim)
        clear hW2 hA2' hm2 hW3 hA3 hA3' hW4 hA4 hA4' hM5
        go_wp2_with fail
        refine (read_any _ _ more hm5 (by omega)).mono ?_
        rintro e w6 ⟨p6, F6, rfl, hR6, hF6, hM6⟩
        have hp6 : w.heap.size ≤ p6 := by obtain ⟨_, _, _, h3, _⟩ := hR6; exact Nat.le_trans m5.size (hF6 p6 h3)
        have m6 : Mod (fun _ => False) w w6 := m5.trans hM6 (fun _ _ e => e) (fun _ _ e => e)
        have eT : takeS ((more.length : Int) + 1) (some more) = ([], none) := by
          unfold takeS
          rw [if_neg (by simp; omega)]
        go_wp2_with fail
        refine (rraw_any p6 _ _ F6 hR6 ((more.length : Int) + 1) (by simp; omega)).mono ?_
        rintro e w7 ⟨vz, rfl, hZ, hR7, hM7⟩
        rw [eT] at hZ hR7
        obtain ⟨az, cz, rfl⟩ : ∃ a c, vz = .slice a 0 c := own_form hZ
        have m7 : Mod (fun _ => False) w w7 := m6.trans hM7 (fun _ _ e => e) (fun i _ e => by omega)
        go_wp2_with fail
        refine (num_any p6 _ _ F6 hR7 (by simp) 1).mono ?_
        rintro e w8 ⟨rfl, hR8, hM8⟩
        have m8 : Mod (fun _ => False) w w8 := m7.trans hM8 (fun _ _ e => e) (fun i _ e => by omega)
        rw [show numR 1 none = (0, none) by decide] at hR8 ⊢
        clear hZ hR7 hR6 hm5
        go_wp2_with fail
        refine (left_any p6 _ _ F6 hR8).mono ?_
        rintro e w9 ⟨rfl, rfl⟩
        go_wp2_with fail
        refine (done_any p6 _ _ F6 hR8).mono ?_
        rintro e w9 ⟨rfl, rfl⟩
        go_wp2_with fail
        refine (awake_any _).mono ?_
        rintro e w9 ⟨rfl, hM9⟩
        go_wp2
        go_ret
        exact ⟨rfl, m8.trans hM9 (fun _ _ e => e) (fun _ _ e => e)⟩

end Go.Proofs.Ytldnegadkadmkaa
