/- The law CheckTells, walked. -/
import Derived.Test.YtfcjooelndegcaaAwake2
import Derived.Test.YtfcjooelndegcaaOpens
namespace Go.Proofs.Ytfcjooelndegcaa
open Go.RowKit Mile

theorem Chk.info3 : (Try.prog.info? 3).map (fun i => (i.zero, i.size, i.bytes)) = some (some (.int .i64 0), 1, 8) := by kernel_rfl

/-- The parts that were cut off, and what is left. -/
structure CutSt (w W : World) (bs : List Int) (j : Nat) (l r : Value) : Prop where
  rest : ∃ (ps : List (Value × List Int)) (rs : List Int) (ar : Option Addr) (cr : Nat), ps.length = j ∧ W.ownsRow 0 22 1 l j (ps.map (·.1)) ∧ (∀ k, l.ownBlock = some k → w.heap.size ≤ k) ∧
    (∀ p ∈ ps, Rd w 1 p.1 p.2.length (p.2.map (Value.int .u8))) ∧ r = .slice ar rs.length cr ∧ Rd w 1 r rs.length (rs.map (Value.int .u8)) ∧ flat ps ++ rs = bs
  mod : Mod (fun _ => False) w W

set_option maxHeartbeats 4000000 in
set_option maxRecDepth 100000 in
theorem tells_walk (w : World) (a : Option Addr) (n c : Nat) (bs : List Int) (hn : bs.length = n) (hr : Rd w 1 (.slice a n c) n (bs.map (Value.int .u8))) (hb : ∀ x ∈ bs, 0 ≤ x ∧ x < 256)
    (a1 : Option Addr) (n1 c1 : Nat) (cs : List Int) (hn1 : cs.length = n1) (hr1 : Rd w 1 (.slice a1 n1 c1) n1 (cs.map (Value.int .i64))) :
    Calls Try.prog 3 #[.slice a n c, .slice a1 n1 c1] w fun e w' => e = .returned (.bool true) ∧ Mod (fun _ => False) w w' := by
  obtain ⟨i0, hi, hz0, hz1, hz2⟩ := info_parts Chk.info5
  obtain ⟨i3, hi3, hz30, hz31, hz32⟩ := info_parts Chk.info3
  obtain ⟨i25, hi25, hz250, hz251, hz252⟩ := info_parts Chk.info25
  have HN := Lib.hid hn
  have HN1 := Lib.hid hn1
  clear hn hn1
  by_cases hbig : 1000 < n ∨ 20 < n1
  · have aw := awake_any
    rcases hbig with hb1 | hb1
    · go_enter Try.func3, Try.ntmps3
      go_wp2_with fail
      refine (awake_any _).mono ?_
      rintro e w9 ⟨rfl, hM9⟩
      go_wp2
      go_ret
      exact ⟨rfl, hM9⟩
    · by_cases hb2 : 1000 < n
      all_goals
        go_enter Try.func3, Try.ntmps3
        go_wp2_with fail
        refine (awake_any _).mono ?_
        rintro e w9 ⟨rfl, hM9⟩
        go_wp2
        go_ret
        exact ⟨rfl, hM9⟩
  have q1 : n ≤ 1000 := by omega
  have q2 : n1 ≤ 20 := by omega
  clear hbig
  go_enter Try.func3, Try.ntmps3
  go_wp2_with fail
  go_loopw [5, 6, 7, 8] (fun l r i _ wr => ∃ (j : Nat), j ≤ n1 ∧ i = .int .i64 j ∧ CutSt w wr bs j l r) (fun _ _ i _ _ => n1 - (intOf i).toNat)
  case atStart => 
    exact ⟨0, by omega, rfl, ⟨⟨[], bs, a, c, rfl, World.ownsRow_nil _ _ _ _, by simp [Value.ownBlock], by simp, by rw [HN.out], by rw [HN.out]; exact hr, rfl⟩, Mod.refl _ _⟩⟩
  case round =>
    obtain ⟨j, hj, rfl, ⟨ps, rs, ar, cr, hps, hown, hlow, hparts, rfl, hrr, hflat⟩, hM⟩ := hrel
    have HPS := Lib.hid hps
    have HFL := Lib.hid hflat
    clear hps hflat
    by_cases hlt : j < n1
    · have hjl : j < cs.length := by rw [HN1.out]; exact hlt
      have hrl : rs.length ≤ 1000 := by have := congrArg List.length HFL.out; rw [List.length_append, HN.out] at this; omega
      have hix := fun wx => run_indexS (P := Try.prog) wx 23 3 i3 1 Try.underlying23 hi3 hz31 a1 n1 c1 j hlt (hr1.some_ (by omega))
      have hcell : wr.cell? (elemA a1 j 1) = some (.int .i64 cs[j]) := (hr1.keepA hM (fun _ _ e => e.elim)).elem (by simp [hjl])
      have hmod := Int.emod_nonneg cs[j] (show ((rs.length : Int) + 1) ≠ 0 by omega)
      have hmod2 := Int.emod_lt_of_pos cs[j] (show 0 < ((rs.length : Int) + 1) by omega)
      obtain ⟨m, hm⟩ := Int.eq_ofNat_of_zero_le hmod
      have hmr : m ≤ rs.length := by omega
      have HM := Lib.hid hm
      clear hmod hmod2 hm
      obtain ⟨_, ar', cr', her, hrc, hrcm, _⟩ := id hrr
      cases her
      have rT := fun wx => run_takeS (P := Try.prog) wx 22 5 i0 Try.underlying22 hi ar rs.length cr m (by omega)
      have rD := fun wx => run_dropS (P := Try.prog) wx 22 5 i0 1 Try.underlying22 hi hz1 ar rs.length cr m hmr
      have hrt := hrr.take hmr
      have hrd := hrr.drop hmr
      rw [Nat.mul_one] at hrt hrd
      have hap1 : j + 1 ≤ maxLen := by unfold maxLen; omega
      have hap2 : (j + 1) * 24 ≤ 140737488355328 := by omega
      have h1c : ∀ u ∈ [Value.slice ar m cr], u.oneCell' = true := by simp [Value.oneCell']
      go_wp2_with fail
      refine (round_any _ _ _ (by omega) (by omega)).mono ?_
      rintro e w' ⟨rfl, rfl⟩
      rw [HM.out]
      go_wp2_with (at_builtin; refine wpList_append_any rfl (.tmp 33) (.tmp 37) 25 rfl 22 i25 (.slice none 0 0) 1 24 Try.underlying25 hi25 hz250 hz251 hz252 rfl (by decide) _ j (ps.map (·.1)) rfl (World.ownsRow.alloc hown _) _ 1 [.slice ar m cr] rfl (Rd.one wr _ _) h1c hap1 hap2 ?_; intro v' w' hap; obtain ⟨a3, c3, rfl⟩ := hap.form)
      go_roundw
      case rel =>
        refine ⟨j + 1, hlt, by go_num, ⟨⟨ps ++ [(.slice ar m cr, rs.take m)], rs.drop m, dropA ar cr m 1, cr - m, ?_, ?_, ?_, ?_, ?_, ?_, ?_⟩, ?_⟩⟩
        · rw [List.length_append, HPS.out]; rfl
        · rw [List.map_append]; exact hap.own
        · intro k hk
          rcases hap.row k hk with h | h
          · exact hlow k h
          · have := hM.size; simp at h; omega
        · intro p hp
          rw [List.mem_append, List.mem_singleton] at hp
          rcases hp with hp | rfl
          · exact hparts p hp
          · have e : (rs.take m).length = m := by rw [List.length_take]; omega
            show Rd w 1 (.slice ar m cr) (rs.take m).length ((rs.take m).map _)
            rw [e, List.map_take]; exact hrt
        · rw [List.length_drop]
        · rw [List.length_drop, List.map_drop]; exact hrd
        · rw [← HFL.out]; simp [flat]
        · exact (hM.thenAlloc _).trans hap.mod (fun _ _ e => e) (fun i hi e => by have := hlow i e; omega)
      case measure => simp [intOf]; omega
    · obtain rfl : j = n1 := by omega
      have hrl : rs.length ≤ 1000 := by have := congrArg List.length HFL.out; rw [List.length_append, HN.out] at this; omega
      go_wp2_with fail
      have P1 := fun h => Parts.one (w := wr.alloc (.cells #[.slice a n c] 22)) (v := .slice (some ⟨wr.heap.size, 0, none⟩) 1 1) (x := .slice a n c) (bs := bs) (Rd.lit _ [.slice a n c] _ _ 1 rfl rfl (by omega)) h hb
      refine (sum_any _ 1 1 _ _ rfl (P1 (by rw [HN.out]; exact (hr.keepA hM (fun _ _ e => e.elim)).alloc _))).mono ?_
      rintro e w1 ⟨rfl, hw⟩
      have hM1 := hM.thenAlloc (.cells #[.slice a n c] 22)
      have hO1 := World.ownsRow.alloc hown (.cells #[.slice a n c] 22)
      rw [hw] at hM1 hO1
      clear hw P1
      rw [show flat [(Value.slice a n c, bs)] = bs by simp [flat]]
      go_wp2_with fail
      refine (rsum_any a n c bs _ (hr.keepA hM1 (fun _ _ e => e.elim)) hb).mono ?_
      rintro e w2 ⟨rfl, rfl⟩
      have hap1 : j + 1 ≤ maxLen := by unfold maxLen; omega
      have hap2 : (j + 1) * 24 ≤ 140737488355328 := by omega
      have h1c : ∀ u ∈ [Value.slice ar rs.length cr], u.oneCell' = true := by simp [Value.oneCell']
      obtain ⟨S, hS⟩ : ∃ S : Int, ((csum bs).toNat : Int) = S := ⟨_, rfl⟩
      rw [hS]
      have HS := Lib.hid hS
      clear hS
      go_wp2_with (at_builtin; refine wpList_append_want rfl (.tmp 49) (.tmp 51) 25 rfl 22 i25 (.slice none 0 0) 1 24 Try.underlying25 hi25 hz250 hz251 hz252 rfl (by decide) _ j (ps.map (·.1)) rfl (World.ownsRow.alloc hO1 _) _ 1 [.slice ar rs.length cr] rfl (Rd.one w1 _ _) h1c hap1 hap2 ?_; intro v' w' hap; obtain ⟨a3, c3, rfl⟩ := hap.form)
      have hM3 := (hM1.thenAlloc (.cells #[.slice ar rs.length cr] 22)).trans hap.mod (H := fun _ => False) (fun _ _ e => e) (fun i hi e => by have := hlow i e; omega)
      have hP : Parts w' (.slice a3 (j + 1) c3) (ps ++ [(.slice ar rs.length cr, rs)]) := by
        have e : (ps ++ [(Value.slice ar rs.length cr, rs)]).length = j + 1 := by rw [List.length_append, HPS.out]; rfl
        refine ⟨by rw [e, List.map_append]; exact Rd.ofOwn hap.own, fun p hp => ?_⟩
        have hin : ∀ p ∈ ps ++ [(Value.slice ar rs.length cr, rs)], ∀ x ∈ p.2, x ∈ bs := by
          intro p hp x hx
          rw [← HFL.out, List.mem_append]
          rw [List.mem_append, List.mem_singleton] at hp
          rcases hp with hp | rfl
          · exact .inl (List.mem_flatMap.2 ⟨p, hp, hx⟩)
          · exact .inr hx
        refine ⟨?_, fun x hx => hb x (hin p hp x hx)⟩
        rw [List.mem_append, List.mem_singleton] at hp
        rcases hp with hp | rfl
        · exact (hparts p hp).keepA hM3 (fun _ _ e => e.elim)
        · exact hrr.keepA hM3 (fun _ _ e => e.elim)
      have hF : flat (ps ++ [(Value.slice ar rs.length cr, rs)]) = bs := by rw [← HFL.out]; simp [flat]
      refine (sum_any a3 (j + 1) c3 _ _ (by rw [List.length_append, HPS.out]; rfl) hP).mono ?_
      rintro e w3 ⟨rfl, rfl⟩
      rw [hF, HS.out]
      go_wp2_with fail
      refine (rsum_any a n c bs _ (hr.keepA hM3 (fun _ _ e => e.elim)) hb).mono ?_
      rintro e w2 ⟨rfl, rfl⟩
      rw [HS.out]
      go_wp2_with fail
      refine (awake_any _).mono ?_
      rintro e w9 ⟨rfl, hM9⟩
      go_wp2
      go_ret
      exact ⟨rfl, hM3.trans hM9 (fun _ _ e => e) (fun _ _ e => e)⟩
theorem tells_all (w : World) (a : Option Addr) (n c : Nat) (bs : List Int) (ok : (encSlice (encInt .u8)).ok w (.slice a n c, bs)) (a1 : Option Addr) (n1 c1 : Nat) (cs : List Int) (ok1 : (encSlice (encInt .i64)).ok w (.slice a1 n1 c1, cs)) :
    Calls Try.prog 3 #[.slice a n c, .slice a1 n1 c1] w fun e w' => e = .returned (.bool true) ∧ Below w.heap.size w w' := by
  obtain ⟨hn, hr, hb⟩ := ok_ints ok
  obtain ⟨hn1, hr1, _⟩ := ok_ints ok1
  exact (tells_walk w a n c bs hn hr (u8_range hb) a1 n1 c1 cs hn1 hr1).mono fun e w' h => ⟨h.1, h.2.below (Nat.le_refl _) (fun _ e => e.elim)⟩

end Go.Proofs.Ytfcjooelndegcaa
