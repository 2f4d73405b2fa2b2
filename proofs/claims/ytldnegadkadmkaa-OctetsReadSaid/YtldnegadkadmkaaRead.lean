/- The law OctetsRead, walked. -/
import Derived.Test.YtldnegadkadmkaaRef1b
import Derived.Deep.DeepCutAuto
namespace Go.Proofs.Ytldnegadkadmkaa
open Go.RowKit Mile

/-- Both Readers in one state, in blocks of the call's own. -/
structure Both (w W : World) (p q : Nat) (F : Nat → Prop) (s : Option (List Int)) : Prop where
  r : Rdr W p s F
  m : MR W q s w.heap.size
  own : ∀ k, F k → w.heap.size ≤ k ∧ k ≠ q
  mod : Mod (fun _ => False) w W

theorem Both.drew {w W : World} {p q : Nat} {F : Nat → Prop} {s : Option (List Int)} (h : Both w W p q F s) : Both w W.drew p q F s := ⟨h.r, h.m, h.own, h.mod.thenDrew⟩

theorem takeS_rest (n : Int) (s : Option (List Int)) : ∀ b ∈ (takeS n s).2.getD [], b ∈ s.getD [] := by
  unfold takeS
  split
  · cases s with
    | none => simp
    | some bs => intro b hb; simp at hb ⊢; exact List.mem_of_mem_drop hb
  · simp
theorem takeS_shorter (n : Int) (s : Option (List Int)) : ((takeS n s).2.getD []).length ≤ (s.getD []).length := by
  unfold takeS
  split
  · cases s with
    | none => simp
    | some bs => simp
  · simp
theorem numR_rest (n : Int) (s : Option (List Int)) : (numR n s).2 = (takeS n s).2 ∨ (numR n s).2 = none := by
  unfold numR; split
  · exact .inl rfl
  · exact .inr rfl

theorem done_two (s : Option (List Int)) : (doneS s = 0 ∧ decide (s = some []) = true) ∨ (doneS s = 2 ∧ decide (s = some []) = false) := by
  unfold doneS
  by_cases h : s = some []
  · exact .inl ⟨by rw [if_pos h], by simpa using h⟩
  · exact .inr ⟨by rw [if_neg h], by simpa using h⟩

theorem flat_at : ∀ (L : List (Int × Int)) (j : Nat) (h : j < L.length) (i : Nat), i < 2 → (L.flatMap (fun x => [Value.int .i64 x.1, Value.int .i64 x.2]))[j * 2 + i]? = [Value.int .i64 L[j].1, Value.int .i64 L[j].2][i]? := by
  intro L
  induction L with
  | nil => intro j h; simp at h
  | cons y r ih =>
    intro j h i hi
    rw [List.flatMap_cons]
    cases j with
    | zero => rw [List.getElem?_append_left (by simp; omega)]; simp
    | succ j =>
      have h' : j < r.length := by simpa using h
      have e := ih j h' i hi
      rw [List.getElem?_append_right (by simp; omega)]
      simp only [List.length_cons, List.length_nil, List.getElem_cons_succ]
      rw [show (j + 1) * 2 + i - (0 + 1 + 1) = j * 2 + i by omega]
      exact e

set_option maxHeartbeats 4000000 in
set_option maxRecDepth 100000 in
theorem read_walk (w : World) (a1 : Option Addr) (c1 : Nat) (bs : List Int) (a2 : Option Addr) (n2 c2 : Nat) (l : List (Int × Int))
    (hr1 : Rd w 1 (.slice a1 bs.length c1) bs.length (bs.map (Value.int .u8))) (hb : ∀ b ∈ bs, 0 ≤ b ∧ b < 256) (hn2 : n2 = l.length)
    (hr2 : Rd w 2 (.slice a2 n2 c2) n2 (l.flatMap (fun x => [.int .i64 x.1, .int .i64 x.2]))) (hl1 : bs.length ≤ 200) (hl2 : l.length ≤ 30) :
    Calls Try.prog 4 #[.slice a1 bs.length c1, .slice a2 n2 c2] w fun e w' => e = .returned (.bool true) ∧ Mod (fun _ => False) w w' := by
  obtain ⟨i47, hi47, hs47⟩ : ∃ i, Try.prog.info? 47 = some i ∧ i.size = 2 := by
    have h : (Try.prog.info? 47).map (fun i => i.size) = some 2 := by kernel_rfl
    cases e : Try.prog.info? 47 with
    | none => rw [e] at h; cases h
    | some i => rw [e] at h; exact ⟨i, rfl, by simpa using h⟩
  have q1 : (bs.length : Int) ≤ 200 := by omega
  have q2 : (n2 : Int) ≤ 30 := by omega
  have HN2 := Lib.hid hn2
  clear hn2 hl2
  go_enter Try.func4, Try.ntmps4
  go_wp2_with fail
  refine (read_any _ _ bs hr1 (by omega)).mono ?_
  rintro e w1 ⟨p, F, rfl, hR, hF, hM⟩
  go_wp2_with fail
  have hsz := hM.size
  have hBoth : Both w (w1.alloc (.cells #[.slice a1 bs.length c1, .bool false] 46)) p w1.heap.size F (some bs) := by
    refine ⟨hR.keep (Mod.alloc (fun _ => False) _ _) (fun _ _ e => e), ⟨.slice a1 bs.length c1, bs, Blk.new w1 _ [.slice a1 bs.length c1, .bool false], hr1.keepA (hM.thenAlloc _) (fun _ _ e => e.elim), .inr rfl, hsz, fun k hk hle => ?_⟩, fun k hk => ⟨hF k hk, fun e => ?_⟩, hM.thenAlloc _⟩
    · have := hr1.lt hk hle; simpa using this
    · have := hR.lt k hk; omega
  go_loopw [7] (fun i wr => ∃ (j : Nat) (s : Option (List Int)), j ≤ n2 ∧ i = .int .i64 j ∧ Both w wr p w1.heap.size F s ∧ (∀ b ∈ s.getD [], 0 ≤ b ∧ b < 256) ∧ (s.getD []).length ≤ 200)
    (fun i _ => n2 - (intOf i).toNat)
  case atStart => exact ⟨0, some bs, Nat.zero_le _, rfl, hBoth, hb, hl1⟩
  case round =>
    obtain ⟨j, s, hj, rfl, hBo, hsr, hsl⟩ := hrel
    clear hR hBoth
    by_cases hlt : j < n2
    · have hl2w : Rd wr 2 (.slice a2 n2 c2) n2 (l.flatMap (fun x => [.int .i64 x.1, .int .i64 x.2])) := hr2.keepA hBo.mod (fun _ _ e => e.elim)
      obtain ⟨lb, lo, hlb, hlown⟩ := hl2w.place hlt
      have hix := fun wx => run_indexS (P := Try.prog) wx 42 47 i47 2 Try.underlying42 hi47 hs47 a2 n2 c2 j hlt (hl2w.some_ (by omega))
      rw [hlb] at hix
      have hjl : j < l.length := by rw [← HN2.out]; exact hlt
      obtain ⟨x, hx⟩ : ∃ x, l[j] = x := ⟨_, rfl⟩
      have hc0 : wr.cell? ⟨lb, lo, none⟩ = some (.int .i64 x.1) := by
        have := hl2w.elemN hlb 0 (u := .int .i64 x.1) (by rw [flat_at l j hjl 0 (by omega), hx]; rfl)
        simpa using this
      have hc1 : wr.cell? ⟨lb, lo + 1, none⟩ = some (.int .i64 x.2) := hl2w.elemN hlb 1 (u := .int .i64 x.2) (by rw [flat_at l j hjl 1 (by omega), hx]; rfl)
      have hB0 := hBo.drew
      have hw1r : w1.heap.size < wr.heap.size := by obtain ⟨_, _, h1, _⟩ := hBo.m; exact h1.lt
      have hqp : w.heap.size ≤ p ∧ p ≠ w1.heap.size := by obtain ⟨_, _, _, h3, _⟩ := hBo.r; exact hBo.own p h3
      have hc1d : wr.drew.cell? ⟨lb, lo + 1, none⟩ = some (.int .i64 x.2) := hc1
      have hstep : ∀ W W' : World, Mod (fun _ => False) w W → Mod (fun k => k = p) W W' → Mod (fun _ => False) w W' := fun W W' h1 h2 => h1.trans h2 (fun _ _ e => e) (fun i hi e => by omega)
      have hstepq : ∀ W W' : World, Mod (fun _ => False) w W → Mod (fun k => k = w1.heap.size) W W' → Mod (fun _ => False) w W' := fun W W' h1 h2 => h1.trans h2 (fun _ _ e => e) (fun i hi e => by omega)
      have hcw : ∀ W : World, Mod (fun _ => False) w W → W.cell? ⟨lb, lo + 1, none⟩ = some (.int .i64 x.2) := fun W hm => (hr2.keepA hm (fun _ _ e => e.elim)).elemN hlb 1 (u := .int .i64 x.2) (by rw [flat_at l j hjl 1 (by omega), hx]; rfl)
      clear hx hlb
      by_cases hev : x.1.tmod 2 = 0
      · have hev2 : (x.1.tmod 2 == 0) = true := by simpa using hev
        clear hev
        go_upto_region 11 with fail
        go_cut [51] from 24 to 81 (fun t wx => t = .bool false ∧ Both w wx p w1.heap.size F (numR x.2 s).2)
        case first =>
          go_region_with (first
            | (go_at_call 15; refine (num_any p _ s F hB0.r hsr x.2).mono ?_; rintro e wA ⟨rfl, hRA, hMA⟩; have hmA := hstep _ _ hB0.mod hMA; have hcA := hcw _ hmA; have hM0 := hB0.m.keep hMA (fun e => hqp.2 e.symm) (fun k e => by omega))
            | (go_at_call 16; refine (mnum_any _ _ s _ hM0 hsr x.2).mono ?_; rintro e wC ⟨rfl, hMC, hNC⟩; have hEnd : Both w wC p w1.heap.size F (numR x.2 s).2 := ⟨hRA.keep hNC (fun k hk => (hB0.own k hk).2), hMC, hB0.own, hstepq _ _ hmA hNC⟩))
          all_goals
            go_wp2_with fail
            go_meet
            exact ⟨rfl, hEnd⟩
        case rest =>
          obtain ⟨rfl, hB2⟩ := hcut
          have hs2r : ∀ b ∈ (numR x.2 s).2.getD [], 0 ≤ b ∧ b < 256 := by
            rcases numR_rest x.2 s with e | e
            · rw [e]; exact fun b hb' => hsr b (takeS_rest _ _ b hb')
            · rw [e]; simp
          have hs2l : ((numR x.2 s).2.getD []).length ≤ 200 := by
            rcases numR_rest x.2 s with e | e
            · rw [e]; exact Nat.le_trans (takeS_shorter _ _) hsl
            · rw [e]; simp
          generalize (numR x.2 s).2 = s2 at *
          clear hBo hB0 hcw hc1d hc0 hc1 hl2w
          rcases done_two s2 with ⟨d1, d2⟩ | ⟨d1, d2⟩
          all_goals
            go_wp2_with (first
              | (go_at_call 19; refine (left_any p _ _ F hB2.r).mono ?_; rintro e wL ⟨rfl, rfl⟩)
              | (go_at_call 20; refine (mleft_any _ _ _ _ hB2.m).mono ?_; rintro e wL ⟨rfl, rfl⟩)
              | (go_at_call 21; refine (done_any p _ _ F hB2.r).mono ?_; rintro e wL ⟨rfl, rfl⟩)
              | (go_at_call 22; refine (mdone_any _ _ _ _ hB2.m).mono ?_; rintro e wL ⟨rfl, rfl⟩))
            go_roundw
            case rel => exact ⟨j + 1, s2, hlt, by go_num, hB2, hs2r, hs2l⟩
            case measure => simp [intOf]; omega
      · have hev2 : (x.1.tmod 2 == 0) = false := by simpa using hev
        clear hev
        have hsl9 : (s.getD []).length ≤ 1000000000 := by omega
        go_upto_region 13 with fail
        go_cut [68] from 24 to 81 (fun t wx => t = .bool false ∧ Both w wx p w1.heap.size F (takeS x.2 s).2)
        case first =>
          go_region_with (first
            | (go_at_call 17; refine (rraw_any p _ s F hB0.r x.2 hsl9).mono ?_; rintro e wA ⟨vA, rfl, hFA, hRA, hMA⟩; have hmA := hstep _ _ hB0.mod hMA; have hcA := hcw _ hmA; have hM0 := hB0.m.keep hMA (fun e => hqp.2 e.symm) (fun k e => by omega); have kA := run_strS (P := Try.prog) wA 26 9 5 Try.underlying26 Try.underlying5 Try.underlying9 (Rd.ofOwn hFA))
            | (go_at_call 18; refine (mraw_any _ _ s _ hM0 x.2 hsl9).mono ?_; rintro e wC ⟨vC, rfl, hFC, hMC, hNC⟩; have hEnd : Both w wC p w1.heap.size F (takeS x.2 s).2 := ⟨hRA.keep hNC (fun k hk => (hB0.own k hk).2), hMC, hB0.own, hstepq _ _ hmA hNC⟩; have kC := run_strS (P := Try.prog) wC 26 9 5 Try.underlying26 Try.underlying5 Try.underlying9 (Rd.ofOwn hFC); have kA2 := run_strS (P := Try.prog) wC 26 9 5 Try.underlying26 Try.underlying5 Try.underlying9 ((Rd.ofOwn hFA).keep hNC (fun k hk e => by have hge : wr.heap.size ≤ k := (hFA.lt k hk).1; omega))))
          all_goals
            go_wp2_with fail
            go_meet
            exact ⟨rfl, hEnd⟩
        case rest =>
          obtain ⟨rfl, hB2⟩ := hcut
          have hs2r : ∀ b ∈ (takeS x.2 s).2.getD [], 0 ≤ b ∧ b < 256 := fun b hb' => hsr b (takeS_rest _ _ b hb')
          have hs2l : ((takeS x.2 s).2.getD []).length ≤ 200 := Nat.le_trans (takeS_shorter _ _) hsl
          generalize (takeS x.2 s).2 = s2 at *
          clear hBo hB0 hcw hc1d hc0 hc1 hl2w
          rcases done_two s2 with ⟨d1, d2⟩ | ⟨d1, d2⟩
          all_goals
            go_wp2_with (first
              | (go_at_call 19; refine (left_any p _ _ F hB2.r).mono ?_; rintro e wL ⟨rfl, rfl⟩)
              | (go_at_call 20; refine (mleft_any _ _ _ _ hB2.m).mono ?_; rintro e wL ⟨rfl, rfl⟩)
              | (go_at_call 21; refine (done_any p _ _ F hB2.r).mono ?_; rintro e wL ⟨rfl, rfl⟩)
              | (go_at_call 22; refine (mdone_any _ _ _ _ hB2.m).mono ?_; rintro e wL ⟨rfl, rfl⟩))
            go_roundw
            case rel => exact ⟨j + 1, s2, hlt, by go_num, hB2, hs2r, hs2l⟩
            case measure => simp [intOf]; omega
    · obtain rfl : j = n2 := by omega
      have hmE := hBo.mod
      clear hBo hsr hsl
      go_wp2_with fail
      refine (awake_any _).mono ?_
      rintro e w9 ⟨rfl, hM9⟩
      go_wp2
      go_ret
      exact ⟨rfl, hmE.trans hM9 (fun _ _ e => e) (fun _ _ e => e)⟩

end Go.Proofs.Ytldnegadkadmkaa
