/- Contracts of the document's own answer for octets: milepostref1's Writer; the law's own look at how much there is. -/
import Derived.Test.YtabfmnlpipbegaaRef1

import Derived.Test.YtabfmnlpipbegaaNums2
namespace Go.Proofs.Ytabfmnlpipbegaa
open Go.RowKit Mile
set_option maxRecDepth 100000

/-- A milepostref1.Writer at block p: its bytes, and whether it is spoilt. F: the blocks that are its own. -/
def MW (w : World) (p : Nat) (bad : Bool) (bs : List Int) (F : Nat → Prop) : Prop :=
  ∃ v, Blk w p 64 [v, .bool bad] ∧ w.ownsRow 0 5 1 v bs.length (bs.map (Value.int .u8)) ∧ F p ∧ (∀ k, v.ownBlock = some k → F k ∧ k ≠ p) ∧ (∀ k, F k → k < w.heap.size)

theorem MW.keep {w w' : World} {p : Nat} {bad : Bool} {bs : List Int} {F G : Nat → Prop} (h : MW w p bad bs F) (hm : Mod G w w') (hd : ∀ k, F k → ¬ G k) : MW w' p bad bs F := by
  obtain ⟨v, h1, h2, h3, h4, h5⟩ := h
  exact ⟨v, h1.keep hm (hd p h3), Own.keep h2 hm (fun k hk => hd k (h4 k hk).1), h3, h4, fun k hk => Nat.lt_of_lt_of_le (h5 k hk) hm.size⟩
theorem MW.lt {w : World} {p : Nat} {bad : Bool} {bs : List Int} {F : Nat → Prop} (h : MW w p bad bs F) : ∀ k, F k → k < w.heap.size := by obtain ⟨_, _, _, _, _, h5⟩ := h; exact h5
theorem MW.self {w : World} {p : Nat} {bad : Bool} {bs : List Int} {F : Nat → Prop} (h : MW w p bad bs F) : F p := by obtain ⟨_, _, _, h3, _⟩ := h; exact h3
theorem Wr.self {w : World} {p : Nat} {s : Option (List Int)} {F : Nat → Prop} (h : Wr w p s F) : F p := by obtain ⟨_, _, _, h3, _⟩ := h; exact h3
theorem MW.drew {w : World} {p : Nat} {bad : Bool} {bs : List Int} {F : Nat → Prop} (h : MW w p bad bs F) : MW w.drew p bad bs F := h.keep (Mod.drew (fun _ => False) w) (fun _ _ e => e)
theorem MW.alloc {w : World} {p : Nat} {bad : Bool} {bs : List Int} {F : Nat → Prop} (h : MW w p bad bs F) (o : Obj) : MW (w.alloc o) p bad bs F := h.keep (Mod.alloc (fun _ => False) w o) (fun _ _ e => e)

theorem MW.setBad {w : World} {p : Nat} {bad : Bool} {bs : List Int} {F : Nat → Prop} (h : MW w p bad bs F) (b : Bool) : MW (w.setCell ⟨p, 1, none⟩ (.bool b)) p b bs F := by
  obtain ⟨v, h1, h2, h3, h4, h5⟩ := h
  exact ⟨v, h1.set 1 (.bool b), Own.keep h2 (Mod.setCell (F := fun k => k = p) w ⟨p, 1, none⟩ _ rfl) (fun k hk e => (h4 k hk).2 e), h3, h4, fun k hk => by simpa using h5 k hk⟩

/-- Behind an append that is stored into it. -/
theorem MW.pushed {w w0 w' : World} {p : Nat} {bad : Bool} {bs new : List Int} {v v' : Value} {F : Nat → Prop} {n' : Nat} (h1 : Blk w p 64 [v, .bool bad]) (h3 : F p) (h4 : ∀ k, v.ownBlock = some k → F k ∧ k ≠ p) (hm : Mod (fun _ => False) w w0)
    (hap : Appended w0 w' 5 1 v v' n' (bs.map (Value.int .u8) ++ new.map (Value.int .u8))) :
    ∃ F', MW (w'.setCell ⟨p, 0, none⟩ v') p bad (bs ++ new) F' ∧ After w (w'.setCell ⟨p, 0, none⟩ v') F F' := by
  have hlen : n' = (bs ++ new).length := by have := hap.own.1; simp at this; simp [this]
  have hm2 := hap.mod
  have hpv : v'.ownBlock ≠ some p := by
    intro e
    rcases hap.row p e with h | h
    · exact (h4 p h).2 rfl
    · have := h1.lt; have := hm.size; omega
  have hb : Blk w' p 64 [v, .bool bad] := (h1.keep hm (fun e => e)).keep hm2 (fun e => (h4 p e).2 rfl)
  subst hlen
  refine ⟨fun k => k = p ∨ v'.ownBlock = some k, ⟨v', hb.set 0 v', ?_, .inl rfl, fun k hk => ⟨.inr hk, fun e => hpv (e ▸ hk)⟩, ?_⟩, ?_, ?_⟩
  · have ho := Own.keep hap.own (Mod.setCell (F := fun k => k = p) w' ⟨p, 0, none⟩ v' rfl) (fun k hk e => hpv (e ▸ hk))
    simpa using ho
  · rintro k (rfl | hk)
    · simpa using hb.lt
    · simpa using Own.lt hap.own hk
  · exact ((hm.trans hm2 (H := F) (fun _ _ e => e.elim) (fun i _ e => (h4 i e).1))).thenSet _ _ (fun _ => h3)
  · rintro k (rfl | hk)
    · exact .inl h3
    · rcases hap.row k hk with h | h
      · exact .inl (h4 k h).1
      · exact .inr (Nat.le_trans hm.size h)

/-- What one number does to it. -/
def mNum (size n : Int) (m : Bool × List Int) : Bool × List Int := if sizeOk size && fits size.toNat n then (m.1, m.2 ++ digs n size.toNat) else (true, m.2)

set_option maxHeartbeats 1000000 in
theorem mnumW_any (p : Nat) (w : World) (bad : Bool) (bs : List Int) (F : Nat → Prop) (h : MW w p bad bs F) (size n : Int) (hbd : bs.length ≤ 1000000) :
    Calls Try.prog 27 #[.pointer (some ⟨p, 0, none⟩), .int .i64 size, .int .i64 n] w fun e w' => e = .returned (.tuple #[]) ∧ ∃ F', MW w' p (mNum size n (bad, bs)).1 (mNum size n (bad, bs)).2 F' ∧ After w w' F F' := by
  obtain ⟨i0, hi, hz0, hz1, hz2⟩ := info_parts Oct.info5
  have hsb := h.setBad true
  have hmb : After w (w.setCell ⟨p, 1, none⟩ (.bool true)) F F := ⟨Mod.setCell w _ _ h.self, fun _ e => .inl e⟩
  have h0 := h
  obtain ⟨v, h1, h2, h3, h4, h5⟩ := h
  have hp := h5 p h3
  have c1 := h1.cell 1 rfl
  have d1 := h1.free 1
  by_cases hok : sizeOk size = true
  · have hs : 1 ≤ size ∧ size ≤ 7 := by simpa [sizeOk] using hok
    obtain ⟨hs1, hs2⟩ := hs
    by_cases hf : fits size.toNat n = true
    · have e0 : mNum size n (bad, bs) = (bad, bs ++ digs n size.toNat) := by simp [mNum, hok, hf]
      rw [e0]
      have hn0 : 0 ≤ n := by simp [fits] at hf; exact hf.1
      have hz : (n / 2 ^ (8 * size).toNat != 0) = false := by
        have := shift_zero size.toNat n hn0
        rw [hf, show 8 * size.toNat = (8 * size).toNat by omega] at this
        simpa using this
      clear c1 d1 h1 h2 h4 h5
      go_enter Try.func27, Try.ntmps27
      go_wp2_with (go_at_call 45; refine (msize_any _ _).mono ?_; rintro e w' ⟨rfl, rfl⟩)
      go_loopw [6] (fun i wr => ∃ (j : Nat) (P : List Int) (Fj : Nat → Prop), (j : Int) ≤ size ∧ i = .int .i64 ((j : Int) - 1) ∧ MW wr p bad (bs ++ P) Fj ∧ After w wr F Fj ∧ P ++ digs n j = digs n size.toNat)
        (fun i _ => (intOf i + 1).toNat)
      case atStart => exact ⟨size.toNat, [], F, by omega, by rw [Int.toNat_of_nonneg (by omega)], by simpa using h0, After.refl _ _, by simp⟩
      case round =>
        obtain ⟨j, P, Fj, hj, rfl, hWj, hAj, hD⟩ := hrel
        by_cases hj0 : 1 ≤ j
        · obtain ⟨a, rfl⟩ : ∃ a, j = a + 1 := ⟨j - 1, by omega⟩
          have e1 : ((a + 1 : Nat) : Int) - 1 = (a : Int) := by omega
          rw [e1]
          clear e1
          have ha1 : (a : Int) < 7 := by omega
          obtain ⟨v, h1, h2, h3, h4, h5⟩ := hWj
          have hpp := h5 p h3
          have c0 : wr.cell? ⟨p, 0, none⟩ = some v := h1.cell 0 rfl
          have d0 := h1.free 0
          have e8 : IntKind.i64.wrap (8 * (a : Int)) = 8 * (a : Int) := IntWalk.i64_in _ (by omega)
          have hPl : P.length ≤ 7 := by have := congrArg List.length hD; simp [digs_length] at this; omega
          have hm1 : (bs ++ P).length + 1 ≤ maxLen := by simp; unfold maxLen; omega
          have hm2 : ((bs ++ P).length + 1) * 1 ≤ 140737488355328 := by simp; omega
          go_wp2_with fail
          go_region_law (
            refine step_append_any rfl (.tmp 34) (.tmp 40) 27 rfl 5 i0 (.int .u8 0) 1 1 Try.underlying27 hi hz0 hz1 hz2 rfl (by decide) v (bs ++ P).length ((bs ++ P).map (Value.int .u8)) (by simp [Act.eval]) (by exact (World.ownsRow.alloc h2 _).drew)
              (.slice (some ⟨wr.heap.size, 0, none⟩) 1 1) 1 [.int .u8 (IntKind.u8.wrap (n / 2 ^ (8 * (a : Int)).toNat))] (by simp [Act.eval]) (by exact (Rd.one wr _ _).drew) (by simp [Value.oneCell']) hm1 hm2 ?_
            intro v' w' hap
            obtain ⟨a1, k1, rfl⟩ := hap.form
            have hb1 : Blk w' p 64 [v, .bool bad] := (h1.alloc _).drew.keep hap.mod (fun e => (h4 p e).2 rfl)
            have c1' : w'.cell? ⟨p, 0, none⟩ = some v := hb1.cell 0 rfl
            have d1' := hb1.free 0)
          all_goals
            go_wp2
            go_roundw
            case rel =>
              obtain ⟨F', hW', hA'⟩ := MW.pushed (new := [IntKind.u8.wrap (n / 2 ^ (8 * (a : Int)).toNat)]) h1 h3 h4 (((Mod.refl _ _).thenAlloc _).thenDrew) hap
              have hx : IntKind.u8.wrap (n / 2 ^ (8 * (a : Int)).toNat) = n / 2 ^ (8 * a) % 256 := by
                rw [show (8 * (a : Int)).toNat = 8 * a by omega]; rfl
              rw [hx] at hW'
              simp only [List.length_append] at hA' hW'
              refine ⟨a, P ++ [n / 2 ^ (8 * a) % 256], F', by omega, rfl, ?_, hAj.trans hA', by simpa [digs] using hD⟩
              simpa using hW'
            case measure => simp [intOf]
        · obtain rfl : j = 0 := by omega
          go_wp2
          go_end0
          have hP : P = digs n size.toNat := by simpa [digs] using hD
          subst hP
          exact ⟨rfl, Fj, hWj, hAj⟩
    · have e0 : mNum size n (bad, bs) = (true, bs) := by simp [mNum, hf]
      rw [e0]
      by_cases hn0 : 0 ≤ n
      · have hz : (n / 2 ^ (8 * size).toNat != 0) = true := by
          have := shift_zero size.toNat n hn0
          simp only [Bool.not_eq_true] at hf
          rw [hf, show 8 * size.toNat = (8 * size).toNat by omega] at this
          simpa using this
        go_enter Try.func27, Try.ntmps27
        go_wp2_with (go_at_call 45; refine (msize_any _ _).mono ?_; rintro e w' ⟨rfl, rfl⟩)
        refine bodyPost_ret (results_none rfl _ _ _) rfl ?_
        exact ⟨rfl, F, hsb, hmb⟩
      · go_enter Try.func27, Try.ntmps27
        go_wp2_with (go_at_call 45; refine (msize_any _ _).mono ?_; rintro e w' ⟨rfl, rfl⟩)
        refine bodyPost_ret (results_none rfl _ _ _) rfl ?_
        exact ⟨rfl, F, hsb, hmb⟩
  · simp only [Bool.not_eq_true] at hok
    have e0 : mNum size n (bad, bs) = (true, bs) := by simp [mNum, hok]
    rw [e0]
    go_enter Try.func27, Try.ntmps27
    go_wp2_with (go_at_call 45; refine (msize_any _ _).mono ?_; rintro e w' ⟨rfl, rfl⟩)
    refine bodyPost_ret (results_none rfl _ _ _) rfl ?_
    exact ⟨rfl, F, hsb, hmb⟩

end Go.Proofs.Ytabfmnlpipbegaa
