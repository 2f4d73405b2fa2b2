/- Contracts of the document's own answer for octets (milepostref1's Reader and Size). -/
import Derived.Test.YtabfmnlpipbegaaAwake1
import Derived.Test.YtabfmnlpipbegaaBase2
namespace Go.Proofs.Ytabfmnlpipbegaa
open Go.RowKit Mile
set_option maxRecDepth 100000

theorem msize_any (n : Int) (w : World) : Calls Try.prog 45 #[.int .i64 n] w fun e w' => e = .returned (.bool (sizeOk n)) ∧ w = w' := by
  by_cases h1 : 1 ≤ n
  · by_cases h2 : n ≤ 7
    · go_enter Try.func45, Try.ntmps45
      go_wp2
      go_ret
      exact ⟨by simp [sizeOk, h1, h2], rfl⟩
    · go_enter Try.func45, Try.ntmps45
      go_wp2
      go_ret
      exact ⟨by simp [sizeOk, h2], rfl⟩
  · go_enter Try.func45, Try.ntmps45
    go_wp2
    go_ret
    exact ⟨by simp [sizeOk]; omega, rfl⟩

/-- A milepostref1.Reader at block p; its bytes lie below block B, where there are any. -/
def MR (w : World) (p : Nat) (s : Option (List Int)) (B : Nat) : Prop :=
  ∃ v bs, Blk w p 69 [v, .bool s.isNone] ∧ Rd w 1 v bs.length (bs.map (Value.int .u8)) ∧ (s = none ∨ s = some bs) ∧ B ≤ p ∧ (∀ k, v.ownBlock = some k → B ≤ k → bs = [])

theorem MR.keep {w w' : World} {p : Nat} {s : Option (List Int)} {B : Nat} {G : Nat → Prop} (h : MR w p s B) (hm : Mod G w w') (hp : ¬ G p) (hB : ∀ k, G k → B ≤ k) : MR w' p s B := by
  obtain ⟨v, bs, h1, h2, h3, h4, h5⟩ := h
  exact ⟨v, bs, h1.keep hm hp, h2.keepA hm (fun k hk hg => by rw [h5 k hk (hB k hg)]; rfl), h3, h4, h5⟩

theorem mleft_any (p : Nat) (w : World) (s : Option (List Int)) (B : Nat) (h : MR w p s B) :
    Calls Try.prog 40 #[.pointer (some ⟨p, 0, none⟩)] w fun e w' => e = .returned (.int .i64 (s.getD []).length) ∧ w = w' := by
  obtain ⟨v, bs, h1, h2, h3, _⟩ := h
  obtain ⟨_, a, c, rfl, _⟩ := h2
  have f0 := h1.cell 0 rfl
  have f1 := h1.cell 1 rfl
  rcases h3 with rfl | rfl
  all_goals
    go_enter Try.func40, Try.ntmps40
    go_wp2
    go_ret
    exact ⟨rfl, rfl⟩

theorem mdone_any (p : Nat) (w : World) (s : Option (List Int)) (B : Nat) (h : MR w p s B) :
    Calls Try.prog 31 #[.pointer (some ⟨p, 0, none⟩)] w fun e w' => e = .returned (.bool (decide (s = some []))) ∧ w = w' := by
  obtain ⟨v, bs, h1, h2, h3, _⟩ := h
  obtain ⟨_, a, c, rfl, _⟩ := h2
  have f0 := h1.cell 0 rfl
  have f1 := h1.cell 1 rfl
  rcases h3 with rfl | rfl
  · go_enter Try.func31, Try.ntmps31
    go_wp2
    go_ret
    exact ⟨rfl, rfl⟩
  · match bs with
    | [] =>
      go_enter Try.func31, Try.ntmps31
      go_wp2
      go_ret
      exact ⟨by simp, rfl⟩
    | b :: l =>
      have hl : (((b :: l).length : Nat) : Int) ≠ 0 := by simp; omega
      have hl2 : ((((b :: l).length : Nat) : Int) == 0) = false := by simpa using hl
      generalize (b :: l).length = n at *
      go_enter Try.func31, Try.ntmps31
      go_wp2
      go_ret
      exact ⟨by simp, rfl⟩

/-- The Reader is spoilt: Bad alone is stored. -/
theorem MR.spoilt {w : World} {p : Nat} {s : Option (List Int)} {B : Nat} (h : MR w p s B) : MR (w.setCell ⟨p, 1, none⟩ (.bool true)) p none B := by
  obtain ⟨v, bs, h1, h2, h3, h4, h5⟩ := h
  exact ⟨v, bs, h1.set 1 (.bool true), h2.keepA (Mod.setCell (F := fun k => k = p) w ⟨p, 1, none⟩ _ rfl) (fun k hk e => by rw [h5 k hk (by omega)]; rfl), .inl rfl, h4, h5⟩

theorem takeS_none (n : Int) : takeS n none = ([], none) := by
  unfold takeS
  split
  · rename_i h
    have : n.toNat = 0 := by simp at h; omega
    simp
  · rfl

set_option maxHeartbeats 1000000 in
theorem mnum_any (p : Nat) (w : World) (s : Option (List Int)) (B : Nat) (h : MR w p s B) (hr : ∀ b ∈ s.getD [], 0 ≤ b ∧ b < 256) (size : Int) :
    Calls Try.prog 30 #[.pointer (some ⟨p, 0, none⟩), .int .i64 size] w fun e w' =>
      e = .returned (.int .i64 (numR size s).1) ∧ MR w' p (numR size s).2 B ∧ Mod (fun k => k = p) w w' := by
  obtain ⟨i0, hi, hz0, hz1, hz2⟩ := info_parts Oct.info5
  have hsp := h.spoilt
  have hmd : Mod (fun k => k = p) w (w.setCell ⟨p, 1, none⟩ (.bool true)) := Mod.setCell w _ _ rfl
  obtain ⟨v, bs, h1, h2, h3, h4, h5⟩ := h
  have hplt := h1.lt
  obtain ⟨a, c, rfl⟩ : ∃ a c, v = .slice a bs.length c := by obtain ⟨_, a, c, rfl, _⟩ := h2; exact ⟨a, c, rfl⟩
  have f0 := h1.cell 0 rfl
  have f1 := h1.cell 1 rfl
  have g0 := h1.free 0
  have g1 := h1.free 1
  rcases h3 with rfl | rfl
  · have e0 : numR size none = (0, none) := by unfold numR; rw [takeS_none]; split <;> rfl
    rw [e0]
    go_enter Try.func30, Try.ntmps30
    go_wp2
    go_ret
    exact ⟨rfl, hsp, hmd⟩
  · by_cases hok : sizeOk size = true
    · have hs : 1 ≤ size ∧ size ≤ 7 := by simpa [sizeOk] using hok
      by_cases hfit : size ≤ (bs.length : Int)
      · obtain ⟨m, rfl⟩ := Int.eq_ofNat_of_zero_le (show 0 ≤ size by omega)
        have hm : m ≤ bs.length := by omega
        have e0 : numR (m : Int) (some bs) = (undigs 0 (bs.take m), some (bs.drop m)) := by
          simp [numR, hok, takeS, hm]
        rw [e0]
        have r2 := fun wx => run_dropS (P := Try.prog) wx 27 5 i0 1 Try.underlying27 hi hz1 a bs.length c m hm
        have hlt2 : ¬ ((bs.length : Int) < (m : Int)) := by omega
        have hr2 : ∀ b ∈ bs.take m, 0 ≤ b ∧ b < 256 := fun b hb => hr b (by simpa using List.mem_of_mem_take hb)
        have h2d := h2.drop hm
        go_enter Try.func30, Try.ntmps30
        go_wp2_with (go_at_call 45; refine (msize_any _ _).mono ?_; rintro e w' ⟨rfl, rfl⟩)
        go_loop [5, 6] (fun n i => ∃ k : Nat, k ≤ m ∧ i = .int .i64 k ∧ n = .int .i64 (undigs 0 ((bs.take m).take k))) (fun _ i => m - (intOf i).toNat)
        case atStart => exact ⟨0, Nat.zero_le _, rfl, rfl⟩
        case round =>
          obtain ⟨k, hk, rfl, rfl⟩ := hrel
          by_cases hlt : k < m
          · have hkl : k < bs.length := by omega
            have hix := fun wx => run_indexS (P := Try.prog) wx 27 5 i0 1 Try.underlying27 hi hz1 a bs.length c k hkl (h2.some_ (by omega))
            have hcell : w.cell? (elemA a k 1) = some (.int .u8 bs[k]) := h2.elem (by simp [hkl])
            have hb := hr2 bs[k] (by rw [List.mem_take_iff_getElem]; exact ⟨k, by omega, rfl⟩)
            have hkt : k < (bs.take m).length := by rw [List.length_take]; omega
            have hst := undigs_take (bs.take m) k hkt
            rw [List.getElem_take] at hst
            have hp6 := pow256_le ((bs.take m).take k).length (by rw [List.length_take, List.length_take]; omega)
            have hu0 := undigs_nonneg ((bs.take m).take k) 0 (by omega) (fun c hc => hr2 c (List.mem_of_mem_take hc))
            have hu1 := undigs_bound ((bs.take m).take k) 0 (by omega) (fun c hc => hr2 c (List.mem_of_mem_take hc))
            generalize undigs 0 ((bs.take m).take k) = U at *
            have HST := Lib.hid hst
            have hu2 : U < 281474976710656 := by omega
            clear hst hu1 hp6
            go_wp2
            go_round
            case rel => exact ⟨k + 1, hlt, by go_num, by rw [HST.out, or_byte U _ hu0 (by omega) hb.1 hb.2]⟩
            case measure => simp [intOf]; omega
          · obtain rfl : k = m := by omega
            go_wp2
            go_ret
            have hkeep := h2d.keepA (Mod.setCell (F := fun x => x = p) w ⟨p, 0, none⟩ (.slice (dropA a c k 1) (bs.length - k) (c - k)) rfl) (fun x hx e => by
              have hown : (Value.slice a bs.length c).ownBlock = some x := by rw [← hx]; exact (dropA_own a c k 1 _ _ _ _).symm
              rw [h5 x hown (by omega)]; simp)
            refine ⟨by rw [List.take_take, Nat.min_self]; rfl, ⟨.slice (dropA a c k 1) (bs.length - k) (c - k), bs.drop k, h1.set 0 _, ?_, .inr rfl, h4, ?_⟩, Mod.setCell w _ _ rfl⟩
            · simpa [List.map_drop] using hkeep
            · intro x hx hBx
              have hown : (Value.slice a bs.length c).ownBlock = some x := by rw [← hx]; exact (dropA_own a c k 1 _ _ _ _).symm
              rw [h5 x hown hBx]; simp
      · have e0 : numR size (some bs) = (0, none) := by
          simp only [numR, hok, if_true, takeS, Option.getD_some]
          rw [if_neg (by omega)]; rfl
        rw [e0]
        have hlt2 : (bs.length : Int) < size := by omega
        go_enter Try.func30, Try.ntmps30
        go_wp2_with (go_at_call 45; refine (msize_any _ _).mono ?_; rintro e w' ⟨rfl, rfl⟩)
        go_ret
        exact ⟨rfl, hsp, hmd⟩
    · simp only [Bool.not_eq_true] at hok
      have e0 : numR size (some bs) = (0, none) := by simp [numR, hok]
      rw [e0]
      go_enter Try.func30, Try.ntmps30
      go_wp2_with (go_at_call 45; refine (msize_any _ _).mono ?_; rintro e w' ⟨rfl, rfl⟩)
      go_ret
      exact ⟨rfl, hsp, hmd⟩

end Go.Proofs.Ytabfmnlpipbegaa
