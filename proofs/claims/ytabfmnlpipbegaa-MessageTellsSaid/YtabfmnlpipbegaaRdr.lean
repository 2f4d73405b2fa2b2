/- Contracts of package octets: the Reader. -/
import Derived.Test.YtabfmnlpipbegaaRaw
namespace Go.Proofs.Ytabfmnlpipbegaa
open Go.RowKit Mile
set_option maxRecDepth 100000

/-- An octets.Reader at block p: the bytes that are left (none: it is spoilt). F: the blocks that are its own. -/
def Rdr (w : World) (p : Nat) (s : Option (List Int)) (F : Nat → Prop) : Prop :=
  ∃ v, Blk w p 93 [v, .bool s.isNone] ∧ Rd w 1 v (s.getD []).length ((s.getD []).map (Value.int .u8)) ∧
    F p ∧ (∀ k, v.ownBlock = some k → F k ∧ k ≠ p) ∧ (∀ k, F k → k < w.heap.size)

theorem Rdr.keep {w w' : World} {p : Nat} {s : Option (List Int)} {F G : Nat → Prop} (h : Rdr w p s F) (hm : Mod G w w') (hd : ∀ k, F k → ¬ G k) : Rdr w' p s F := by
  obtain ⟨v, h1, h2, h3, h4, h5⟩ := h
  exact ⟨v, h1.keep hm (hd p h3), h2.keep hm (fun k hk => hd k (h4 k hk).1), h3, h4, fun k hk => Nat.lt_of_lt_of_le (h5 k hk) hm.size⟩

def takeS (n : Int) (s : Option (List Int)) : List Int × Option (List Int) :=
  if 0 ≤ n ∧ n ≤ (s.getD []).length then ((s.getD []).take n.toNat, s.map (·.drop n.toNat)) else ([], none)

theorem rspoil_any (p : Nat) (w : World) (s : Option (List Int)) (F : Nat → Prop) (h : Rdr w p s F) :
    Calls Try.prog 54 #[.pointer (some ⟨p, 0, none⟩)] w fun e w' => e = .returned (.tuple #[]) ∧ Rdr w' p none F ∧ Mod (fun k => k = p) w w' := by
  obtain ⟨v, h1, h2, h3, h4, h5⟩ := h
  have f0 := h1.cell 0 rfl
  have f1 := h1.cell 1 rfl
  have g0 := h1.free 0
  have g1 := h1.free 1
  go_enter Try.func54, Try.ntmps54
  go_wp2
  go_end0
  refine ⟨rfl, ⟨.slice none 0 0, ?_, Rd.nil _ _, h3, by simp [Value.ownBlock], fun k hk => by simpa using h5 k hk⟩, ?_⟩
  · exact (h1.set 0 (.slice none 0 0)).set 1 (.bool true)
  · exact ((Mod.refl (fun k => k = p) w).thenSet ⟨p, 0, none⟩ _ (fun _ => rfl)).thenSet ⟨p, 1, none⟩ _ (fun _ => rfl)

theorem rspoil_nil (w : World) :
    Calls Try.prog 54 #[.pointer none] w fun e w' => e = .returned (.tuple #[]) ∧ w = w' := by
  go_enter Try.func54, Try.ntmps54
  go_wp2
  go_end0
  exact ⟨rfl, rfl⟩

theorem take_nil (w : World) (n : Int) :
    Calls Try.prog 55 #[.pointer none, .int .i64 n] w fun e w' => e = .returned (.slice none 0 0) ∧ w = w' := by
  go_enter Try.func55, Try.ntmps55
  go_wp2_with (go_at_call 54; refine (rspoil_nil _).mono ?_; rintro e w' ⟨rfl, rfl⟩)
  go_ret
  exact ⟨rfl, rfl⟩

theorem take_any (p : Nat) (w : World) (s : Option (List Int)) (F : Nat → Prop) (h : Rdr w p s F) (n : Int) :
    Calls Try.prog 55 #[.pointer (some ⟨p, 0, none⟩), .int .i64 n] w fun e w' =>
      ∃ v', e = .returned v' ∧ Rd w' 1 v' (takeS n s).1.length ((takeS n s).1.map (Value.int .u8)) ∧ (∀ k, v'.ownBlock = some k → F k ∧ k ≠ p) ∧ Rdr w' p (takeS n s).2 F ∧ Mod (fun k => k = p) w w' := by
  obtain ⟨i0, hi, hz0, hz1, hz2⟩ := info_parts Oct.info5
  have h0 := h
  obtain ⟨v, h1, h2, h3, h4, h5⟩ := h
  have f0 := h1.cell 0 rfl
  have g0 := h1.free 0
  have hp := h5 p h3
  have h2' := h2
  obtain ⟨hl, a, c, rfl, hc1, hc2, hc3, hc4⟩ := h2
  by_cases hb : 0 ≤ n ∧ n ≤ (s.getD []).length
  · have et : takeS n s = ((s.getD []).take n.toNat, s.map (·.drop n.toNat)) := by simp only [takeS, if_pos hb]
    rw [et]
    obtain ⟨hb0, hb1⟩ := hb
    obtain ⟨m, rfl⟩ := Int.eq_ofNat_of_zero_le hb0
    have hm : m ≤ (s.getD []).length := by omega
    have r1 := fun wx => run_takeS (P := Try.prog) wx 27 5 i0 Try.underlying27 hi a (s.getD []).length c m (by omega)
    have r2 := fun wx => run_dropS (P := Try.prog) wx 27 5 i0 1 Try.underlying27 hi hz1 a (s.getD []).length c m (by omega)
    generalize hL : s.getD [] = L at *
    have hbn : ¬ ((L.length : Int) < (m : Int)) := by omega
    go_enter Try.func55, Try.ntmps55
    go_wp2
    go_ret
    have e1 : (s.map (·.drop m)).isNone = s.isNone := by cases s <;> rfl
    have e2 : (s.map (·.drop m)).getD [] = L.drop m := by subst hL; cases s <;> simp
    have hb1 := h1.set 0 (.slice (dropA a c m 1) (L.length - m) (c - m))
    have h4' : ∀ k, (Value.slice a m c).ownBlock = some k → F k ∧ k ≠ p := fun k hk => h4 k (by rw [← hk]; exact own_slice a _ _ _ _)
    refine ⟨.slice a m c, rfl, ?_, h4', ⟨.slice (dropA a c m 1) (L.length - m) (c - m), ?_, ?_, h3, ?_, ?_⟩, (Mod.refl (fun k => k = p) w).thenSet ⟨p, 0, none⟩ _ (fun _ => rfl)⟩
    · have := (h2'.take hm).keep (Mod.setCell (F := fun k => k = p) w ⟨p, 0, none⟩ (.slice (dropA a c m 1) (L.length - m) (c - m)) rfl) (fun k hk => (h4' k hk).2)
      simpa [List.map_take, Nat.min_eq_left hm] using this
    · simpa [e1] using hb1
    · have := (h2'.drop hm).keep (Mod.setCell (F := fun k => k = p) w ⟨p, 0, none⟩ (.slice (dropA a c m 1) (L.length - m) (c - m)) rfl) (fun k hk => (h4 k (by rw [← hk]; exact (dropA_own a c m 1 _ _ _ _).symm)).2)
      simpa [e2, List.map_drop] using this
    · exact fun k hk => h4 k (by rw [← hk]; exact (dropA_own a c m 1 _ _ _ _).symm)
    · exact fun k hk => by simpa using h5 k hk
  · have et : takeS n s = ([], none) := by simp only [takeS, if_neg hb]
    rw [et]
    by_cases hn : n < 0
    · go_enter Try.func55, Try.ntmps55
      go_wp2_with (go_at_call 54; refine (rspoil_any p _ _ _ h0).mono ?_; rintro e w' ⟨rfl, hR, hM⟩)
      go_ret
      exact ⟨_, rfl, Rd.nil _ _, by simp [Value.ownBlock], hR, hM⟩
    · have hn2 : ((s.getD []).length : Int) < n := by omega
      go_enter Try.func55, Try.ntmps55
      go_wp2_with (go_at_call 54; refine (rspoil_any p _ _ _ h0).mono ?_; rintro e w' ⟨rfl, hR, hM⟩)
      go_ret
      exact ⟨_, rfl, Rd.nil _ _, by simp [Value.ownBlock], hR, hM⟩

end Go.Proofs.Ytabfmnlpipbegaa
