/- Contracts of package octets (its Writer): what each method comes to, and which blocks it may turn. -/
import Derived.Test.YtabfmnlpipbegaaRows
import Derived.Test.YtabfmnlpipbegaaBase
import Derived.Test.YtabfmnlpipbegaaPlain
namespace Go.Proofs.Ytabfmnlpipbegaa
open Go.RowKit Mile
set_option maxRecDepth 100000

theorem Oct.info5 : (Try.prog.info? 5).map (fun i => (i.zero, i.size, i.bytes)) = some (some (.int .u8 0), 1, 1) := by kernel_rfl

theorem sizeFits_any (n : Int) (w : World) : Calls Try.prog 41 #[.int .i64 n] w fun e w' => e = .returned (.bool (sizeOk n)) ∧ w = w' := by
  by_cases h1 : 1 ≤ n
  · by_cases h2 : n ≤ 7
    · go_enter Try.func41, Try.ntmps41
      go_wp2
      go_ret
      exact ⟨by simp [sizeOk, h1, h2], rfl⟩
    · go_enter Try.func41, Try.ntmps41
      go_wp2
      go_ret
      exact ⟨by simp [sizeOk, h2], rfl⟩
  · go_enter Try.func41, Try.ntmps41
    go_wp2
    go_ret
    exact ⟨by simp [sizeOk]; omega, rfl⟩

theorem shift_zero (s : Nat) (n : Int) (h : 0 ≤ n) : (n / 2 ^ (8 * s) == 0) = fits s n := by
  have hp : (0 : Int) < 2 ^ (8 * s) := Int.pow_pos (by omega)
  unfold fits
  by_cases hn : n < 2 ^ (8 * s)
  · rw [Int.ediv_eq_zero_of_lt h hn]; simp [h, hn]
  · have : n / 2 ^ (8 * s) ≠ 0 := by
      intro e
      have := Int.lt_mul_of_ediv_lt hp (show n / 2 ^ (8 * s) < 1 by omega)
      omega
    simp [hn, this]

theorem numFits_any (s n : Int) (w : World) (h1 : 1 ≤ s) (h2 : s ≤ 7) : Calls Try.prog 43 #[.int .i64 s, .int .i64 n] w fun e w' => e = .returned (.bool (fits s.toNat n)) ∧ w = w' := by
  by_cases h0 : 0 ≤ n
  · have hz := shift_zero s.toNat n h0
    rw [show 8 * s.toNat = (8 * s).toNat by omega] at hz
    go_enter Try.func43, Try.ntmps43
    go_wp2
    go_ret
    exact ⟨rfl, rfl⟩
  · have hz : fits s.toNat n = false := by simp [fits]; omega
    go_enter Try.func43, Try.ntmps43
    go_wp2
    go_ret
    exact ⟨rfl, rfl⟩

/-- An octets.Writer at block p: its bytes (none: it is spoilt). F: the blocks that are its own. -/
def Wr (w : World) (p : Nat) (s : Option (List Int)) (F : Nat → Prop) : Prop :=
  ∃ v, Blk w p 59 [v, .bool s.isNone] ∧ w.ownsRow 0 5 1 v (s.getD []).length ((s.getD []).map (Value.int .u8)) ∧
    F p ∧ (∀ k, v.ownBlock = some k → F k ∧ k ≠ p) ∧ (∀ k, F k → k < w.heap.size)

theorem Wr.keep {w w' : World} {p : Nat} {s : Option (List Int)} {F G : Nat → Prop} (h : Wr w p s F) (hm : Mod G w w') (hd : ∀ k, F k → ¬ G k) : Wr w' p s F := by
  obtain ⟨v, h1, h2, h3, h4, h5⟩ := h
  exact ⟨v, h1.keep hm (hd p h3), Own.keep h2 hm (fun k hk => hd k (h4 k hk).1), h3, h4, fun k hk => Nat.lt_of_lt_of_le (h5 k hk) hm.size⟩

/-- What a call on an object leaves: the object anew, its blocks the old ones and new ones. -/
def After (w w' : World) (F F' : Nat → Prop) : Prop := Mod F w w' ∧ ∀ k, F' k → F k ∨ w.heap.size ≤ k

theorem After.refl (w : World) (F : Nat → Prop) : After w w F F := ⟨Mod.refl _ _, fun _ e => .inl e⟩
theorem After.trans {a b c : World} {F G H : Nat → Prop} (h : After a b F G) (k : After b c G H) : After a c F H :=
  ⟨h.1.trans k.1 (fun _ _ e => e) (fun i hi e => (h.2 i e).elim id (fun h' => absurd hi (by omega))), fun i e => (k.2 i e).elim (h.2 i) (fun h' => .inr (by have := h.1.size; omega))⟩

/-- Behind an append that is stored into the Writer. -/
theorem Wr.pushed {w w0 w' : World} {p : Nat} {bs new : List Int} {v v' : Value} {F : Nat → Prop} {n' : Nat} (h1 : Blk w p 59 [v, .bool false]) (h3 : F p) (h4 : ∀ k, v.ownBlock = some k → F k ∧ k ≠ p) (hm : Mod (fun _ => False) w w0)
    (hap : Appended w0 w' 5 1 v v' n' (bs.map (Value.int .u8) ++ new.map (Value.int .u8))) :
    ∃ F', Wr (w'.setCell ⟨p, 0, none⟩ v') p (some (bs ++ new)) F' ∧ After w (w'.setCell ⟨p, 0, none⟩ v') F F' := by
  have hlen : n' = (bs ++ new).length := by have := hap.own.1; simp at this; simp [this]
  have hm2 := hap.mod
  have hsz : w.heap.size ≤ w'.heap.size := Nat.le_trans hm.size hm2.size
  have hpv : v'.ownBlock ≠ some p := by
    intro e
    rcases hap.row p e with h | h
    · exact (h4 p h).2 rfl
    · have := h1.lt; have := hm.size; omega
  have hb : Blk w' p 59 [v, .bool false] := (h1.keep hm (fun e => e)).keep hm2 (fun e => (h4 p e).2 rfl)
  subst hlen
  refine ⟨fun k => k = p ∨ v'.ownBlock = some k, ⟨v', hb.set 0 v', ?_, .inl rfl, fun k hk => ⟨.inr hk, fun e => hpv (e ▸ hk)⟩, ?_⟩, ?_, ?_⟩
  · have ho := Own.keep hap.own (Mod.setCell (F := fun k => k = p) w' ⟨p, 0, none⟩ v' rfl) (fun k hk e => hpv (e ▸ hk))
    simpa using ho
  · rintro k (rfl | hk)
    · simpa using hb.lt
    · simpa using Own.lt hap.own hk
  · exact ((hm.trans hm2 (H := F) (fun _ _ e => e.elim) (fun i _ e => (h4 i e).1))).thenSet _ _ (fun _ => h3)
  · rintro k (rfl | hk)
    · exact .inl h3
    · rcases hap.row k hk with h | h
      · exact .inl (h4 k h).1
      · exact .inr (Nat.le_trans hm.size h)

theorem spoil_any (p : Nat) (w : World) (s : Option (List Int)) (F : Nat → Prop) (h : Wr w p s F) :
    Calls Try.prog 42 #[.pointer (some ⟨p, 0, none⟩)] w fun e w' => e = .returned (.pointer (some ⟨p, 0, none⟩)) ∧ Wr w' p none F ∧ After w w' F F := by
  obtain ⟨v, h1, h2, h3, h4, h5⟩ := h
  have f0 := h1.cell 0 rfl
  have f1 := h1.cell 1 rfl
  have g0 := h1.free 0
  have g1 := h1.free 1
  go_enter Try.func42, Try.ntmps42
  go_wp2
  go_ret
  refine ⟨rfl, ⟨.slice none 0 0, ?_, World.ownsRow_nil _ _ _ _, h3, by simp [Value.ownBlock], fun k hk => by simpa using h5 k hk⟩, ?_, fun k hk => .inl hk⟩
  · exact (h1.set 0 (.slice none 0 0)).set 1 (.bool true)
  · exact ((Mod.refl F w).thenSet _ _ (fun _ => h3)).thenSet _ _ (fun _ => h3)

end Go.Proofs.Ytabfmnlpipbegaa
