/- Contract of package graph's look at whether a graph may be. -/
import Derived.Test.YtdccpikddhpleaaGr2
namespace Go.Proofs.Ytdccpikddhpleaa
open Go.RowKit Mile
set_option maxRecDepth 100000

/-- A look that tells whether P holds, and changes nothing that was there. -/
def FitP (P : Prop) (w : World) (e : Ending) (w' : World) : Prop := ∃ r : Bool, e = .returned (.bool r) ∧ (r = true ↔ P) ∧ Mod (fun _ => False) w w'

set_option maxHeartbeats 2000000 in
theorem sizesFit_any (G : GD) (w : World) (a1 : Option Addr) (n1 d1 : Nat) (a2 : Option Addr) (n2 d2 : Nat) (a3 : Option Addr) (n3 d3 : Nat) (h : GV w a1 n1 d1 a2 n2 d2 a3 n3 d3 G) :
    Calls Try.prog 52 #[.agg #[.slice a1 n1 d1, .slice a2 n2 d2, .slice a3 n3 d3]] w (FitP (SizesOk G) w) := by
  have hs : Hid (SizesOk G ↔ (1 ≤ (n1 : Int) ∧ (n1 : Int) ≤ 256) ∧ n2 ≤ 512 ∧ n3 ≤ 1024) := Lib.hid (by unfold SizesOk; rw [h.n, h.e, h.b]; omega)
  clear h
  by_cases c1 : 1 ≤ (n1 : Int) ∧ (n1 : Int) ≤ 256
  · have k1 : decide (1 ≤ (n1 : Int) ∧ (n1 : Int) ≤ 256) = true := by simpa using c1
    by_cases c2 : n2 ≤ 512
    · go_enter Try.func52, Try.ntmps52
      go_wp2_with (go_at_call 63; refine (within_any _ _ _ _).mono ?_; rintro e w' ⟨rfl, rfl⟩; rw [k1])
      go_ret
      exact ⟨decide ((n3 : Int) ≤ 1024), rfl, ⟨fun h => hs.out.2 ⟨c1, c2, (by have h' : (n3 : Int) ≤ 1024 := (by simpa using h); omega)⟩, fun h => by have := (hs.out.1 h).2.2; simp; omega⟩, (Mod.refl _ _).thenAlloc _⟩
    · go_enter Try.func52, Try.ntmps52
      go_wp2_with (go_at_call 63; refine (within_any _ _ _ _).mono ?_; rintro e w' ⟨rfl, rfl⟩; rw [k1])
      go_ret
      exact ⟨false, rfl, ⟨fun h => (by cases h), fun h => absurd (hs.out.1 h).2.1 (by omega)⟩, (Mod.refl _ _).thenAlloc _⟩
  · have k1 : decide (1 ≤ (n1 : Int) ∧ (n1 : Int) ≤ 256) = false := by simpa using c1
    go_enter Try.func52, Try.ntmps52
    go_wp2_with (go_at_call 63; refine (within_any _ _ _ _).mono ?_; rintro e w' ⟨rfl, rfl⟩; rw [k1])
    go_ret
    exact ⟨false, rfl, ⟨fun h => (by cases h), fun h => absurd (hs.out.1 h).1 c1⟩, (Mod.refl _ _).thenAlloc _⟩

theorem _root_.Mile.GV.keep {w w' : World} {a1 : Option Addr} {n1 d1 : Nat} {a2 : Option Addr} {n2 d2 : Nat} {a3 : Option Addr} {n3 d3 : Nat} {G : GD} (h : GV w a1 n1 d1 a2 n2 d2 a3 n3 d3 G) (hm : Mod (fun _ => False) w w') : GV w' a1 n1 d1 a2 n2 d2 a3 n3 d3 G :=
  ⟨h.n, h.e, h.b, h.rn.keepA hm (fun _ _ e => e.elim), h.re.keepA hm (fun _ _ e => e.elim), h.rb.keepA hm (fun _ _ e => e.elim)⟩

set_option maxHeartbeats 2000000 in
theorem fits_any (G : GD) (w : World) (a1 : Option Addr) (n1 d1 : Nat) (a2 : Option Addr) (n2 d2 : Nat) (a3 : Option Addr) (n3 d3 : Nat) (h : GV w a1 n1 d1 a2 n2 d2 a3 n3 d3 G) :
    Calls Try.prog 30 #[.agg #[.slice a1 n1 d1, .slice a2 n2 d2, .slice a3 n3 d3]] w (FitP (May G) w) := by
  have h0 := h.keep (Mod.alloc (fun _ => False) w (.cells #[.slice a1 n1 d1, .slice a2 n2 d2, .slice a3 n3 d3] 26))
  have hA0 := Mod.alloc (fun _ => False) w (.cells #[.slice a1 n1 d1, .slice a2 n2 d2, .slice a3 n3 d3] 26)
  obtain ⟨g, hg⟩ : ∃ g, w.heap.size = g := ⟨_, rfl⟩
  have hb0 : Blk (w.alloc (.cells #[.slice a1 n1 d1, .slice a2 n2 d2, .slice a3 n3 d3] 26)) g 26 [.slice a1 n1 d1, .slice a2 n2 d2, .slice a3 n3 d3] := by rw [← hg]; exact Blk.new w 26 [.slice a1 n1 d1, .slice a2 n2 d2, .slice a3 n3 d3]
  have HC : Hid (∀ W, Mod (fun _ => False) (w.alloc (.cells #[.slice a1 n1 d1, .slice a2 n2 d2, .slice a3 n3 d3] 26)) W → W.cell? ⟨g, 0, none⟩ = some (.slice a1 n1 d1) ∧ W.cell? ⟨g, 1, none⟩ = some (.slice a2 n2 d2) ∧ W.cell? ⟨g, 2, none⟩ = some (.slice a3 n3 d3)) := Lib.hid fun W hm => by
    have := hb0.keep hm (fun e => e)
    exact ⟨this.cell 0 rfl, this.cell 1 rfl, this.cell 2 rfl⟩
  clear hb0
  go_enter Try.func30, Try.ntmps30
  go_wp2_with fail
  clear hg
  obtain ⟨w0, hw0⟩ : ∃ w0, w.alloc (.cells #[.slice a1 n1 d1, .slice a2 n2 d2, .slice a3 n3 d3] 26) = w0 := ⟨_, rfl⟩
  rw [hw0] at h0 hA0 HC ⊢
  clear hw0
  refine (sizesFit_any G _ a1 n1 d1 a2 n2 d2 a3 n3 d3 h0).mono ?_
  rintro e w1 ⟨r1, rfl, h1', hM1'⟩
  have h1 := Lib.hid h1'
  clear h1'
  have hM1 := hA0.trans hM1' (H := fun _ => False) (fun _ _ e => e) (fun _ _ e => e)
  obtain ⟨e0, e1, e2⟩ := HC.out _ hM1'
  cases r1 with
  | false =>
    clear h h0 HC
    go_wp2_with fail
    go_ret
    exact ⟨false, rfl, ⟨fun h => (by cases h), fun hm => (by have := h1.out.2 hm.1; cases this)⟩, hM1⟩
  | true =>
    have hS := h1.out.1 rfl
    have hs1 : n1 ≤ 256 := by have := hS.1.2; rw [h.n] at this; exact this
    have hs2 : n2 ≤ 512 := by have := hS.2.1; rw [h.e] at this; exact this
    have hs3 : n3 ≤ 1024 := by have := hS.2.2; rw [h.b] at this; exact this
    clear h1
    go_wp2_with fail
    refine (nodesFit_any G _ a1 n1 d1 a2 n2 d2 a3 n3 d3 (h.keep hM1) hs1).mono ?_
    rintro e w2 ⟨r2, rfl, h2', hM2⟩
    have h2 := Lib.hid h2'
    clear h2'
    have hM2' := hM1'.trans hM2 (H := fun _ => False) (fun _ _ e => e) (fun _ _ e => e)
    clear e0 e1 e2
    obtain ⟨e0, e1, e2⟩ := HC.out _ hM2'
    have hM12 := hM1.trans hM2 (H := fun _ => False) (fun _ _ e => e) (fun _ _ e => e)
    cases r2 with
    | false =>
      clear h h0 HC
      go_wp2_with fail
      go_ret
      exact ⟨false, rfl, ⟨fun h => (by cases h), fun hm => (by have := h2.out.2 hm.2.1; cases this)⟩, hM12⟩
    | true =>
      have hN := h2.out.1 rfl
      clear h2
      go_wp2_with fail
      refine (edgesFit_any G _ a1 n1 d1 a2 n2 d2 a3 n3 d3 (h.keep hM12) hs1 hs2).mono ?_
      rintro e w3 ⟨r3, rfl, h3', hM3⟩
      have h3 := Lib.hid h3'
      clear h3'
      clear e0 e1 e2
      obtain ⟨e0, e1, e2⟩ := HC.out _ (hM2'.trans hM3 (H := fun _ => False) (fun _ _ e => e) (fun _ _ e => e))
      have hM13 := hM12.trans hM3 (H := fun _ => False) (fun _ _ e => e) (fun _ _ e => e)
      cases r3 with
      | false =>
        clear h h0 HC
        go_wp2_with fail
        go_ret
        exact ⟨false, rfl, ⟨fun h => (by cases h), fun hm => (by have := h3.out.2 hm.2.2.1; cases this)⟩, hM13⟩
      | true =>
        have hE := h3.out.1 rfl
        clear h3
        go_wp2_with fail
        refine (bansFit_any G _ a1 n1 d1 a2 n2 d2 a3 n3 d3 (h.keep hM13) hs2 hs3).mono ?_
        rintro e w4 ⟨r4, rfl, h4', hM4⟩
        have h4 := Lib.hid h4'
        clear h4'
        have hM14 := hM13.trans hM4 (H := fun _ => False) (fun _ _ e => e) (fun _ _ e => e)
        go_wp2_with fail
        go_ret
        exact ⟨r4, rfl, ⟨fun h => ⟨hS, hN, hE, h4.out.1 h⟩, fun hm => h4.out.2 hm.2.2.2⟩, hM14⟩
end Go.Proofs.Ytdccpikddhpleaa
