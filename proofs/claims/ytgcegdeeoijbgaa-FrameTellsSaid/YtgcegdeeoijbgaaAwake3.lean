/- What the laws of frame ask of the program each time. -/
import Derived.Test.YtgcegdeeoijbgaaFr3
import Derived.StillTailTactics
namespace Go.Proofs.Ytgcegdeeoijbgaa
open Go.RowKit Mile

theorem wrapS_some {kind : Int} {body : List Int} (h : 0 ≤ kind ∧ kind < 256) (hl : body.length ≤ 2000) : wrapS kind body = some (frL (hdL kind body)) := by unfold wrapS; rw [if_pos ⟨h, hl⟩]
/-- Wrap of what may be. -/
theorem wrap_ok (w : World) (kind : Int) (hk : 0 ≤ kind ∧ kind < 256) (a : Option Addr) (n c : Nat) (body : List Int) (hn : body.length = n) (hr : Rd w 1 (.slice a n c) n (body.map (Value.int .u8))) (hb : ∀ x ∈ body, 0 ≤ x ∧ x < 256) (hs : n ≤ 2000) :
    Calls Try.prog 9 #[.int .i64 kind, .slice a n c] w fun e w' => ∃ a' c', e = .returned (.tuple #[.slice a' (n + 9) c', .int .i64 0]) ∧ w'.ownsRow w.heap.size 5 1 (.slice a' (n + 9) c') (n + 9) ((frL (hdL kind body)).map (Value.int .u8)) ∧ Mod (fun _ => False) w w' :=
  (wrap_any w kind a n c body hn hr hb).mono fun e w' h => by
    obtain ⟨v', h1, h2, h3, a', c', h4⟩ := h
    rw [wrapS_some hk (by omega)] at h1 h2 h4
    have hl : (frL (hdL kind body)).length = n + 9 := by rw [fr_len, hd_len, hn]
    simp only [Option.getD_some] at h2 h4
    rw [hl] at h4
    subst h4
    unfold Fresh at h2
    rw [hl] at h2
    exact ⟨a', c', h1, h2, h3⟩
theorem wrap_no (w : World) (kind : Int) (a : Option Addr) (n c : Nat) (body : List Int) (hn : body.length = n) (hr : Rd w 1 (.slice a n c) n (body.map (Value.int .u8))) (hb : ∀ x ∈ body, 0 ≤ x ∧ x < 256) (hs : ¬ ((0 ≤ kind ∧ kind < 256) ∧ n ≤ 2000)) :
    Calls Try.prog 9 #[.int .i64 kind, .slice a n c] w fun e w' => ∃ a' c', e = .returned (.tuple #[.slice a' 0 c', .int .i64 1]) ∧ Mod (fun _ => False) w w' :=
  (wrap_any w kind a n c body hn hr hb).mono fun e w' h => by
    obtain ⟨v', h1, h2, h3, a', c', h4⟩ := h
    have hw : wrapS kind body = none := by unfold wrapS; rw [if_neg (by rw [hn]; exact hs)]
    rw [hw] at h1 h4
    subst h4
    exact ⟨a', c', h1, h3⟩
/-- Unwrap, with what it tells by name. -/
theorem unwrap_at {b : List Int} {k : Int} {body : List Int} {m : Nat} {er : Int} (hu : unS b = ((k, body), er)) (hm' : body.length = m) (w : World) (a : Option Addr) (n c : Nat) (hn : b.length = n) (hr : Rd w 1 (.slice a n c) n (b.map (Value.int .u8))) (hb : ∀ x ∈ b, 0 ≤ x ∧ x < 256) (hm : n ≤ 1000000) :
    Calls Try.prog 11 #[.slice a n c] w fun e w' => ∃ a' c', e = .returned (.tuple #[.int .i64 k, .slice a' m c', .int .i64 er]) ∧ w'.ownsRow w.heap.size 5 1 (.slice a' m c') m (body.map (Value.int .u8)) ∧ Mod (fun _ => False) w w' :=
  (unwrap_any w a n c b hn hr hb hm).mono fun e w' h => by
    obtain ⟨a', c', h1, h2, h3⟩ := h
    rw [hu] at h1 h2
    simp only at h1 h2
    unfold Fresh at h2
    rw [hm'] at h1 h2
    exact ⟨a', c', h1, h2, h3⟩

set_option maxHeartbeats 4000000 in
theorem awake_any (w : World) : Calls Try.prog 7 #[] w fun e w' => e = .returned (.bool true) ∧ Mod (fun _ => False) w w' := by
  obtain ⟨i0, hi, hz0, hz1, hz2⟩ := info_parts Chk.info5
  go_enter Try.func7, Try.ntmps7
  go_wp2_with fail
  refine (wrap_ok w 1 (by omega) none 0 0 [] rfl (Rd.nil _ _) (by simp) (by omega)).mono ?_
  rintro e w1 ⟨a1, c1, rfl, hF1, hM1⟩
  have hr1 := Rd.ofOwn hF1
  go_wp2_with fail
  refine (wrap_no w1 256 none 0 0 [] rfl (Rd.nil _ _) (by simp) (by omega)).mono ?_
  rintro e w2 ⟨a2, c2, rfl, hM2⟩
  have hr2 := hr1.keepA hM2 (fun _ _ e => e.elim)
  have hM12 := hM1.trans hM2 (H := fun _ => False) (fun _ _ e => e) (fun _ _ e => e)
  clear hr1 hM1 hM2 hF1
  go_wp2_with fail
  refine (unwrap_at (unS_wrap (kind := 1) (body := []) (by simp)) rfl w2 a1 9 c1 (by rw [fr_len, hd_len]; rfl) hr2 (fr_range (hd_range (by omega) (by simp))) (by omega)).mono ?_
  rintro e w3 ⟨a3, c3, rfl, hF3, hM3⟩
  have hr3 := hr2.keepA hM3 (fun _ _ e => e.elim)
  have hM13 := hM12.trans hM3 (H := fun _ => False) (fun _ _ e => e) (fun _ _ e => e)
  clear hr2 hM12 hM3 hF3
  go_wp2_with fail
  refine (unwrap_at (b := []) (unS_bad (fun h => absurd h.1.1 (by simp))) rfl w3 none 0 0 rfl (Rd.nil _ _) (by simp) (by omega)).mono ?_
  rintro e w4 ⟨a4, c4, rfl, hF4, hM4⟩
  have hr4 := hr3.keepA hM4 (fun _ _ e => e.elim)
  have hM14 := hM13.trans hM4 (H := fun _ => False) (fun _ _ e => e) (fun _ _ e => e)
  clear hr3 hM13 hM4 hF4
  have hmk : ∀ wx, (Instr.makeSlice 22 (.int .i64 2001) (.int .i64 2001)).run Try.prog wx = .ok (.slice (some ⟨wx.heap.size, 0, none⟩) 2001 2001) (wx.alloc (.cells (zrow (.int .u8 0) 2001) 5)) := fun wx => run_makeS (P := Try.prog) 22 5 i0 (.int .u8 0) Try.underlying22 hi hz0 rfl hz1 2001 (by rw [hz2]; omega) (by omega) wx
  have hz := Rd.ofOwn (own_zrow w4 5 (.int .u8 0) 2001 w4.heap.size rfl (by omega))
  have hrep : List.replicate 2001 (Value.int .u8 0) = (List.replicate 2001 (0 : Int)).map (Value.int .u8) := by rw [List.map_replicate]
  rw [hrep] at hz
  clear hrep
  have hr5 := hr4.alloc (.cells (zrow (.int .u8 0) 2001) 5)
  have hM15 := hM14.thenAlloc (.cells (zrow (.int .u8 0) 2001) 5)
  go_wp2_with fail
  refine (wrap_no _ 1 (some ⟨w4.heap.size, 0, none⟩) 2001 2001 (List.replicate 2001 0) (List.length_replicate) hz (by intro x hx; rw [List.mem_replicate] at hx; omega) (by omega)).mono ?_
  rintro e w6 ⟨a6, c6, rfl, hM6⟩
  have hr6 := hr5.keepA hM6 (fun _ _ e => e.elim)
  have HM16 := Lib.hid (hM15.trans hM6 (H := fun _ => False) (fun _ _ e => e) (fun _ _ e => e))
  have c0 : w6.cell? (elemA a1 0 1) = some (.int .u8 77) := hr6.elem (by rw [hd_form]; rfl)
  have c1' : w6.cell? (elemA a1 1 1) = some (.int .u8 3) := hr6.elem (by rw [hd_form]; rfl)
  have hix0 : ∀ wx, (Instr.indexAt 22 (.slice a1 9 c1) (.int .i64 0)).run Try.prog wx = .ok (.pointer (some (elemA a1 0 1))) wx := fun wx => run_indexS (P := Try.prog) wx 22 5 i0 1 Try.underlying22 hi hz1 a1 9 c1 0 (by omega) (hr6.some_ (by omega))
  have hix1 : ∀ wx, (Instr.indexAt 22 (.slice a1 9 c1) (.int .i64 1)).run Try.prog wx = .ok (.pointer (some (elemA a1 1 1))) wx := fun wx => run_indexS (P := Try.prog) wx 22 5 i0 1 Try.underlying22 hi hz1 a1 9 c1 1 (by omega) (hr6.some_ (by omega))
  clear hr4 hM14 hmk hz hr5 hM15 hM6 hr6
  go_wp2_with fail
  go_ret
  exact ⟨rfl, HM16.out⟩
end Go.Proofs.Ytgcegdeeoijbgaa
