/- What the laws of frame ask of the program each time. -/
import Derived.Test.YtabfmnlpipbegaaFr3
import Derived.StillTailTactics
namespace Go.Proofs.Ytabfmnlpipbegaa
open Go.RowKit Mile
set_option maxRecDepth 100000

theorem wrapS_some {kind : Int} {body : List Int} (h : 0 ≤ kind ∧ kind < 256) (hl : body.length ≤ 2000) : wrapS kind body = some (frL (hdL kind body)) := by unfold wrapS; rw [if_pos ⟨h, hl⟩]
/-- Wrap of what may be. -/
theorem wrap_ok (w : World) (kind : Int) (hk : 0 ≤ kind ∧ kind < 256) (a : Option Addr) (n c : Nat) (body : List Int) (hn : body.length = n) (hr : Rd w 1 (.slice a n c) n (body.map (Value.int .u8))) (hb : ∀ x ∈ body, 0 ≤ x ∧ x < 256) (hs : n ≤ 2000) :
    Calls Try.prog 34 #[.int .i64 kind, .slice a n c] w fun e w' => ∃ a' c', e = .returned (.tuple #[.slice a' (n + 9) c', .int .i64 0]) ∧ w'.ownsRow w.heap.size 5 1 (.slice a' (n + 9) c') (n + 9) ((frL (hdL kind body)).map (Value.int .u8)) ∧ Mod (fun _ => False) w w' :=
  (wrap_any w kind a n c body hn hr hb).mono fun e w' h => by
    obtain ⟨v', h1, h2, h3, a', c', h4⟩ := h
    rw [wrapS_some hk (by omega)] at h1 h2 h4
    have hl : (frL (hdL kind body)).length = n + 9 := by rw [fr_len, hd_len, hn]
    simp only [Option.getD_some] at h2 h4
    rw [hl] at h4
    subst h4
    unfold Fresh at h2
    rw [hl] at h2
    exact ⟨a', c', h1, h2, h3⟩
theorem wrap_no (w : World) (kind : Int) (a : Option Addr) (n c : Nat) (body : List Int) (hn : body.length = n) (hr : Rd w 1 (.slice a n c) n (body.map (Value.int .u8))) (hb : ∀ x ∈ body, 0 ≤ x ∧ x < 256) (hs : ¬ ((0 ≤ kind ∧ kind < 256) ∧ n ≤ 2000)) :
    Calls Try.prog 34 #[.int .i64 kind, .slice a n c] w fun e w' => ∃ a' c', e = .returned (.tuple #[.slice a' 0 c', .int .i64 1]) ∧ Mod (fun _ => False) w w' :=
  (wrap_any w kind a n c body hn hr hb).mono fun e w' h => by
    obtain ⟨v', h1, h2, h3, a', c', h4⟩ := h
    have hw : wrapS kind body = none := by unfold wrapS; rw [if_neg (by rw [hn]; exact hs)]
    rw [hw] at h1 h4
    subst h4
    exact ⟨a', c', h1, h3⟩
/-- Unwrap, with what it tells by name. -/
theorem unwrap_at {b : List Int} {k : Int} {body : List Int} {m : Nat} {er : Int} (hu : unS b = ((k, body), er)) (hm' : body.length = m) (w : World) (a : Option Addr) (n c : Nat) (hn : b.length = n) (hr : Rd w 1 (.slice a n c) n (b.map (Value.int .u8))) (hb : ∀ x ∈ b, 0 ≤ x ∧ x < 256) (hm : n ≤ 1000000) :
    Calls Try.prog 36 #[.slice a n c] w fun e w' => ∃ a' c', e = .returned (.tuple #[.int .i64 k, .slice a' m c', .int .i64 er]) ∧ w'.ownsRow w.heap.size 5 1 (.slice a' m c') m (body.map (Value.int .u8)) ∧ Mod (fun _ => False) w w' :=
  (unwrap_any w a n c b hn hr hb hm).mono fun e w' h => by
    obtain ⟨a', c', h1, h2, h3⟩ := h
    rw [hu] at h1 h2
    simp only at h1 h2
    unfold Fresh at h2
    rw [hm'] at h1 h2
    exact ⟨a', c', h1, h2, h3⟩

end Go.Proofs.Ytabfmnlpipbegaa
