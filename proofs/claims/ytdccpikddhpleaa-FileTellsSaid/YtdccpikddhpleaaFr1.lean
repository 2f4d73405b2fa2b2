/- Frames as plain bytes; package frame's Wrap, by contract. -/
import Derived.Test.YtdccpikddhpleaaRdr2
import Derived.Test.YtdccpikddhpleaaChk
import Derived.Test.YtdccpikddhpleaaRegion
import Derived.Deep.QuietTactic
import Derived.BigQuiet
namespace Mile
open Go Go.RowKit
/-- What stands ahead of the sum. -/
def hdL (kind : Int) (body : List Int) : List Int := [77, 3, kind] ++ digs body.length 2 ++ body
def frL (hd : List Int) : List Int := hd ++ digs (csum hd).toNat 4
def wrapS (kind : Int) (body : List Int) : Option (List Int) := if (0 ≤ kind ∧ kind < 256) ∧ body.length ≤ 2000 then some (frL (hdL kind body)) else none
theorem hd_some {kind : Int} (h : 0 ≤ kind ∧ kind < 256) : numsS 1 [77, 3, kind] (some []) = some [77, 3, kind] := by
  have f1 : fits 1 77 = true := by decide
  have f2 : fits 1 3 = true := by decide
  have f3 : fits 1 kind = true := by unfold fits; simp; omega
  have e : kind / 2 ^ (8 * 0) % 256 = kind := by simp; omega
  show (if sizeOk 1 then numsL 1 [] [77, 3, kind] else none) = _
  rw [if_pos (by decide)]
  show (if fits 1 77 then numsL 1 ([] ++ digs 77 1) [3, kind] else none) = _
  rw [if_pos f1]
  show (if fits 1 3 then numsL 1 ([] ++ digs 77 1 ++ digs 3 1) [kind] else none) = _
  rw [if_pos f2]
  show (if fits 1 kind then numsL 1 ([] ++ digs 77 1 ++ digs 3 1 ++ digs kind 1) [] else none) = _
  rw [if_pos f3]
  show some ([77, 3, kind / 2 ^ (8 * 0) % 256]) = _
  rw [e]
theorem hd_none {kind : Int} (h : ¬ (0 ≤ kind ∧ kind < 256)) : numsS 1 [77, 3, kind] (some []) = none := by
  have f1 : fits 1 77 = true := by decide
  have f2 : fits 1 3 = true := by decide
  have f3 : fits 1 kind = false := by unfold fits; simp; omega
  show (if sizeOk 1 then numsL 1 [] [77, 3, kind] else none) = _
  rw [if_pos (by decide)]
  show (if fits 1 77 then numsL 1 ([] ++ digs 77 1) [3, kind] else none) = _
  rw [if_pos f1]
  show (if fits 1 3 then numsL 1 ([] ++ digs 77 1 ++ digs 3 1) [kind] else none) = _
  rw [if_pos f2]
  show (if fits 1 kind then numsL 1 ([] ++ digs 77 1 ++ digs 3 1 ++ digs kind 1) [] else none) = _
  rw [if_neg (by rw [f3]; simp)]
theorem nums_one (t : Nat) (size x : Int) (bs : List Int) (hs : size = (t : Int)) (h1 : sizeOk size = true) (hx : fits t x = true) : numsS size [x] (some bs) = some (bs ++ digs x t) := by
  subst hs
  show (if sizeOk (t : Int) then numsL (t : Int).toNat bs [x] else none) = _
  rw [if_pos h1, Int.toNat_natCast]
  show (if fits t x then numsL t (bs ++ digs x t) [] else none) = _
  rw [if_pos hx]; rfl
theorem hd_len (kind : Int) (body : List Int) : (hdL kind body).length = body.length + 5 := by
  unfold hdL; rw [List.length_append, List.length_append, digs_length]; simp; omega
theorem fr_len (hd : List Int) : (frL hd).length = hd.length + 4 := by unfold frL; rw [List.length_append, digs_length]
theorem hd_range {kind : Int} {body : List Int} (h : 0 ≤ kind ∧ kind < 256) (hb : ∀ x ∈ body, 0 ≤ x ∧ x < 256) : ∀ x ∈ hdL kind body, 0 ≤ x ∧ x < 256 := by
  intro x hx
  unfold hdL at hx
  simp only [List.mem_append] at hx
  rcases hx with (hx | hx) | hx
  · simp at hx; omega
  · exact digs_range _ _ x hx
  · exact hb x hx
theorem fr_range {hd : List Int} (h : ∀ x ∈ hd, 0 ≤ x ∧ x < 256) : ∀ x ∈ frL hd, 0 ≤ x ∧ x < 256 := by
  intro x hx
  unfold frL at hx
  rcases List.mem_append.1 hx with e | e
  · exact h x e
  · exact digs_range _ _ x e
theorem sum_fits (c : B32) : fits 4 (c.toNat : Int) = true := by
  unfold fits
  have := c.isLt
  simp; omega
end Mile
namespace Go.Proofs.Ytdccpikddhpleaa
open Go.RowKit Mile
set_option maxRecDepth 100000

theorem Parts.one1 {w : World} {v pv : Value} {bs : List Int} (hv : Rd w 1 v 1 [pv]) (hp : Rd w 1 pv bs.length (bs.map (Value.int .u8))) (hb : ∀ n ∈ bs, 0 ≤ n ∧ n < 256) : Parts w v [(pv, bs)] :=
  ⟨hv, fun p hm => by
    rcases List.mem_singleton.1 hm with rfl
    exact ⟨hp, hb⟩⟩
/-- A Writer of the call's own; nothing that was there has turned. -/
structure WrSt (w W : World) (p : Nat) (s : Option (List Int)) (F : Nat → Prop) : Prop where
  r : Wr W p s F
  low : ∀ k, F k → w.heap.size ≤ k
  mod : Mod (fun _ => False) w W
theorem WrSt.aft {w W W' : World} {p : Nat} {s s' : Option (List Int)} {F F' : Nat → Prop} (h : WrSt w W p s F) (hO : Wr W' p s' F') (ha : After W W' F F') : WrSt w W' p s' F' :=
  ⟨hO, fun k hk => (ha.2 k hk).elim (h.low k) (fun e => Nat.le_trans h.mod.size e), h.mod.trans ha.1 (fun _ _ e => e) (fun i hi e => by have := h.low i e; omega)⟩
theorem WrSt.later {w W W' : World} {p : Nat} {s : Option (List Int)} {F : Nat → Prop} (h : WrSt w W p s F) (hm : Mod (fun _ => False) W W') : WrSt w W' p s F :=
  ⟨h.r.keep hm (fun _ _ e => e), h.low, h.mod.trans hm (fun _ _ e => e) (fun _ _ e => e)⟩
theorem WrSt.apart {w W : World} {p : Nat} {s : Option (List Int)} {F : Nat → Prop} (h : WrSt w W p s F) {v : Value} (hv : ∀ k, v.ownBlock = some k → k < w.heap.size ∨ W.heap.size ≤ k) : ∀ k, v.ownBlock = some k → ¬ F k := fun k hk hf => by
  have := h.low k hf; have := h.r.lt k hf
  rcases hv k hk with e | e <;> omega

/-- What Wrap tells. -/
def WrapP (kind : Int) (body : List Int) (w : World) (e : Ending) (w' : World) : Prop :=
  ∃ v', e = .returned (.tuple #[v', .int .i64 (if (wrapS kind body).isNone then 1 else 0)]) ∧ Fresh w' w.heap.size v' ((wrapS kind body).getD []) ∧ Mod (fun _ => False) w w' ∧ ∃ a c, v' = .slice a ((wrapS kind body).getD []).length c

end Go.Proofs.Ytdccpikddhpleaa
