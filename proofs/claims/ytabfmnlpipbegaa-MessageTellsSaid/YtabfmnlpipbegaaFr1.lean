/- Frames as plain bytes; package frame's Wrap, by contract. -/
import Derived.Test.YtabfmnlpipbegaaRdr2
import Derived.Test.YtabfmnlpipbegaaChk
import Derived.Test.YtabfmnlpipbegaaRegion
import Derived.Deep.QuietTactic
import Derived.BigQuiet
namespace Mile
open Go Go.RowKit
/-- What stands ahead of the sum. -/
def hdL (kind : Int) (body : List Int) : List Int := [77, 3, kind] ++ digs body.length 2 ++ body
def frL (hd : List Int) : List Int := hd ++ digs (csum hd).toNat 4
def wrapS (kind : Int) (body : List Int) : Option (List Int) := if (0 ≤ kind ∧ kind < 256) ∧ body.length ≤ 2000 then some (frL (hdL kind body)) else none
theorem hd_some {kind : Int} (h : 0 ≤ kind ∧ kind < 256) : numsS 1 [77, 3, kind] (some []) = some [77, 3, kind] := by
  have f1 : fits 1 77 = true := by decide
  have f2 : fits 1 3 = true := by decide
  have f3 : fits 1 kind = true := by unfold fits; simp; omega
  have e : kind / 2 ^ (8 * 0) % 256 = kind := by simp; omega
  show (if sizeOk 1 then numsL 1 [] [77, 3, kind] else none) = _
  rw [if_pos (by decide)]
  show (if fits 1 77 then numsL 1 ([] ++ digs 77 1) [3, kind] else none) = _
  rw [if_pos f1]
  show (if fits 1 3 then numsL 1 ([] ++ digs 77 1 ++ digs 3 1) [kind] else none) = _
  rw [if_pos f2]
  show (if fits 1 kind then numsL 1 ([] ++ digs 77 1 ++ digs 3 1 ++ digs kind 1) [] else none) = _
  rw [if_pos f3]
  show some ([77, 3, kind / 2 ^ (8 * 0) % 256]) = _
  rw [e]
theorem hd_none {kind : Int} (h : ¬ (0 ≤ kind ∧ kind < 256)) : numsS 1 [77, 3, kind] (some []) = none := by
  have f1 : fits 1 77 = true := by decide
  have f2 : fits 1 3 = true := by decide
  have f3 : fits 1 kind = false := by unfold fits; simp; omega
  show (if sizeOk 1 then numsL 1 [] [77, 3, kind] else none) = _
  rw [if_pos (by decide)]
  show (if fits 1 77 then numsL 1 ([] ++ digs 77 1) [3, kind] else none) = _
  rw [if_pos f1]
  show (if fits 1 3 then numsL 1 ([] ++ digs 77 1 ++ digs 3 1) [kind] else none) = _
  rw [if_pos f2]
  show (if fits 1 kind then numsL 1 ([] ++ digs 77 1 ++ digs 3 1 ++ digs kind 1) [] else none) = _
  rw [if_neg (by rw [f3]; simp)]
theorem nums_one (t : Nat) (size x : Int) (bs : List Int) (hs : size = (t : Int)) (h1 : sizeOk size = true) (hx : fits t x = true) : numsS size [x] (some bs) = some (bs ++ digs x t) := by
  subst hs
  show (if sizeOk (t : Int) then numsL (t : Int).toNat bs [x] else none) = _
  rw [if_pos h1, Int.toNat_natCast]
  show (if fits t x then numsL t (bs ++ digs x t) [] else none) = _
  rw [if_pos hx]; rfl
theorem hd_len (kind : Int) (body : List Int) : (hdL kind body).length = body.length + 5 := by
  unfold hdL; rw [List.length_append, List.length_append, digs_length]; simp; omega
theorem fr_len (hd : List Int) : (frL hd).length = hd.length + 4 := by unfold frL; rw [List.length_append, digs_length]
theorem hd_range {kind : Int} {body : List Int} (h : 0 ≤ kind ∧ kind < 256) (hb : ∀ x ∈ body, 0 ≤ x ∧ x < 256) : ∀ x ∈ hdL kind body, 0 ≤ x ∧ x < 256 := by
  intro x hx
  unfold hdL at hx
  simp only [List.mem_append] at hx
  rcases hx with (hx | hx) | hx
  · simp at hx; omega
  · exact digs_range _ _ x hx
  · exact hb x hx
theorem fr_range {hd : List Int} (h : ∀ x ∈ hd, 0 ≤ x ∧ x < 256) : ∀ x ∈ frL hd, 0 ≤ x ∧ x < 256 := by
  intro x hx
  unfold frL at hx
  rcases List.mem_append.1 hx with e | e
  · exact h x e
  · exact digs_range _ _ x e
theorem sum_fits (c : B32) : fits 4 (c.toNat : Int) = true := by
  unfold fits
  have := c.isLt
  simp; omega
end Mile
namespace Go.Proofs.Ytabfmnlpipbegaa
open Go.RowKit Mile
set_option maxRecDepth 100000

theorem Parts.one1 {w : World} {v pv : Value} {bs : List Int} (hv : Rd w 1 v 1 [pv]) (hp : Rd w 1 pv bs.length (bs.map (Value.int .u8))) (hb : ∀ n ∈ bs, 0 ≤ n ∧ n < 256) : Parts w v [(pv, bs)] :=
  ⟨hv, fun p hm => by
    rcases List.mem_singleton.1 hm with rfl
    exact ⟨hp, hb⟩⟩
/-- A Writer of the call's own; nothing that was there has turned. -/
structure WrSt (w W : World) (p : Nat) (s : Option (List Int)) (F : Nat → Prop) : Prop where
  r : Wr W p s F
  low : ∀ k, F k → w.heap.size ≤ k
  mod : Mod (fun _ => False) w W
theorem WrSt.aft {w W W' : World} {p : Nat} {s s' : Option (List Int)} {F F' : Nat → Prop} (h : WrSt w W p s F) (hO : Wr W' p s' F') (ha : After W W' F F') : WrSt w W' p s' F' :=
  ⟨hO, fun k hk => (ha.2 k hk).elim (h.low k) (fun e => Nat.le_trans h.mod.size e), h.mod.trans ha.1 (fun _ _ e => e) (fun i hi e => by have := h.low i e; omega)⟩
theorem WrSt.later {w W W' : World} {p : Nat} {s : Option (List Int)} {F : Nat → Prop} (h : WrSt w W p s F) (hm : Mod (fun _ => False) W W') : WrSt w W' p s F :=
  ⟨h.r.keep hm (fun _ _ e => e), h.low, h.mod.trans hm (fun _ _ e => e) (fun _ _ e => e)⟩
theorem WrSt.apart {w W : World} {p : Nat} {s : Option (List Int)} {F : Nat → Prop} (h : WrSt w W p s F) {v : Value} (hv : ∀ k, v.ownBlock = some k → k < w.heap.size ∨ W.heap.size ≤ k) : ∀ k, v.ownBlock = some k → ¬ F k := fun k hk hf => by
  have := h.low k hf; have := h.r.lt k hf
  rcases hv k hk with e | e <;> omega

/-- What Wrap tells. -/
def WrapP (kind : Int) (body : List Int) (w : World) (e : Ending) (w' : World) : Prop :=
  ∃ v', e = .returned (.tuple #[v', .int .i64 (if (wrapS kind body).isNone then 1 else 0)]) ∧ Fresh w' w.heap.size v' ((wrapS kind body).getD []) ∧ Mod (fun _ => False) w w' ∧ ∃ a c, v' = .slice a ((wrapS kind body).getD []).length c

set_option maxHeartbeats 4000000 in
theorem wrap_any (w : World) (kind : Int) (a : Option Addr) (n c : Nat) (body : List Int) (hn : body.length = n) (hr : Rd w 1 (.slice a n c) n (body.map (Value.int .u8))) (hb : ∀ x ∈ body, 0 ≤ x ∧ x < 256) :
    Calls Try.prog 34 #[.int .i64 kind, .slice a n c] w (WrapP kind body w) := by
  have HN := Lib.hid hn
  clear hn
  by_cases h1 : 2000 < n
  · have hw : wrapS kind body = none := by unfold wrapS; rw [if_neg]; rw [HN.out]; omega
    go_enter Try.func34, Try.ntmps34
    go_wp2_with fail
    go_ret2
    exact ⟨_, by rw [hw]; rfl, by rw [hw]; exact World.ownsRow_nil _ _ _ _, Mod.refl _ _, _, _, by rw [hw]; rfl⟩
  have q1 : n ≤ 2000 := by omega
  clear h1
  go_enter Try.func34, Try.ntmps34
  go_wp2_with fail
  have h0 : WrSt w (w.alloc (.cells #[.slice none 0 0, .bool false] 59)) w.heap.size (some []) (fun k => k = w.heap.size) := ⟨Wr.new _ rfl, fun k e => by omega, Mod.alloc _ _ _⟩
  have h1 := h0.later (Mod.alloc (fun _ => False) _ (.cells #[.int .i64 77, .int .i64 3, .int .i64 kind] 3))
  refine (nums_any w.heap.size _ (some []) (fun k => k = w.heap.size) h1.r 1 _ [77, 3, kind] (Rd.lit _ [.int .i64 77, .int .i64 3, .int .i64 kind] _ _ 3 (by simp) rfl (by omega)) (by intro k hk hf; simp [Value.ownBlock] at hk; omega) (by simp)).mono ?_
  rintro e w1 ⟨rfl, F1, hW, hA⟩
  have h2 := h1.aft hW hA
  clear h0 h1 hW hA
  by_cases hk : 0 ≤ kind ∧ kind < 256
  · rw [hd_some hk] at h2
    go_wp2_with fail
    have h3 := h2.later (Mod.alloc (fun _ => False) w1 (.cells #[.int .i64 (n : Int)] 3))
    refine (nums_any w.heap.size _ (some [77, 3, kind]) F1 h3.r 2 _ [(n : Int)] (Rd.one w1 _ _) (fun k hk hf => absurd hf (h2.apart (v := .slice (some ⟨w1.heap.size, 0, none⟩) 1 1) (by intro k hk; simp [Value.ownBlock] at hk; omega) k hk)) (by simp)).mono ?_
    rintro e w2 ⟨rfl, F2, hW, hA⟩
    have h4 := h3.aft hW hA
    clear h2 h3 hW hA
    rw [nums_one 2 2 (n : Int) _ rfl (by decide) (by unfold fits; simp; omega)] at h4
    go_wp2_with fail
    refine (raw_any w.heap.size _ _ F2 h4.r (.slice a n c) body (by rw [HN.out]; exact hr.keepA h4.mod (fun _ _ e => e.elim)) (by simp [digs_length, HN.out]; omega)).mono ?_
    rintro e w3 ⟨rfl, F3, hW, hA⟩
    have h5 := h4.aft hW hA
    clear h4 hW hA
    rw [show Option.map (· ++ body) (some ([77, 3, kind] ++ digs (n : Int) 2)) = some (hdL kind body) by unfold hdL; rw [HN.out]; rfl] at h5
    have hl := hd_len kind body
    rw [HN.out] at hl
    have hrg := hd_range hk hb
    have hw : wrapS kind body = some (frL (hdL kind body)) := by unfold wrapS; rw [if_pos ⟨hk, by rw [HN.out]; exact q1⟩]
    obtain ⟨HD, hHD⟩ : ∃ HD, hdL kind body = HD := ⟨_, rfl⟩
    rw [hHD] at h5 hl hrg hw
    go_wp2_with fail
    refine (bytes_any w.heap.size _ _ F3 h5.r (by simp; omega)).mono ?_
    rintro e w4 ⟨v4, rfl, hF4, hM4, a4, c4, rfl⟩
    have h6 := h5.later hM4
    have hb4 : Rd w4 1 (.slice a4 HD.length c4) HD.length (HD.map (Value.int .u8)) := Rd.ofOwn hF4
    have HX1 := Lib.hid hF4
    have HX2 := Lib.hid hM4
    have HX3 := Lib.hid h5
    clear hF4 hM4 h5
    go_wp2_with fail
    rw [hl] at hb4
    have hfl : csum (flat [(Value.slice a4 (n + 5) c4, HD)]) = csum HD := by simp [flat]
    refine (sum_any _ 1 1 [(.slice a4 (n + 5) c4, HD)] _ rfl (Parts.one1 (Rd.one w4 _ _) (by rw [hl]; exact hb4.alloc _) hrg)).mono ?_
    rw [hfl]
    clear hfl hb4
    rintro e w5 ⟨rfl, rfl⟩
    have h7 := h6.later (Mod.alloc (fun _ => False) w4 (.cells #[.slice a4 (n + 5) c4] 27))
    have hfit := sum_fits (csum HD)
    have hfrl : frL HD = HD ++ digs (csum HD).toNat 4 := rfl
    have hlt := (csum HD).isLt
    obtain ⟨sm, hsm⟩ : ∃ sm, (csum HD).toNat = sm := ⟨_, rfl⟩
    rw [hsm] at hfit hfrl hlt
    have HS1 := Lib.hid hfit
    have HS2 := Lib.hid hfrl
    have HS3 := Lib.hid h6
    rw [hsm]
    clear hfit hfrl hsm h6
    have hlt2 : sm < 4294967296 := by simpa using hlt
    clear hlt
    obtain ⟨w6, hw6⟩ : ∃ w6, w4.alloc (.cells #[.slice a4 (n + 5) c4] 27) = w6 := ⟨_, rfl⟩
    rw [hw6] at h7 ⊢
    clear hw6
    go_wp2_with fail
    have h8 := h7.later (Mod.alloc (fun _ => False) w6 (.cells #[.int .i64 (sm : Int)] 3))
    refine (nums_any w.heap.size _ (some HD) F3 h8.r 4 _ [(sm : Int)] (Rd.one w6 _ _) (fun k hk hf => absurd hf (h7.apart (v := .slice (some ⟨w6.heap.size, 0, none⟩) 1 1) (by intro k hk; simp [Value.ownBlock] at hk; omega) k hk)) (by simp; omega)).mono ?_
    rintro e w7 ⟨rfl, F4, hW, hA⟩
    rw [nums_one 4 4 (sm : Int) _ rfl (by decide) HS1.out, ← HS2.out] at hW
    have h9 := h8.aft hW hA
    clear h7 h8 hW hA
    go_wp2_with fail
    have hfl := fr_len HD
    have hL : ((some (frL HD)).getD []).length = n + 5 + 4 := by show (frL HD).length = _; rw [hfl, hl]
    have HL := Lib.hid hL
    clear hL
    refine (bytes_any w.heap.size _ _ F4 h9.r (by simp; omega)).mono ?_
    rintro e w8 ⟨v8, rfl, hF8, hM8, a8, c8, rfl⟩
    have h10 := Lib.hid (h9.later hM8)
    have HF8 := Lib.hid (Own.base hF8 (h9.mod.size))
    clear hF8 hM8 h9
    have HW := Lib.hid hw
    clear hw
    go_wp2_with fail
    go_ret2
    have hF := HF8.out
    have e8 : Value.slice a8 ((some (frL HD)).getD []).length c8 = .slice a8 (n + 5 + 4) c8 := by rw [HL.out]
    rw [e8] at hF
    exact ⟨.slice a8 (n + 5 + 4) c8, by rw [HW.out]; rfl, by rw [HW.out]; exact hF, h10.out.mod, a8, c8, by rw [HW.out]; exact e8.symm⟩
  · rw [hd_none hk] at h2
    go_wp2_with fail
    have h3 := h2.later (Mod.alloc (fun _ => False) w1 (.cells #[.int .i64 (n : Int)] 3))
    refine (nums_any w.heap.size _ none F1 h3.r 2 _ [(n : Int)] (Rd.one w1 _ _) (fun k hk hf => absurd hf (h2.apart (v := .slice (some ⟨w1.heap.size, 0, none⟩) 1 1) (by intro k hk; simp [Value.ownBlock] at hk; omega) k hk)) (by simp)).mono ?_
    rintro e w2 ⟨rfl, F2, hW, hA⟩
    have h4 := h3.aft hW hA
    clear h2 h3 hW hA
    rw [show numsS 2 [(n : Int)] none = none from rfl] at h4
    go_wp2_with fail
    refine (raw_any w.heap.size _ none F2 h4.r (.slice a n c) body (by rw [HN.out]; exact hr.keepA h4.mod (fun _ _ e => e.elim)) (by simp [HN.out]; omega)).mono ?_
    rintro e w3 ⟨rfl, F3, hW, hA⟩
    have h5 := h4.aft hW hA
    clear h4 hW hA
    go_wp2_with fail
    refine (bytes_any w.heap.size _ none F3 h5.r (by simp)).mono ?_
    rintro e w4 ⟨v4, rfl, hF4, hM4, a4, c4, rfl⟩
    have HX := Lib.hid (h5.later hM4).mod
    clear hF4 hM4 h5
    have hw : wrapS kind body = none := by unfold wrapS; rw [if_neg]; exact fun h => hk h.1
    have HW := Lib.hid hw
    clear hw hk
    go_wp2_with fail
    go_ret2
    exact ⟨_, by rw [HW.out]; rfl, by rw [HW.out]; exact World.ownsRow_nil _ _ _ _, HX.out, _, _, by rw [HW.out]; rfl⟩
end Go.Proofs.Ytabfmnlpipbegaa
