/- What law 29's laws share: pairs that came in; blocks of different types. -/
import Derived.Test.YtfdmjnhhgcidbaaAwake29
import Derived.Test.YtfdmjnhhgcidbaaOpensBI
import Derived.Test.YtfdmjnhhgcidbaaRound
namespace Go.Proofs.Ytfdmjnhhgcidbaa
open Go.RowKit Mile
set_option maxRecDepth 100000
theorem opens_prs : Opens Try.prog 65 (encSlice (encPair (encInt .i64) (encInt .i64))) :=
  opens_slice Try.underlying65 (by kernel_rfl) (opens_array2 Try.underlying68 (by kernel_rfl) (by kernel_rfl) (opens_int Try.underlying3)) (by decide)
theorem Tb.infoP : (Try.prog.info? 68).map (fun i => (i.zero, i.size, i.bytes)) = some (some (.agg #[.int .i64 0, .int .i64 0]), 2, 16) := by kernel_rfl
def c2Q (x : Int × Int) : List Value := [.int .i64 x.1, .int .i64 x.2]
theorem c2Q_at : ∀ (L : List (Int × Int)) (i : Nat) (hi : i < L.length), (L.flatMap c2Q)[i * 2 + 0]? = some (.int .i64 L[i].1) ∧ (L.flatMap c2Q)[i * 2 + 1]? = some (.int .i64 L[i].2)
  | [], i, hi => by simp at hi
  | x :: l, 0, hi => by simp [c2Q]
  | x :: l, i + 1, hi => by
    have := c2Q_at l i (by simpa using hi)
    rw [List.flatMap_cons, List.getElem?_append_right (by simp [c2Q]; omega), List.getElem?_append_right (by simp [c2Q]; omega)]
    simp only [List.getElem_cons_succ]
    rw [show (i + 1) * 2 + 0 - (c2Q x).length = i * 2 + 0 by simp [c2Q]; omega, show (i + 1) * 2 + 1 - (c2Q x).length = i * 2 + 1 by simp [c2Q]; omega]
    exact this
theorem rd2q {w : World} {n c : Nat} {a : Option Addr} {L : List (Int × Int)} (h : Rd w 2 (.slice a n c) n (L.flatMap c2Q)) (hl : L.length = n) (i : Nat) (hi : i < L.length) :
    ∃ b o, elemA a i 2 = ⟨b, o, none⟩ ∧ w.cell? ⟨b, o, none⟩ = some (.int .i64 L[i].1) ∧ w.cell? ⟨b, o + 1, none⟩ = some (.int .i64 L[i].2) := by
  obtain ⟨b, o, hp, _⟩ := h.place (j := i) (by omega)
  have hg := c2Q_at L i hi
  exact ⟨b, o, hp, by have := h.elemN hp 0 hg.1; simpa using this, h.elemN hp 1 hg.2⟩
theorem blk_ne {w : World} {a b : Nat} {T U : TypeId} {xs ys : List Value} (h1 : Blk w a T xs) (h2 : Blk w b U ys) (hT : T ≠ U) : a ≠ b := fun e => by
  subst e
  unfold Blk at h1 h2
  rw [h1] at h2
  injection h2 with h2
  injection h2 with _ h2 _
  exact hT h2
section
variable {w0 w : World} {p M : Nat} {es : Nat → TbE} {gr : Nat → Int}
/-- Another block, of another type, turns: the Table stays. -/
theorem TB.beside {w' : World} {g : Nat} {T : TypeId} {cs : List Value} (h : TB w p M es gr) (hg : Blk w g T cs) (h1 : T ≠ 151) (h2 : T ≠ 98) (hm : Mod (fun k => k = g) w w') : TB w' p M es gr :=
  h.keep hm (fun e => blk_ne hg h.blk h1 e.symm) (fun i hi b ch e f => blk_ne hg (h.ent i hi b ch e).1 h2 f.symm)
/-- A Table made since w0. -/
structure TS (w0 w : World) (p M : Nat) (es : Nat → TbE) (gr : Nat → Int) : Prop where
  tb : TB w p M es gr
  lp : w0.heap.size ≤ p
  md : Mod (fun _ => False) w0 w
theorem TS.later {w' : World} (h : TS w0 w p M es gr) (hm : Mod (fun _ => False) w w') : TS w0 w' p M es gr := ⟨h.tb.later hm, h.lp, h.md.of2 hm⟩
theorem TS.turn {w' : World} {es' : Nat → TbE} {gr' : Nat → Int} (h : TS w0 w p M es gr) (ht : TB w' p M es' gr') (hm : Mod (fun k => k = p) w w') : TS w0 w' p M es' gr' := ⟨ht, h.lp, h.md.old hm (fun k hk => by rw [hk]; exact h.lp)⟩
/-- All, by its peers. -/
theorem ts_peers (h : TS w0 w p M es gr) : Calls Try.prog 45 #[.pointer (some ⟨p, 0, none⟩)] w fun e w' => ∃ a n c, e = .returned (.slice a n c) ∧ (liveN es 16).length = n ∧ Rd w' 1 (.slice a n c) n ((liveN es 16).map fun i => tbV (es i)) ∧ TS w0 w' p M es gr ∧ Mod (fun _ => False) w w' := by
  refine (tball_any h.tb).mono ?_
  rintro e w' ⟨a, c, he, ho, hm⟩
  exact ⟨a, _, c, he, rfl, Rd.ofOwn ho, h.later hm, hm⟩
theorem ts_peers2 (h : TS w0 w p M es gr) (a : Option Addr) (n c : Nat) (hn : (liveN es 16).length = n) (hr : Rd w 1 (.slice a n c) n ((liveN es 16).map fun i => tbV (es i))) : Calls Try.prog 44 #[.slice a n c] w fun e w' => ∃ a' c', e = .returned (.slice a' n c') ∧ Rd w' 1 (.slice a' n c') n ((liveI es).map (Value.int .i64)) ∧ (∀ k, (Value.slice a' n c').ownBlock = some k → w.heap.size ≤ k) ∧ TS w0 w' p M es gr ∧ Mod (fun _ => False) w w' := by
  refine (peers_any h.tb a n c hn hr).mono ?_
  rintro e w' ⟨a', c', he, ho, hm⟩
  exact ⟨a', c', he, Rd.ofOwn ho, fun k hk => (ho.lt k hk).1, h.later hm, hm⟩
theorem ts_len (h : TS w0 w p M es gr) (n : Nat) (hn : (liveN es 16).length = n) : Calls Try.prog 42 #[.pointer (some ⟨p, 0, none⟩)] w fun e w' => e = .returned (.int .i64 (n : Int)) ∧ TS w0 w' p M es gr ∧ Mod (fun _ => False) w w' := by
  subst hn
  refine (tblen_any h.tb).mono ?_
  rintro e w' ⟨he, hm⟩
  exact ⟨he, h.later hm, hm⟩
theorem ts_may (h : TS w0 w p M es gr) (peer conn r : Int) (hr : mayC M es gr peer conn = r) : Calls Try.prog 33 #[.pointer (some ⟨p, 0, none⟩), .int .i64 peer, .int .i64 conn] w fun e w' => e = .returned (.int .i64 r) ∧ TS w0 w' p M es gr ∧ Mod (fun _ => False) w w' := by
  subst hr
  refine (tbmay_any h.tb peer conn).mono ?_
  rintro e w' ⟨he, hm⟩
  exact ⟨he, h.later hm, hm⟩
/-- An entry is made, and added. -/
theorem ts_entry (h : TS w0 w p M es gr) (peer conn : Int) : Calls Try.prog 35 #[.int .i64 peer, .int .i64 conn] w fun e w' => ∃ b ch, e = .returned (.pointer (some ⟨b, 0, none⟩)) ∧ Blk w' b 98 [.int .i64 peer, .int .i64 conn, ch, .pointer none, .int .i64 0] ∧ b ≠ p ∧ TS w0 w' p M es gr ∧ Mod (fun _ => False) w w' := by
  refine (entry_any w peer conn).mono ?_
  rintro e w' ⟨b, ch, he, hb, hlo, hm⟩
  exact ⟨b, ch, he, hb, fun e => by have := h.tb.blk.lt; omega, h.later hm, hm⟩
theorem ts_add (h : TS w0 w p M es gr) (b i : Nat) (hi : i < 16) (conn : Int) (ch : Value) (hb : Blk w b 98 [.int .i64 (i : Int), .int .i64 conn, ch, .pointer none, .int .i64 0]) (hbp : b ≠ p) (hmay : mayC M es gr (i : Int) conn = 0) : Calls Try.prog 34 #[.pointer (some ⟨p, 0, none⟩), .pointer (some ⟨b, 0, none⟩)] w fun e w' => e = .returned (.int .i64 0) ∧ TS w0 w' p M (updT es i (some (b, ch))) (updT gr i conn) ∧ Mod (fun k => k = p) w w' := by
  refine (tbadd_ok h.tb b i hi conn ch hb hbp hmay).mono ?_
  rintro e w' ⟨he, ht, hm⟩
  exact ⟨he, h.turn ht hm, hm⟩
theorem ts_addno (h : TS w0 w p M es gr) (b : Nat) (peer conn : Int) (ch : Value) (hb : Blk w b 98 [.int .i64 peer, .int .i64 conn, ch, .pointer none, .int .i64 0]) (r : Int) (hmay : mayC M es gr peer conn = r) (hr : r ≠ 0) : Calls Try.prog 34 #[.pointer (some ⟨p, 0, none⟩), .pointer (some ⟨b, 0, none⟩)] w fun e w' => e = .returned (.int .i64 r) ∧ TS w0 w' p M es gr ∧ Mod (fun _ => False) w w' := by
  refine (tbadd_no h.tb b peer conn ch hb r hmay hr).mono ?_
  rintro e w' ⟨he, hm⟩
  exact ⟨he, h.later hm, hm⟩
end
theorem liveI_mem {es : Nat → TbE} {i : Nat} (hi : i < 16) : (i : Int) ∈ liveI es ↔ (es i).isSome = true := by
  unfold liveI
  rw [List.mem_map]
  constructor
  · rintro ⟨j, hj, e⟩
    have : j = i := by omega
    subst this
    exact (mem_liveN.1 hj).2
  · intro h
    exact ⟨i, mem_liveN.2 ⟨hi, h⟩, rfl⟩
end Go.Proofs.Ytfdmjnhhgcidbaa
