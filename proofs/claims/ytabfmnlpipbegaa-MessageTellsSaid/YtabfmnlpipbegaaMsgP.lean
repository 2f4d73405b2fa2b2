/- Messages, as plain bytes; a Writer beside rows of the statement's own. -/
import Derived.Test.YtabfmnlpipbegaaCh
namespace Go.Proofs.Ytabfmnlpipbegaa
open Go.RowKit Mile
set_option maxRecDepth 100000
structure MsD where
  kind : Int
  pos : Int
  dest : Int
  edges : List Int
  weight : Int
  hc : Int
  he : Int
  hf : Int
  hl : Int
/-- One more, as the machine has it. -/
def edge1 (x : Int) : Int := if x = 9223372036854775807 then -9223372036854775808 else x + 1
/-- A message's bytes. -/
def mBytes (m : MsD) : Option (List Int) :=
  if m.kind = 1 then numsS 2 [m.pos, m.dest] (numsS 1 [m.kind] (some []))
  else if m.kind = 2 ∨ m.kind = 9 then numsS 2 [m.pos] (numsS 1 [m.kind] (some []))
  else if m.kind = 5 then (if 512 < m.edges.length then none else numsS 2 m.edges (numsS 2 [(m.edges.length : Int)] (numsS 5 [m.weight] (numsS 1 [m.kind] (some [])))))
  else if m.kind = 7 then numsS 5 [m.hf, m.hl] (numsS 2 [edge1 m.he] (numsS 1 [m.hc] (numsS 1 [m.kind] (some []))))
  else if m.kind = 3 ∨ m.kind = 4 ∨ m.kind = 6 ∨ m.kind = 8 then numsS 1 [m.kind] (some [])
  else none
/-- A Writer at p, and blocks that it does not touch. -/
structure WS (wB W : World) (p : Nat) (s : Option (List Int)) (Q : List (Nat × (TypeId × List Value))) : Prop where
  ex : ∃ F, WrSt wB W p s F ∧ ∀ x ∈ Q, Blk W x.1 x.2.1 x.2.2 ∧ ¬ F x.1
theorem WS.of {wB W : World} {p : Nat} {s : Option (List Int)} {F : Nat → Prop} (h : WrSt wB W p s F) : WS wB W p s [] := ⟨⟨F, h, fun x hx => by cases hx⟩⟩
theorem WS.mod {wB W : World} {p : Nat} {s : Option (List Int)} {Q : List (Nat × (TypeId × List Value))} (h : WS wB W p s Q) : Mod (fun _ => False) wB W := by obtain ⟨⟨F, h, _⟩⟩ := h; exact h.mod
theorem WS.blk {wB W : World} {p : Nat} {s : Option (List Int)} {Q : List (Nat × (TypeId × List Value))} (h : WS wB W p s Q) {q : Nat} {T : TypeId} {cs : List Value} (hq : (q, T, cs) ∈ Q) : Blk W q T cs := by obtain ⟨⟨F, _, h⟩⟩ := h; exact (h _ hq).1
theorem WS.later {wB W W' : World} {p : Nat} {s : Option (List Int)} {Q : List (Nat × (TypeId × List Value))} (h : WS wB W p s Q) (hm : Mod (fun _ => False) W W') : WS wB W' p s Q := by
  obtain ⟨⟨F, h, hq⟩⟩ := h
  exact ⟨⟨F, h.later hm, fun x hx => ⟨(hq x hx).1.keep hm (fun e => e), (hq x hx).2⟩⟩⟩
theorem WS.al {wB W : World} {p : Nat} {s : Option (List Int)} {Q : List (Nat × (TypeId × List Value))} (h : WS wB W p s Q) (T : TypeId) (cs : List Value) : WS wB (W.alloc (.cells cs.toArray T)) p s ((W.heap.size, T, cs) :: Q) := by
  obtain ⟨⟨F, h, hq⟩⟩ := h
  have hm : Mod (fun _ => False) W (W.alloc (.cells cs.toArray T)) := Mod.alloc _ _ _
  refine ⟨⟨F, h.later hm, fun x hx => ?_⟩⟩
  rcases List.mem_cons.1 hx with rfl | hx
  · exact ⟨Blk.new _ _ _, fun hf => by have := Wr.lt h.r _ hf; exact absurd this (Nat.lt_irrefl _)⟩
  · exact ⟨(hq x hx).1.keep hm (fun e => e), (hq x hx).2⟩
theorem nums_ws {wB W : World} {p : Nat} {s : Option (List Int)} {Q : List (Nat × (TypeId × List Value))} {size : Int} {q n : Nat} (xs : List Int) (h : WS wB W p s Q) (hq : (q, 3, xs.map (Value.int .i64)) ∈ Q) (hn : xs.length = n) (hs : n ≤ 100) (hl : (s.getD []).length ≤ 100000) :
    Calls Try.prog 25 #[.pointer (some ⟨p, 0, none⟩), .int .i64 size, .slice (some ⟨q, 0, none⟩) n n] W fun e w' => e = .returned (.pointer (some ⟨p, 0, none⟩)) ∧ WS wB w' p (numsS size xs s) Q := by
  obtain ⟨⟨F, h1, hQ⟩⟩ := h
  refine (nums_any p _ s F h1.r size _ xs (by rw [hn]; exact Rd.ofBlkN (hQ _ hq).1 (by rw [List.length_map]; exact hn) hs) (fun k hk hf => by have e : q = k := Option.some.inj hk; subst e; exact absurd hf (hQ _ hq).2) (by omega)).mono ?_
  rintro e w' ⟨he, F', hW, hA⟩
  refine ⟨he, ⟨F', h1.aft hW hA, fun x hx => ⟨(hQ x hx).1.keep hA.1 (hQ x hx).2, fun hf => ?_⟩⟩⟩
  rcases hA.2 _ hf with h | h
  · exact (hQ x hx).2 h
  · have := (hQ x hx).1.lt; omega
/-- Numbers in a row that stood ahead. -/
theorem nums_old {wB W : World} {p : Nat} {s : Option (List Int)} {Q : List (Nat × (TypeId × List Value))} {size : Int} {v : Value} (xs : List Int) (h : WS wB W p s Q) (hr : Rd wB 1 v xs.length (xs.map (Value.int .i64))) (hl : (s.getD []).length + 7 * xs.length ≤ 100000) :
    Calls Try.prog 25 #[.pointer (some ⟨p, 0, none⟩), .int .i64 size, v] W fun e w' => e = .returned (.pointer (some ⟨p, 0, none⟩)) ∧ WS wB w' p (numsS size xs s) Q := by
  obtain ⟨⟨F, h1, hQ⟩⟩ := h
  refine (nums_any p _ s F h1.r size v xs (hr.keep h1.mod (fun _ _ e => e)) (fun k hk hf => by
    by_cases hlt : k < wB.heap.size
    · have := h1.low k hf; omega
    · have := hr.lt hk (by omega)
      simpa using this) (by omega)).mono ?_
  rintro e w' ⟨he, F', hW, hA⟩
  refine ⟨he, ⟨F', h1.aft hW hA, fun x hx => ⟨(hQ x hx).1.keep hA.1 (hQ x hx).2, fun hf => ?_⟩⟩⟩
  rcases hA.2 _ hf with h | h
  · exact (hQ x hx).2 h
  · have := (hQ x hx).1.lt; omega
end Go.Proofs.Ytabfmnlpipbegaa
