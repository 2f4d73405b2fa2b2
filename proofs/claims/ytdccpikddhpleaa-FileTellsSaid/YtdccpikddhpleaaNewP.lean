/- Rows and the object of a new graph: what stays. -/
import Derived.Test.YtdccpikddhpleaaRow2
namespace Mile
open Go Go.RowKit
theorem keys_start {G : GD} (h : May G) : KeysOk (G.E.map (·.1)) G.N.length := by
  intro i hi
  rw [List.length_map] at hi
  have := (h.2.2.1 G.E[i] (List.getElem_mem hi)).1
  simpa [List.getD, List.getElem?_map, hi] using this
theorem keys_end {G : GD} (h : May G) : KeysOk (G.E.map (·.2.1)) G.N.length := by
  intro i hi
  rw [List.length_map] at hi
  have := (h.2.2.1 G.E[i] (List.getElem_mem hi)).2.1
  simpa [List.getD, List.getElem?_map, hi] using this
end Mile
namespace Go.Proofs.Ytdccpikddhpleaa
open Go.RowKit Mile

theorem inB_mono {B B' C : Nat} {v : Value} (h : InB B C v) (hB : B' ≤ B) : InB B' C v := fun k hk => ⟨by have := (h k hk).1; omega, (h k hk).2⟩
theorem inB_wide {B C C' : Nat} {v : Value} (h : InB B C v) (hC : C ≤ C') : InB B C' v := fun k hk => ⟨(h k hk).1, by have := (h k hk).2; omega⟩
/-- The rows of all nodes, in new memory. -/
def NewRows (B N n : Nat) (ks : List Int) : Value → World → Prop := fun v W => ∃ a c b d, v = .agg #[.slice a n c, .slice b (N + 1) d] ∧ RowD W a n c b (N + 1) d N ks ∧ InB B W.heap.size (.slice a n c) ∧ InB B W.heap.size (.slice b (N + 1) d)
theorem newRows_stays {B N n : Nat} {ks : List Int} : ∀ v w w', NewRows B N n ks v w → Mod (fun _ => False) w w' → NewRows B N n ks v w' := by
  rintro v w w' ⟨a, c, b, d, rfl, h1, h2, h3⟩ hm
  exact ⟨a, c, b, d, rfl, h1.keep hm (fun _ _ e => e) (fun _ _ e => e), inB_wide h2 hm.size, inB_wide h3 hm.size⟩
theorem newGraph_stays {B n1 n2 n3 : Nat} {G : GD} : ∀ v w w', NewGraph B n1 n2 n3 G v w → Mod (fun _ => False) w w' → NewGraph B n1 n2 n3 G v w' := by
  rintro v w w' ⟨x1, z1, x2, z2, x3, z3, rfl, h1, h2, h3⟩ hm
  exact ⟨x1, z1, x2, z2, x3, z3, rfl, Own.keep h1 hm (fun _ _ e => e), Own.keep h2 hm (fun _ _ e => e), Own.keep h3 hm (fun _ _ e => e)⟩
theorem newGraph_base {B B' n1 n2 n3 : Nat} {G : GD} {v : Value} {w : World} (h : NewGraph B n1 n2 n3 G v w) (hB : B' ≤ B) : NewGraph B' n1 n2 n3 G v w := by
  obtain ⟨x1, z1, x2, z2, x3, z3, rfl, h1, h2, h3⟩ := h
  exact ⟨x1, z1, x2, z2, x3, z3, rfl, Own.base h1 hB, Own.base h2 hB, Own.base h3 hB⟩
def NewBody (B n1 n2 n3 : Nat) (G : GD) : Value → World → Prop := fun v W => ∃ x1 z1 x2 z2 x3 z3 x4 z4 x5 z5 x6 z6 x7 z7, v = .agg #[.slice x1 n1 z1, .slice x2 n2 z2, .slice x3 n3 z3, .slice x4 n2 z4, .slice x5 (n1 + 1) z5, .slice x6 n2 z6, .slice x7 (n1 + 1) z7] ∧
  W.ownsRow B 50 2 (.slice x1 n1 z1) n1 (G.N.flatMap c2) ∧ W.ownsRow B 52 3 (.slice x2 n2 z2) n2 (G.E.flatMap c3) ∧ W.ownsRow B 63 2 (.slice x3 n3 z3) n3 (G.B.flatMap c2) ∧
  (RowD W x4 n2 z4 x5 (n1 + 1) z5 n1 (G.E.map (·.1)) ∧ InB B W.heap.size (.slice x4 n2 z4) ∧ InB B W.heap.size (.slice x5 (n1 + 1) z5)) ∧ (RowD W x6 n2 z6 x7 (n1 + 1) z7 n1 (G.E.map (·.2.1)) ∧ InB B W.heap.size (.slice x6 n2 z6) ∧ InB B W.heap.size (.slice x7 (n1 + 1) z7))
theorem newBody_stays {B n1 n2 n3 : Nat} {G : GD} : ∀ v w w', NewBody B n1 n2 n3 G v w → Mod (fun _ => False) w w' → NewBody B n1 n2 n3 G v w' := by
  rintro v w w' ⟨x1, z1, x2, z2, x3, z3, x4, z4, x5, z5, x6, z6, x7, z7, rfl, h1, h2, h3, ⟨r1, i1, i2⟩, r2, i3, i4⟩ hm
  exact ⟨x1, z1, x2, z2, x3, z3, x4, z4, x5, z5, x6, z6, x7, z7, rfl, Own.keep h1 hm (fun _ _ e => e), Own.keep h2 hm (fun _ _ e => e), Own.keep h3 hm (fun _ _ e => e),
    ⟨r1.keep hm (fun _ _ e => e) (fun _ _ e => e), inB_wide i1 hm.size, inB_wide i2 hm.size⟩, r2.keep hm (fun _ _ e => e) (fun _ _ e => e), inB_wide i3 hm.size, inB_wide i4 hm.size⟩
/-- A graph of the call's own, in blocks from B on. -/
def NewObj (B : Nat) (G : GD) : Value → World → Prop := fun v W => ∃ p C, v = .pointer (some ⟨p, 0, none⟩) ∧ GO W p B C G
theorem newObj_stays {B : Nat} {G : GD} : ∀ v w w', NewObj B G v w → Mod (fun _ => False) w w' → NewObj B G v w' := by
  rintro v w w' ⟨p, C, rfl, h⟩ hm
  exact ⟨p, C, rfl, h.keep hm (fun _ _ _ e => e)⟩
theorem GO.base {w : World} {p B B' C : Nat} {G : GD} (h : GO w p B C G) (hB : B' ≤ B) : GO w p B' C G := by
  obtain ⟨⟨a1, n1, d1, a2, n2, d2, a3, n3, d3, a4, n4, d4, a5, n5, d5, a6, n6, d6, a7, n7, d7, hb, hv, ho, hi, b1, b2, b3, b4, b5, b6, b7⟩, hat, hmay, hlt⟩ := h
  exact ⟨⟨a1, n1, d1, a2, n2, d2, a3, n3, d3, a4, n4, d4, a5, n5, d5, a6, n6, d6, a7, n7, d7, hb, hv, ho, hi, inB_mono b1 hB, inB_mono b2 hB, inB_mono b3 hB, inB_mono b4 hB, inB_mono b5 hB, inB_mono b6 hB, inB_mono b7 hB⟩, ⟨by omega, hat.2⟩, hmay, hlt⟩
theorem GO.wide {w : World} {p B C : Nat} {G : GD} (h : GO w p B C G) : GO w p B w.heap.size G := by
  obtain ⟨⟨a1, n1, d1, a2, n2, d2, a3, n3, d3, a4, n4, d4, a5, n5, d5, a6, n6, d6, a7, n7, d7, hb, hv, ho, hi, b1, b2, b3, b4, b5, b6, b7⟩, hat, hmay, hlt⟩ := h
  exact ⟨⟨a1, n1, d1, a2, n2, d2, a3, n3, d3, a4, n4, d4, a5, n5, d5, a6, n6, d6, a7, n7, d7, hb, hv, ho, hi, inB_wide b1 hlt, inB_wide b2 hlt, inB_wide b3 hlt, inB_wide b4 hlt, inB_wide b5 hlt, inB_wide b6 hlt, inB_wide b7 hlt⟩, ⟨hat.1, by omega⟩, hmay, Nat.le_refl _⟩
theorem newObj_of {B n1 n2 n3 : Nat} {G : GD} {W : World} {x1 : Option Addr} {z1 : Nat} {x2 : Option Addr} {z2 : Nat} {x3 : Option Addr} {z3 : Nat} {x4 : Option Addr} {z4 : Nat} {x5 : Option Addr} {z5 : Nat} {x6 : Option Addr} {z6 : Nat} {x7 : Option Addr} {z7 : Nat} (hn : G.N.length = n1) (he : G.E.length = n2) (hb : G.B.length = n3) (hm : May G) (hB : B ≤ W.heap.size)
    (h : W.ownsRow B 50 2 (.slice x1 n1 z1) n1 (G.N.flatMap c2) ∧ W.ownsRow B 52 3 (.slice x2 n2 z2) n2 (G.E.flatMap c3) ∧ W.ownsRow B 63 2 (.slice x3 n3 z3) n3 (G.B.flatMap c2) ∧
      (RowD W x4 n2 z4 x5 (n1 + 1) z5 n1 (G.E.map (·.1)) ∧ InB B W.heap.size (.slice x4 n2 z4) ∧ InB B W.heap.size (.slice x5 (n1 + 1) z5)) ∧ (RowD W x6 n2 z6 x7 (n1 + 1) z7 n1 (G.E.map (·.2.1)) ∧ InB B W.heap.size (.slice x6 n2 z6) ∧ InB B W.heap.size (.slice x7 (n1 + 1) z7))) :
    NewObj B G (.pointer (some ⟨W.heap.size, 0, none⟩)) (W.alloc (.cells #[.slice x1 n1 z1, .slice x2 n2 z2, .slice x3 n3 z3, .slice x4 n2 z4, .slice x5 (n1 + 1) z5, .slice x6 n2 z6, .slice x7 (n1 + 1) z7] 85)) := by
  obtain ⟨h1, h2, h3, ⟨r1, i1, i2⟩, r2, i3, i4⟩ := h
  have hA := Mod.alloc (fun _ => False) W (.cells #[.slice x1 n1 z1, .slice x2 n2 z2, .slice x3 n3 z3, .slice x4 n2 z4, .slice x5 (n1 + 1) z5, .slice x6 n2 z6, .slice x7 (n1 + 1) z7] 85)
  have hs := hA.size
  have i0 : ∀ {T : TypeId} {size n : Nat} {v : Value} {xs : List Value}, W.ownsRow B T size v n xs → InB B (W.heap.size + 1) v := fun h k hk => ⟨(World.ownsRow.lt h k hk).1, by have := (World.ownsRow.lt h k hk).2; omega⟩
  refine ⟨W.heap.size, W.heap.size + 1, rfl, ⟨x1, n1, z1, x2, n2, z2, x3, n3, z3, x4, n2, z4, x5, n1 + 1, z5, x6, n2, z6, x7, n1 + 1, z7, Blk.new W _ [.slice x1 n1 z1, .slice x2 n2 z2, .slice x3 n3 z3, .slice x4 n2 z4, .slice x5 (n1 + 1) z5, .slice x6 n2 z6, .slice x7 (n1 + 1) z7], ?_, ?_, ?_, i0 h1, i0 h2, i0 h3, inB_wide i1 (by omega), inB_wide i2 (by omega), inB_wide i3 (by omega), inB_wide i4 (by omega)⟩, ⟨hB, by omega⟩, hm, by simp⟩
  · exact ⟨hn, he, hb, (Rd.ofOwn h1).keepA hA (fun _ _ e => e.elim), (Rd.ofOwn h2).keepA hA (fun _ _ e => e.elim), (Rd.ofOwn h3).keepA hA (fun _ _ e => e.elim)⟩
  · rw [hn]; exact r1.keep hA (fun _ _ e => e) (fun _ _ e => e)
  · rw [hn]; exact r2.keep hA (fun _ _ e => e) (fun _ _ e => e)
/-- What each operation of the statement leaves. -/
def newr_F (B g : Nat) (a1 : Option Addr) (n1 u1 : Nat) (a2 : Option Addr) (n2 u2 : Nat) (a3 : Option Addr) (n3 u3 : Nat) (G : GD) : List (Value → World → Prop) :=
  [IsV (.agg #[.slice a1 n1 u1, .slice a2 n2 u2, .slice a3 n3 u3]),
   (NewGraph B n1 n2 n3 G),
   IsV (.int .i64 (n1 : Int)),
   IsV (.pointer (some ⟨g, 1, none⟩)),
   IsV (.slice a2 n2 u2),
   (NewRows B n1 n2 (G.E.map (·.1))),
   IsV (.int .i64 (n1 : Int)),
   IsV (.pointer (some ⟨g, 1, none⟩)),
   IsV (.slice a2 n2 u2),
   (NewRows B n1 n2 (G.E.map (·.2.1))),
   (NewBody B n1 n2 n3 G),
   (NewObj B G),
   (NewObj B G),
   IsV (.int .i64 0)]
def newr_D : List (List Nat) := [[], [0], [], [], [3], [2, 4], [], [], [7], [6, 8], [1, 5, 9], [10], [11], []]
end Go.Proofs.Ytdccpikddhpleaa
