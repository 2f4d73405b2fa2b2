/- GraphOrder: the lists. -/
import Derived.Test.YtnibokikmckfiaaLawGR
import Derived.Test.YtnibokikmckfiaaBan
namespace Go.Proofs.Ytnibokikmckfiaa
open Go.RowKit Mile
/-- Two elements changed for each other. -/
def swp (B : List P2) (x y : Nat) : List P2 := (B.set x (B.getD y (0, 0))).set y (B.getD x (0, 0))
theorem swp_len (B : List P2) (x y : Nat) : (swp B x y).length = B.length := by simp [swp]
theorem swp_x (B : List P2) (x y : Nat) (hx : x < B.length) (hy : y < B.length) : (swp B x y)[x]? = some B[y] := by
  unfold swp
  by_cases e : x = y
  · subst e; simp [hx, List.getD]
  · rw [List.getElem?_set_ne (fun h => e h.symm), List.getElem?_set_self hx]; simp [List.getD, hy]
theorem swp_y (B : List P2) (x y : Nat) (hx : x < B.length) (hy : y < B.length) : (swp B x y)[y]? = some B[x] := by
  unfold swp
  rw [List.getElem?_set_self (by simpa using hy)]; simp [List.getD, hx]
theorem swp_other (B : List P2) (x y i : Nat) (hx : i ≠ x) (hy : i ≠ y) : (swp B x y)[i]? = B[i]? := by
  unfold swp
  rw [List.getElem?_set_ne (fun h => hy h.symm), List.getElem?_set_ne (fun h => hx h.symm)]
theorem swp_same (B : List P2) (x : Nat) (hx : x < B.length) : swp B x x = B := by
  refine List.ext_getElem? fun i => ?_
  by_cases e : i = x
  · subst e; rw [swp_x B i i hx hx]; simp [hx]
  · exact swp_other B x x i e e
theorem fm_at (B : List P2) (i : Nat) (x : P2) (h : B[i]? = some x) : (B.flatMap c2)[i * 2]? = some (.int .i64 x.1) ∧ (B.flatMap c2)[i * 2 + 1]? = some (.int .i64 x.2) := by
  obtain ⟨hi, he⟩ := List.getElem?_eq_some_iff.1 h
  have := c2_at B i hi
  rw [he] at this
  simpa using this
theorem fm_len (B : List P2) (k : Nat) (h : k < B.length * 2) : ∃ i b, i < B.length ∧ k = i * 2 + b ∧ (b = 0 ∨ b = 1) := ⟨k / 2, k % 2, by omega, by omega, by omega⟩
theorem fm_eq (A B : List P2) (i : Nat) (hA : i < A.length) (h : A[i]? = B[i]?) (b : Nat) (hb : b = 0 ∨ b = 1) : (A.flatMap c2)[i * 2 + b]? = (B.flatMap c2)[i * 2 + b]? := by
  have h1 : A[i]? = some A[i] := by simp [hA]
  have a := fm_at A i _ h1
  have c := fm_at B i _ (h ▸ h1)
  rcases hb with rfl | rfl
  · rw [Nat.add_zero, a.1, c.1]
  · rw [a.2, c.2]
theorem blt_asymm {x y : P2} (h : blt x y) (k : blt y x) : False := blt_irrefl x (blt_trans h k)
theorem swp_not {G : GD} (h : May G) (x y : Nat) (hx : x < G.B.length) (hy : y < G.B.length) (hxy : x ≠ y) : ¬ May ⟨G.N, G.E, swp G.B x y⟩ := fun hm => by
  have r1 := may_rising h
  have r2 := may_rising hm
  have l : (swp G.B x y).length = G.B.length := swp_len _ _ _
  have ex : (swp G.B x y)[x]'(by omega) = G.B[y] := by have := swp_x G.B x y hx hy; rw [List.getElem?_eq_some_iff] at this; exact this.2
  have ey : (swp G.B x y)[y]'(by omega) = G.B[x] := by have := swp_y G.B x y hx hy; rw [List.getElem?_eq_some_iff] at this; exact this.2
  rcases Nat.lt_or_ge x y with g | g
  · have a := rising_any r1 hy g
    have b := rising_any (B := swp G.B x y) r2 (i := x) (j := y) (by omega) g
    rw [ex, ey] at b
    exact blt_asymm a b
  · have g' : y < x := by omega
    have a := rising_any r1 hx g'
    have b := rising_any (B := swp G.B x y) r2 (i := y) (j := x) (by omega) g'
    rw [ex, ey] at b
    exact blt_asymm a b
theorem may_edge {G : GD} (h : May G) (h1 : 1 ≤ G.N.length) (h2 : G.E.length < 512) : May ⟨G.N, G.E ++ [(0, 0, 1)], G.B⟩ := by
  refine ⟨⟨h.1.1, by simp; omega, h.1.2.2⟩, h.2.1, fun x hx => ?_, fun i hi => ?_⟩
  · rcases List.mem_append.1 hx with hx | hx
    · exact h.2.2.1 x hx
    · rw [List.mem_singleton] at hx; subst hx
      have h3 : (0 : Int) < (G.N.length : Int) := by omega
      exact ⟨⟨Int.le_refl _, h3⟩, ⟨Int.le_refl _, h3⟩, by show (1 : Int) ≤ 1; omega, by show (1 : Int) ≤ 65535; omega⟩
  · obtain ⟨⟨b1, b2, b3⟩, b4⟩ := h.2.2.2 i hi
    refine ⟨⟨⟨b1.1, ?_⟩, ⟨b2.1, ?_⟩, ?_⟩, b4⟩
    · have : G.B[i].1 < (G.E.length : Int) := b1.2
      show G.B[i].1 < ((G.E ++ [(0, 0, 1)]).length : Int); simp; omega
    · have : G.B[i].2 < (G.E.length : Int) := b2.2
      show G.B[i].2 < ((G.E ++ [(0, 0, 1)]).length : Int); simp; omega
    · have e1 : eAt ⟨G.N, G.E ++ [(0, 0, 1)], G.B⟩ G.B[i].1 = eAt G G.B[i].1 := by
        unfold eAt; simp only [List.getD]; rw [List.getElem?_append_left (by have := b1.2; have := b1.1; omega)]
      have e2 : eAt ⟨G.N, G.E ++ [(0, 0, 1)], G.B⟩ G.B[i].2 = eAt G G.B[i].2 := by
        unfold eAt; simp only [List.getD]; rw [List.getElem?_append_left (by have := b2.2; have := b2.1; omega)]
      show (eAt ⟨G.N, G.E ++ [(0, 0, 1)], G.B⟩ G.B[i].1).2.1 = (eAt ⟨G.N, G.E ++ [(0, 0, 1)], G.B⟩ G.B[i].2).1
      rw [e1, e2]; exact b3
theorem not_may_ban (G : GD) : ¬ May ⟨G.N, G.E, G.B ++ [(0, (G.E.length : Int))]⟩ := fun h => by
  have h1 := (h.2.2.2 G.B.length (by simp)).1.2.1.2
  simp at h1
theorem c2_snoc' (l : List P2) (x : P2) : (l ++ [x]).flatMap c2 = l.flatMap c2 ++ c2 x := by simp
theorem c3_snoc' (l : List P3) (x : P3) : (l ++ [x]).flatMap c3 = l.flatMap c3 ++ c3 x := by simp
/-- A cell of a row that has come to stand as it is to. -/
def Placed (b : Nat) (T : TypeId) (tgt : List Value) (k : Nat) (W : World) : Prop := Room W b T k ∧ ∃ u, tgt[k]? = some u ∧ W.cell? ⟨b, k, none⟩ = some u
theorem Placed.keep {b : Nat} {T : TypeId} {tgt : List Value} {k : Nat} {W W' : World} (h : Placed b T tgt k W) (m : Tow b T tgt W W') : Placed b T tgt k W' := by
  obtain ⟨r, u, hu, hc⟩ := h
  exact ⟨m.shp r, u, hu, m.there r hu hc⟩
def Placed2 (b : Nat) (T : TypeId) (tgt : List Value) (k : Nat) : Value → World → Prop := fun _ W => Placed b T tgt k W ∧ Placed b T tgt (k + 1) W
theorem Placed2.st {b : Nat} {T : TypeId} {tgt : List Value} {k : Nat} : Stable (Tow b T tgt) (Placed2 b T tgt k) := fun _ _ _ ⟨h1, h2⟩ m => ⟨h1.keep m, h2.keep m⟩
theorem placed_set {b : Nat} {T : TypeId} {tgt : List Value} {k : Nat} {W : World} {u v : Value} (h1 : Room W b T k) (h2 : Room W b T (k + 1)) (hu : tgt[k]? = some u) (hv : tgt[k + 1]? = some v) :
    Placed2 b T tgt k undef ((W.setCell ⟨b, k, none⟩ u).setCell ⟨b, k + 1, none⟩ v) ∧ Tow b T tgt W ((W.setCell ⟨b, k, none⟩ u).setCell ⟨b, k + 1, none⟩ v) := by
  have t1 : Tow b T tgt W (W.setCell ⟨b, k, none⟩ u) := Tow.set k u hu
  have t2 : Tow b T tgt (W.setCell ⟨b, k, none⟩ u) ((W.setCell ⟨b, k, none⟩ u).setCell ⟨b, k + 1, none⟩ v) := Tow.set (k + 1) v hv
  have t := t1.trans t2
  obtain ⟨v1, c1⟩ := h1.cell
  obtain ⟨v2, c2⟩ := (t1.shp h2).cell
  have p1 : (W.setCell ⟨b, k, none⟩ u).cell? ⟨b, k, none⟩ = some u := by
    obtain ⟨cur, hc, hk⟩ := h1
    rw [cell_of_row _ b k _ T (0, 0) (heap_setCell_same W b k cur T u hc)]; simp [hk]
  have p2 : ((W.setCell ⟨b, k, none⟩ u).setCell ⟨b, k + 1, none⟩ v).cell? ⟨b, k + 1, none⟩ = some v := by
    obtain ⟨cur, hc, hk⟩ := t1.shp h2
    rw [cell_of_row _ b (k + 1) _ T (0, 0) (heap_setCell_same _ b (k + 1) cur T v hc)]; simp [hk]
  exact ⟨⟨⟨t.shp h1, u, hu, t2.there (t1.shp h1) hu p1⟩, ⟨t.shp h2, v, hv, p2⟩⟩, t⟩
end Go.Proofs.Ytnibokikmckfiaa
