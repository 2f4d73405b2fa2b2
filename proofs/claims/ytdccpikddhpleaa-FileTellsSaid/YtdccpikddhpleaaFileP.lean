/- A graph as bytes, as plain lists. -/
import Derived.Test.YtdccpikddhpleaaFr1
import Derived.Test.YtdccpikddhpleaaGr2
namespace Mile
open Go Go.RowKit
/-- Numbers of two bytes each. -/
def nb2 (l : List Int) : List Int := l.flatMap (fun x => digs x 2)
theorem nb2_len : ∀ l : List Int, (nb2 l).length = 2 * l.length
  | [] => rfl
  | x :: l => by have h := nb2_len l; unfold nb2 at h ⊢; rw [List.flatMap_cons, List.length_append, digs_length, h, List.length_cons]; omega
theorem nb2_range (l : List Int) : ∀ b ∈ nb2 l, 0 ≤ b ∧ b < 256 := fun b hb => by
  unfold nb2 at hb
  obtain ⟨x, _, hx⟩ := List.mem_flatMap.1 hb
  exact digs_range x 2 b hx
theorem numsL_all : ∀ (ns bs : List Int), (∀ x ∈ ns, 0 ≤ x ∧ x < 65536) → numsL 2 bs ns = some (bs ++ nb2 ns)
  | [], bs, _ => by simp [numsL, nb2]
  | n :: r, bs, h => by
    have hn := h n (by simp)
    have hf : fits 2 n = true := by unfold fits; simp; omega
    rw [numsL, if_pos hf, numsL_all r _ (fun x hx => h x (by simp [hx]))]
    simp [nb2]
theorem nums_all (ns bs : List Int) (h : ∀ x ∈ ns, 0 ≤ x ∧ x < 65536) : numsS 2 ns (some bs) = some (bs ++ nb2 ns) := by
  show (if sizeOk 2 then numsL (2 : Int).toNat bs ns else none) = _
  rw [if_pos (by decide)]
  exact numsL_all ns bs h
def nodeB (x : P2) : List Int := nb2 [x.1, x.2]
def edgeB (x : P3) : List Int := nb2 [x.1, x.2.1, x.2.2]
def hdG (G : GD) : List Int := [77, 73, 76, 69] ++ nb2 [(G.N.length : Int), (G.E.length : Int), (G.B.length : Int)]
def ahG (G : GD) : List Int := hdG G ++ G.N.flatMap nodeB ++ G.E.flatMap edgeB ++ G.B.flatMap nodeB
def fileG (G : GD) : List Int := ahG G ++ digs (csum (ahG G)).toNat 4
theorem fm_len2 {α : Type} (f : α → List Int) (k : Nat) (hf : ∀ x, (f x).length = k) : ∀ l : List α, (l.flatMap f).length = k * l.length
  | [] => by simp
  | x :: l => by rw [List.flatMap_cons, List.length_append, hf, fm_len2 f k hf l, List.length_cons, Nat.mul_add]; omega
theorem nodeB_len (x : P2) : (nodeB x).length = 4 := by simp [nodeB, nb2_len]
theorem edgeB_len (x : P3) : (edgeB x).length = 6 := by simp [edgeB, nb2_len]
theorem hdG_len (G : GD) : (hdG G).length = 10 := by simp [hdG, nb2_len]
theorem ahG_len (G : GD) : (ahG G).length = 10 + 4 * G.N.length + 6 * G.E.length + 4 * G.B.length := by
  unfold ahG
  rw [List.length_append, List.length_append, List.length_append, hdG_len, fm_len2 nodeB 4 nodeB_len, fm_len2 edgeB 6 edgeB_len, fm_len2 nodeB 4 nodeB_len]
theorem fileG_len (G : GD) : (fileG G).length = 14 + 4 * G.N.length + 6 * G.E.length + 4 * G.B.length := by
  unfold fileG; rw [List.length_append, ahG_len, digs_length]; omega
theorem ahG_range (G : GD) : ∀ b ∈ ahG G, 0 ≤ b ∧ b < 256 := fun b hb => by
  unfold ahG hdG at hb
  simp only [List.mem_append] at hb
  rcases hb with (((hb | hb) | hb) | hb) | hb
  · simp at hb; omega
  · exact nb2_range _ b hb
  · obtain ⟨x, _, hx⟩ := List.mem_flatMap.1 hb; exact nb2_range _ b hx
  · obtain ⟨x, _, hx⟩ := List.mem_flatMap.1 hb; exact nb2_range _ b hx
  · obtain ⟨x, _, hx⟩ := List.mem_flatMap.1 hb; exact nb2_range _ b hx
theorem fileG_range (G : GD) : ∀ b ∈ fileG G, 0 ≤ b ∧ b < 256 := fun b hb => by
  unfold fileG at hb
  rcases List.mem_append.1 hb with e | e
  · exact ahG_range G b e
  · exact digs_range _ _ b e
theorem fm_take {α : Type} (f : α → List Int) (l : List α) (k : Nat) (h : k < l.length) : (l.take (k + 1)).flatMap f = (l.take k).flatMap f ++ f l[k] := by
  rw [List.take_succ_eq_append_getElem h, List.flatMap_append]; simp
theorem fm_take_len {α : Type} (f : α → List Int) (n : Nat) (hf : ∀ x, (f x).length = n) (l : List α) (k : Nat) : ((l.take k).flatMap f).length ≤ n * l.length := by
  rw [fm_len2 f n hf]; exact Nat.mul_le_mul_left _ (by rw [List.length_take]; omega)
theorem may_node (G : GD) (h : May G) (k : Nat) (hk : k < G.N.length) : (0 ≤ (G.N[k]).1 ∧ (G.N[k]).1 < 65536) ∧ (0 ≤ (G.N[k]).2 ∧ (G.N[k]).2 < 65536) := by
  obtain ⟨⟨a, b⟩, c, d⟩ := h.2.1 _ (List.getElem_mem hk); omega
theorem may_edge (G : GD) (h : May G) (k : Nat) (hk : k < G.E.length) : (0 ≤ (G.E[k]).1 ∧ (G.E[k]).1 < 65536) ∧ (0 ≤ (G.E[k]).2.1 ∧ (G.E[k]).2.1 < 65536) ∧ (0 ≤ (G.E[k]).2.2 ∧ (G.E[k]).2.2 < 65536) := by
  obtain ⟨⟨a, b⟩, ⟨c, d⟩, e, f⟩ := h.2.2.1 _ (List.getElem_mem hk)
  have := h.1.1.2; omega
theorem may_ban (G : GD) (h : May G) (k : Nat) (hk : k < G.B.length) : (0 ≤ (G.B[k]).1 ∧ (G.B[k]).1 < 65536) ∧ (0 ≤ (G.B[k]).2 ∧ (G.B[k]).2 < 65536) := by
  obtain ⟨⟨a, b⟩, ⟨c, d⟩, _⟩ := (h.2.2.2 k hk).1
  have := h.1.2.1; omega
end Mile
