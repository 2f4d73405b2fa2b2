/- What file reads of what it wrote: plain lists. -/
import Derived.Test.YtdccpikddhpleaaDec6b
namespace Go.Proofs.Ytdccpikddhpleaa
open Go.RowKit Mile
set_option maxRecDepth 100000
theorem numR2_app (x : Int) (r : List Int) (h : 0 ≤ x ∧ x < 65536) : numR 2 (some (digs x 2 ++ r)) = (x, some r) := by
  have hf : fits 2 x = true := by unfold fits; simp; omega
  have h0 := numR_some 2 (by decide) (digs x 2 ++ r)
  rw [if_pos (by rw [List.length_append, digs_length]; omega), List.take_left' (digs_length x 2), List.drop_left' (digs_length x 2), undigs_digs_fit x 2 hf] at h0
  exact h0
theorem rdNode_app (x : P2) (r : List Int) (h : (0 ≤ x.1 ∧ x.1 < 65536) ∧ (0 ≤ x.2 ∧ x.2 < 65536)) : rdNode (some (nodeB x ++ r)) = (x, some r) := by
  have e : nodeB x ++ r = digs x.1 2 ++ (digs x.2 2 ++ r) := by simp [nodeB, nb2]
  unfold rdNode
  rw [e, numR2_app _ _ h.1]
  show ((x.1, (numR 2 (some (digs x.2 2 ++ r))).1), (numR 2 (some (digs x.2 2 ++ r))).2) = _
  rw [numR2_app _ _ h.2]
theorem rdEdge_app (x : P3) (r : List Int) (h : (0 ≤ x.1 ∧ x.1 < 65536) ∧ (0 ≤ x.2.1 ∧ x.2.1 < 65536) ∧ (0 ≤ x.2.2 ∧ x.2.2 < 65536)) : rdEdge (some (edgeB x ++ r)) = (x, some r) := by
  have e : edgeB x ++ r = digs x.1 2 ++ (digs x.2.1 2 ++ (digs x.2.2 2 ++ r)) := by simp [edgeB, nb2]
  unfold rdEdge
  rw [e, numR2_app _ _ h.1]
  show ((x.1, (numR 2 (some (digs x.2.1 2 ++ (digs x.2.2 2 ++ r)))).1, (numR 2 (numR 2 (some (digs x.2.1 2 ++ (digs x.2.2 2 ++ r)))).2).1), (numR 2 (numR 2 (some (digs x.2.1 2 ++ (digs x.2.2 2 ++ r)))).2).2) = _
  rw [numR2_app _ _ h.2.1]
  show ((x.1, x.2.1, (numR 2 (some (digs x.2.2 2 ++ r))).1), (numR 2 (some (digs x.2.2 2 ++ r))).2) = _
  rw [numR2_app _ _ h.2.2]
theorem rowsL_app {α : Type} (rd : RS → α × RS) (f : α → List Int) (hf : ∀ x, (f x).length ≠ 0) : ∀ (l : List α) (r : List Int), (∀ x ∈ l, ∀ r, rd (some (f x ++ r)) = (x, some r)) → rowsL rd l.length (some (l.flatMap f ++ r)) = (l, some r)
  | [], r, _ => by simp [rowsL]
  | x :: l, r, h => by
    rw [List.flatMap_cons, List.append_assoc, List.length_cons, rowsL_go rd _ _ (by have := hf x; simp only [Option.getD_some, List.length_append]; omega), h x (by simp)]
    show (x :: (rowsL rd l.length (some (l.flatMap f ++ r))).1, (rowsL rd l.length (some (l.flatMap f ++ r))).2) = _
    rw [rowsL_app rd f hf l r (fun y hy => h y (by simp [hy]))]
theorem parse_file (G : GD) (h : May G) : parseG (fileG G) = G := by
  obtain ⟨T, hT⟩ : ∃ T, digs (csum (ahG G)).toNat 4 = T := ⟨_, rfl⟩
  have e : fileG G = [77, 73, 76, 69] ++ (digs (G.N.length : Int) 2 ++ (digs (G.E.length : Int) 2 ++ (digs (G.B.length : Int) 2 ++ (G.N.flatMap nodeB ++ (G.E.flatMap edgeB ++ (G.B.flatMap nodeB ++ T)))))) := by
    unfold fileG
    rw [hT]
    unfold ahG hdG nb2
    simp only [List.flatMap_cons, List.flatMap_nil, List.append_assoc, List.append_nil]
  have h1 : G.N.length < 65536 := by have := h.1.1.2; omega
  have h2 : G.E.length < 65536 := by have := h.1.2.1; omega
  have h3 : G.B.length < 65536 := by have := h.1.2.2; omega
  have s1 : pS1 (fileG G) = some (digs (G.N.length : Int) 2 ++ (digs (G.E.length : Int) 2 ++ (digs (G.B.length : Int) 2 ++ (G.N.flatMap nodeB ++ (G.E.flatMap edgeB ++ (G.B.flatMap nodeB ++ T)))))) := by
    unfold pS1 takeS
    rw [e, if_pos (by simp only [Option.getD_some, List.length_append, List.length_cons]; omega)]
    rfl
  have n1 := numR2_app (G.N.length : Int) (digs (G.E.length : Int) 2 ++ (digs (G.B.length : Int) 2 ++ (G.N.flatMap nodeB ++ (G.E.flatMap edgeB ++ (G.B.flatMap nodeB ++ T))))) (by omega)
  rw [← s1] at n1
  have n2 := numR2_app (G.E.length : Int) (digs (G.B.length : Int) 2 ++ (G.N.flatMap nodeB ++ (G.E.flatMap edgeB ++ (G.B.flatMap nodeB ++ T)))) (by omega)
  have s2 : pS2 (fileG G) = some (digs (G.E.length : Int) 2 ++ (digs (G.B.length : Int) 2 ++ (G.N.flatMap nodeB ++ (G.E.flatMap edgeB ++ (G.B.flatMap nodeB ++ T))))) := by unfold pS2; rw [n1]
  rw [← s2] at n2
  have n3 := numR2_app (G.B.length : Int) (G.N.flatMap nodeB ++ (G.E.flatMap edgeB ++ (G.B.flatMap nodeB ++ T))) (by omega)
  have s3 : pS3 (fileG G) = some (digs (G.B.length : Int) 2 ++ (G.N.flatMap nodeB ++ (G.E.flatMap edgeB ++ (G.B.flatMap nodeB ++ T)))) := by unfold pS3; rw [n2]
  rw [← s3] at n3
  have s4 : pS4 (fileG G) = some (G.N.flatMap nodeB ++ (G.E.flatMap edgeB ++ (G.B.flatMap nodeB ++ T))) := by unfold pS4; rw [n3]
  have mN := rowsL_app rdNode nodeB (fun x => by rw [nodeB_len]; decide) G.N (G.E.flatMap edgeB ++ (G.B.flatMap nodeB ++ T)) (fun x hx r => by obtain ⟨k, hk, rfl⟩ := List.getElem_of_mem hx; exact rdNode_app _ r (may_node G h k hk))
  have pn : pN (fileG G) = (G.N, some (G.E.flatMap edgeB ++ (G.B.flatMap nodeB ++ T))) := by unfold pN; rw [n1, s4]; exact mN
  have mE := rowsL_app rdEdge edgeB (fun x => by rw [edgeB_len]; decide) G.E (G.B.flatMap nodeB ++ T) (fun x hx r => by obtain ⟨k, hk, rfl⟩ := List.getElem_of_mem hx; exact rdEdge_app _ r (may_edge G h k hk))
  have pe : pE (fileG G) = (G.E, some (G.B.flatMap nodeB ++ T)) := by unfold pE; rw [n2, pn]; exact mE
  have mB := rowsL_app rdNode nodeB (fun x => by rw [nodeB_len]; decide) G.B T (fun x hx r => by obtain ⟨k, hk, rfl⟩ := List.getElem_of_mem hx; exact rdNode_app _ r (may_ban G h k hk))
  have pb : pB (fileG G) = (G.B, some T) := by unfold pB; rw [n3, pe]; exact mB
  unfold parseG
  rw [pn, pe, pb]
theorem file_inj {G H : GD} (hg : May G) (hh : May H) (e : fileG G = fileG H) : G = H := by rw [← parse_file G hg, ← parse_file H hh, e]
/-- Where a part of a list stands. -/
theorem fm_at {α : Type} (f : α → List Int) (n : Nat) (hf : ∀ x, (f x).length = n) (j : Nat) (hj : j < n) : ∀ (l : List α) (k : Nat) (hk : k < l.length), (l.flatMap f)[n * k + j]? = (f l[k])[j]?
  | [], k, hk => absurd hk (by simp)
  | x :: l, 0, _ => by rw [List.flatMap_cons, Nat.mul_zero, Nat.zero_add, List.getElem?_append_left (by rw [hf]; exact hj)]; rfl
  | x :: l, k + 1, hk => by
    rw [List.flatMap_cons, List.getElem?_append_right (by rw [hf, Nat.mul_add]; omega), hf, show n * (k + 1) + j - n = n * k + j by rw [Nat.mul_add]; omega, fm_at f n hf j hj l k (by simpa using hk)]
    rfl
theorem file_node (G : GD) (k : Nat) (hk : k < G.N.length) (j : Nat) (hj : j < 4) : (fileG G)[10 + 4 * k + j]? = (nodeB G.N[k])[j]? := by
  have hl := ahG_len G
  have hn : (G.N.flatMap nodeB).length = 4 * G.N.length := fm_len2 nodeB 4 nodeB_len G.N
  unfold fileG
  rw [List.getElem?_append_left (by omega)]
  unfold ahG
  rw [List.append_assoc, List.append_assoc, List.getElem?_append_right (by rw [hdG_len]; omega), hdG_len, List.getElem?_append_left (by rw [hn]; omega), show 10 + 4 * k + j - 10 = 4 * k + j by omega]
  exact fm_at nodeB 4 nodeB_len j hj G.N k hk
theorem file_edge (G : GD) (k : Nat) (hk : k < G.E.length) (j : Nat) (hj : j < 6) : (fileG G)[10 + 4 * G.N.length + 6 * k + j]? = (edgeB G.E[k])[j]? := by
  have hl := ahG_len G
  have hn : (G.N.flatMap nodeB).length = 4 * G.N.length := fm_len2 nodeB 4 nodeB_len G.N
  have he : (G.E.flatMap edgeB).length = 6 * G.E.length := fm_len2 edgeB 6 edgeB_len G.E
  unfold fileG
  rw [List.getElem?_append_left (by omega)]
  unfold ahG
  rw [List.append_assoc, List.append_assoc, List.getElem?_append_right (by rw [hdG_len]; omega), hdG_len, List.getElem?_append_right (by rw [hn]; omega), hn, List.getElem?_append_left (by rw [he]; omega), show 10 + 4 * G.N.length + 6 * k + j - 10 - 4 * G.N.length = 6 * k + j by omega]
  exact fm_at edgeB 6 edgeB_len j hj G.E k hk
end Go.Proofs.Ytdccpikddhpleaa
