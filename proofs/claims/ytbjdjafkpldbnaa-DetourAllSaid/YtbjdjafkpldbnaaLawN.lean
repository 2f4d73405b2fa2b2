/- New, Node, Edge of a graph, as the laws ask for them; the edges at a node. -/
import Derived.Test.YtbjdjafkpldbnaaEvG
import Derived.Test.YtbjdjafkpldbnaaKRow
import Derived.Test.YtbjdjafkpldbnaaIRow
namespace Go.Proofs.Ytbjdjafkpldbnaa
open Go.RowKit Mile
theorem new_at (G : GD) (hmay : May G) (w : World) (a1 : Option Addr) (n1 u1 : Nat) (a2 : Option Addr) (n2 u2 : Nat) (a3 : Option Addr) (n3 u3 : Nat) (h : GV w a1 n1 u1 a2 n2 u2 a3 n3 u3 G) :
    Calls Try.prog 20 #[.agg #[.slice a1 n1 u1, .slice a2 n2 u2, .slice a3 n3 u3]] w fun e w' => ∃ p B C, e = .returned (.tuple #[.pointer (some ⟨p, 0, none⟩), .int .i64 0]) ∧ w.heap.size ≤ B ∧ GO w' p B C G ∧ Mod (fun _ => False) w w' :=
  (new_any G w a1 n1 u1 a2 n2 u2 a3 n3 u3 h).mono fun _ _ hp => by
    rcases hp with ⟨_, p, he, hG, hM⟩ | ⟨hn, _⟩
    · exact ⟨p, _, _, he, Nat.le_refl _, hG, hM⟩
    · exact absurd hmay hn
theorem new_ok (G : GD) (hmay : May G) (w : World) (a1 : Option Addr) (n1 u1 : Nat) (a2 : Option Addr) (n2 u2 : Nat) (a3 : Option Addr) (n3 u3 : Nat) (h : GV w a1 n1 u1 a2 n2 u2 a3 n3 u3 G) :
    Calls Try.prog 20 #[.agg #[.slice a1 n1 u1, .slice a2 n2 u2, .slice a3 n3 u3]] w fun e w' => ∃ p B C, e = .returned (.tuple #[.pointer (some ⟨p, 0, none⟩), .int .i64 0]) ∧ GO w' p B C G ∧ Mod (fun _ => False) w w' :=
  (new_any G w a1 n1 u1 a2 n2 u2 a3 n3 u3 h).mono fun _ _ hp => by
    rcases hp with ⟨_, p, he, hG, hM⟩ | ⟨hn, _⟩
    · exact ⟨p, _, _, he, hG, hM⟩
    · exact absurd hmay hn
theorem new_no (G : GD) (hmay : ¬ May G) (w : World) (a1 : Option Addr) (n1 u1 : Nat) (a2 : Option Addr) (n2 u2 : Nat) (a3 : Option Addr) (n3 u3 : Nat) (h : GV w a1 n1 u1 a2 n2 u2 a3 n3 u3 G) :
    Calls Try.prog 20 #[.agg #[.slice a1 n1 u1, .slice a2 n2 u2, .slice a3 n3 u3]] w fun e w' => e = .returned (.tuple #[.pointer none, .int .i64 1]) ∧ Mod (fun _ => False) w w' :=
  (new_any G w a1 n1 u1 a2 n2 u2 a3 n3 u3 h).mono fun _ _ hp => by
    rcases hp with ⟨hn, _⟩ | ⟨_, he, hM⟩
    · exact absurd hn hmay
    · exact ⟨he, hM⟩
theorem node_at (p B C : Nat) (w : World) (G : GD) (h : GO w p B C G) (k : Nat) (hk : k < G.N.length) (x y : Int) (hx : (G.N[k]'hk).1 = x) (hy : (G.N[k]'hk).2 = y) :
    Calls Try.prog 56 #[.pointer (some ⟨p, 0, none⟩), .int .i64 (k : Int)] w fun e w' => e = .returned (.tuple #[.agg #[.int .i64 x, .int .i64 y], .bool true]) ∧ Mod (fun _ => False) w w' :=
  (node_any p B C w G h k).mono fun _ _ ⟨he, hm⟩ => by
    have h1 : (0 : Int) ≤ (k : Int) ∧ (k : Int) < (G.N.length : Int) := by omega
    rw [if_pos h1, decide_eq_true h1, nAt_eq G k hk, hx, hy] at he
    exact ⟨he, hm⟩
theorem edge_at (p B C : Nat) (w : World) (G : GD) (h : GO w p B C G) (k : Nat) (hk : k < G.E.length) (x y z : Int) (hx : (G.E[k]'hk).1 = x) (hy : (G.E[k]'hk).2.1 = y) (hz : (G.E[k]'hk).2.2 = z) :
    Calls Try.prog 23 #[.pointer (some ⟨p, 0, none⟩), .int .i64 (k : Int)] w fun e w' => e = .returned (.tuple #[.agg #[.int .i64 x, .int .i64 y, .int .i64 z], .bool true]) ∧ Mod (fun _ => False) w w' :=
  (edge_any p B C w G h k).mono fun _ _ ⟨he, hm⟩ => by
    have h1 : (0 : Int) ≤ (k : Int) ∧ (k : Int) < (G.E.length : Int) := by omega
    rw [if_pos h1, decide_eq_true h1, eAt_eq G k hk, hx, hy, hz] at he
    exact ⟨he, hm⟩
/-- The edges that go from a node, that come to it. -/
def gOut (G : GD) (v : Int) : List Int := if 0 ≤ v ∧ v < G.N.length then idx (G.E.map (·.1)) v else []
def gIn (G : GD) (v : Int) : List Int := if 0 ≤ v ∧ v < G.N.length then idx (G.E.map (·.2.1)) v else []
theorem idx_len (ks : List Int) (k : Int) : (idx ks k).length ≤ ks.length := by
  unfold idx; rw [List.length_map]; exact Nat.le_trans (List.length_filter_le _ _) (by simp)
theorem gOut_len (G : GD) (v : Int) : (gOut G v).length ≤ G.E.length := by
  unfold gOut; split
  · exact Nat.le_trans (idx_len _ _) (by simp)
  · simp
theorem gIn_len (G : GD) (v : Int) : (gIn G v).length ≤ G.E.length := by
  unfold gIn; split
  · exact Nat.le_trans (idx_len _ _) (by simp)
  · simp
end Go.Proofs.Ytbjdjafkpldbnaa
