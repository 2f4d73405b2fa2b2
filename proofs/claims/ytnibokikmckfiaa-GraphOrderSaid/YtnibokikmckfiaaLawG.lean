/- The contracts that the laws on graphs ask for, in the form that they ask for. -/
import Derived.Test.YtnibokikmckfiaaEvG
import Derived.Test.YtnibokikmckfiaaNew
import Derived.Test.YtnibokikmckfiaaTown3
import Derived.Test.YtnibokikmckfiaaInts
import Derived.Test.YtnibokikmckfiaaShp
import Derived.Test.YtnibokikmckfiaaOpens
namespace Go.Proofs.Ytnibokikmckfiaa
open Go.RowKit Mile
theorem opens_il : Opens Try.prog 50 (encSlice (encInt .i64)) := opens_slice Try.underlying50 (by kernel_rfl) (opens_int Try.underlying3) (by decide)
theorem town_gv (w : World) (a0 : Option Addr) (m c0 : Nat) (l : List Int) (hm : l.length = m) (hr : Rd w 1 (.slice a0 m c0) m (l.map (Value.int .i64))) :
    Calls Try.prog 22 #[.slice a0 m c0] w fun e w' => ∃ a1 n1 d1 a2 n2 d2 a3 n3 d3, e = .returned (.agg #[.slice a1 n1 d1, .slice a2 n2 d2, .slice a3 n3 d3]) ∧
      GV w' a1 n1 d1 a2 n2 d2 a3 n3 d3 (townG l) ∧ Mod (fun _ => False) w w' :=
  (town_any w a0 m c0 l hm hr).mono fun _ _ ⟨a1, n1, d1, a2, n2, d2, a3, n3, d3, he, h1, h2, h3, ht, hM⟩ => by
    subst h1 h2 h3
    exact ⟨a1, _, d1, a2, _, d2, a3, _, d3, he, ⟨rfl, rfl, rfl, Rd.ofOwn ht.o1, Rd.ofOwn ht.o2, Rd.ofOwn ht.o3⟩, hM⟩
/-- The same with its rows in new memory, nodes and edges where they lie. -/
theorem town_own (w : World) (a0 : Option Addr) (m c0 : Nat) (l : List Int) (hm : l.length = m) (hr : Rd w 1 (.slice a0 m c0) m (l.map (Value.int .i64))) :
    Calls Try.prog 22 #[.slice a0 m c0] w fun e w' => ∃ nb n1 d1 eb n2 d2 a3 n3 d3, e = .returned (.agg #[.slice (some ⟨nb, 0, none⟩) n1 d1, .slice (some ⟨eb, 0, none⟩) n2 d2, .slice a3 n3 d3]) ∧
      GV w' (some ⟨nb, 0, none⟩) n1 d1 (some ⟨eb, 0, none⟩) n2 d2 a3 n3 d3 (townG l) ∧ TR w.heap.size (.slice (some ⟨nb, 0, none⟩) n1 d1) (.slice (some ⟨eb, 0, none⟩) n2 d2) (.slice a3 n3 d3) (townG l).N (townG l).E (townG l).B w' ∧ Mod (fun _ => False) w w' :=
  (town_any w a0 m c0 l hm hr).mono fun _ _ ⟨a1, n1, d1, a2, n2, d2, a3, n3, d3, he, h1, h2, h3, ht, hM⟩ => by
    subst h1 h2 h3
    obtain ⟨g1, x1, e1, _⟩ := own_block ht.o1 (town_few l).1.1
    obtain ⟨g2, x2, e2, _⟩ := own_block ht.o2 (town_few l).2.1.1
    cases e1; cases e2
    exact ⟨g1, _, d1, g2, _, d2, a3, _, d3, he, ⟨rfl, rfl, rfl, Rd.ofOwn ht.o1, Rd.ofOwn ht.o2, Rd.ofOwn ht.o3⟩, ht, hM⟩
theorem tr_gv {B0 : Nat} {G : GD} {W : World} {a1 : Option Addr} {n1 d1 : Nat} {a2 : Option Addr} {n2 d2 : Nat} {a3 : Option Addr} {n3 d3 : Nat} (h : TR B0 (.slice a1 n1 d1) (.slice a2 n2 d2) (.slice a3 n3 d3) G.N G.E G.B W) (h1 : G.N.length = n1) (h2 : G.E.length = n2) (h3 : G.B.length = n3) : GV W a1 n1 d1 a2 n2 d2 a3 n3 d3 G := by
  subst h1 h2 h3; exact ⟨rfl, rfl, rfl, Rd.ofOwn h.o1, Rd.ofOwn h.o2, Rd.ofOwn h.o3⟩
theorem Ev.tr {B0 : Nat} {sN sE sB : Value} {N : List P2} {E : List P3} {B : List P2} {W : World} (h : TR B0 sN sE sB N E B W) : Ev (fun W => TR B0 sN sE sB N E B W) W := fun _ m => h.keep m
theorem new_at (G : GD) (hmay : May G) (w : World) (a1 : Option Addr) (n1 u1 : Nat) (a2 : Option Addr) (n2 u2 : Nat) (a3 : Option Addr) (n3 u3 : Nat) (h : GV w a1 n1 u1 a2 n2 u2 a3 n3 u3 G) :
    Calls Try.prog 10 #[.agg #[.slice a1 n1 u1, .slice a2 n2 u2, .slice a3 n3 u3]] w fun e w' => ∃ p B C, e = .returned (.tuple #[.pointer (some ⟨p, 0, none⟩), .int .i64 0]) ∧ w.heap.size ≤ B ∧ GO w' p B C G ∧ Mod (fun _ => False) w w' :=
  (new_any G w a1 n1 u1 a2 n2 u2 a3 n3 u3 h).mono fun _ _ hp => by
    rcases hp with ⟨_, p, he, hG, hM⟩ | ⟨hn, _⟩
    · exact ⟨p, _, _, he, Nat.le_refl _, hG, hM⟩
    · exact absurd hmay hn
theorem new_ok (G : GD) (hmay : May G) (w : World) (a1 : Option Addr) (n1 u1 : Nat) (a2 : Option Addr) (n2 u2 : Nat) (a3 : Option Addr) (n3 u3 : Nat) (h : GV w a1 n1 u1 a2 n2 u2 a3 n3 u3 G) :
    Calls Try.prog 10 #[.agg #[.slice a1 n1 u1, .slice a2 n2 u2, .slice a3 n3 u3]] w fun e w' => ∃ p B C, e = .returned (.tuple #[.pointer (some ⟨p, 0, none⟩), .int .i64 0]) ∧ GO w' p B C G ∧ Mod (fun _ => False) w w' :=
  (new_any G w a1 n1 u1 a2 n2 u2 a3 n3 u3 h).mono fun _ _ hp => by
    rcases hp with ⟨_, p, he, hG, hM⟩ | ⟨hn, _⟩
    · exact ⟨p, _, _, he, hG, hM⟩
    · exact absurd hmay hn
theorem new_no (G : GD) (hmay : ¬ May G) (w : World) (a1 : Option Addr) (n1 u1 : Nat) (a2 : Option Addr) (n2 u2 : Nat) (a3 : Option Addr) (n3 u3 : Nat) (h : GV w a1 n1 u1 a2 n2 u2 a3 n3 u3 G) :
    Calls Try.prog 10 #[.agg #[.slice a1 n1 u1, .slice a2 n2 u2, .slice a3 n3 u3]] w fun e w' => e = .returned (.tuple #[.pointer none, .int .i64 1]) ∧ Mod (fun _ => False) w w' :=
  (new_any G w a1 n1 u1 a2 n2 u2 a3 n3 u3 h).mono fun _ _ hp => by
    rcases hp with ⟨hn, _⟩ | ⟨_, he, hM⟩
    · exact absurd hn hmay
    · exact ⟨he, hM⟩
theorem ints_same (w : World) (a : Option Addr) (n c : Nat) (xs : List Int) (hn : xs.length = n) (hr : Rd w 1 (.slice a n c) n (xs.map (Value.int .i64)))
    (b : Option Addr) (m d : Nat) (ys : List Int) (hm : ys.length = m) (hs : Rd w 1 (.slice b m d) m (ys.map (Value.int .i64))) (hb : n ≤ 1000000000) (r : Bool) (hxy : decide (xs = ys) = r) :
    Calls Try.prog 25 #[.slice a n c, .slice b m d] w fun e w' => e = .returned (.bool r) ∧ Mod (fun _ => False) w w' :=
  (ints_any w a n c xs hn hr b m d ys hm hs hb).mono fun _ _ ⟨he, k, hk⟩ => ⟨by rw [he, hxy], by rw [hk]; exact Mod.drewN _ _ _⟩
theorem node_at (p B C : Nat) (w : World) (G : GD) (h : GO w p B C G) (k : Nat) (hk : k < G.N.length) (x y : Int) (hx : (G.N[k]'hk).1 = x) (hy : (G.N[k]'hk).2 = y) :
    Calls Try.prog 16 #[.pointer (some ⟨p, 0, none⟩), .int .i64 (k : Int)] w fun e w' => e = .returned (.tuple #[.agg #[.int .i64 x, .int .i64 y], .bool true]) ∧ Mod (fun _ => False) w w' :=
  (node_any p B C w G h k).mono fun _ _ ⟨he, hm⟩ => by
    have h1 : (0 : Int) ≤ (k : Int) ∧ (k : Int) < (G.N.length : Int) := by omega
    rw [if_pos h1, decide_eq_true h1, nAt_eq G k hk, hx, hy] at he
    exact ⟨he, hm⟩
theorem edge_at (p B C : Nat) (w : World) (G : GD) (h : GO w p B C G) (k : Nat) (hk : k < G.E.length) (x y z : Int) (hx : (G.E[k]'hk).1 = x) (hy : (G.E[k]'hk).2.1 = y) (hz : (G.E[k]'hk).2.2 = z) :
    Calls Try.prog 17 #[.pointer (some ⟨p, 0, none⟩), .int .i64 (k : Int)] w fun e w' => e = .returned (.tuple #[.agg #[.int .i64 x, .int .i64 y, .int .i64 z], .bool true]) ∧ Mod (fun _ => False) w w' :=
  (edge_any p B C w G h k).mono fun _ _ ⟨he, hm⟩ => by
    have h1 : (0 : Int) ≤ (k : Int) ∧ (k : Int) < (G.E.length : Int) := by omega
    rw [if_pos h1, decide_eq_true h1, eAt_eq G k hk, hx, hy, hz] at he
    exact ⟨he, hm⟩
/-- A row of numbers in new memory. -/
def IRow (xs : List Int) : Value → World → Prop := fun v W => ∃ a c, v = .slice a xs.length c ∧ Rd W 1 (.slice a xs.length c) xs.length (xs.map (Value.int .i64))
theorem IRow.st (xs : List Int) : Stable (Mod (fun _ => False)) (IRow xs) := fun _ _ _ ⟨a, c, h, hr⟩ hm => ⟨a, c, h, hr.keep hm (fun _ _ e => e)⟩
/-- The edges that go from a node, that come to it. -/
def gOut (G : GD) (v : Int) : List Int := if 0 ≤ v ∧ v < G.N.length then idx (G.E.map (·.1)) v else []
def gIn (G : GD) (v : Int) : List Int := if 0 ≤ v ∧ v < G.N.length then idx (G.E.map (·.2.1)) v else []
theorem idx_len (ks : List Int) (k : Int) : (idx ks k).length ≤ ks.length := by
  unfold idx; rw [List.length_map]; exact Nat.le_trans (List.length_filter_le _ _) (by simp)
theorem gOut_len (G : GD) (v : Int) : (gOut G v).length ≤ G.E.length := by
  unfold gOut; split
  · exact Nat.le_trans (idx_len _ _) (by simp)
  · simp
theorem gIn_len (G : GD) (v : Int) : (gIn G v).length ≤ G.E.length := by
  unfold gIn; split
  · exact Nat.le_trans (idx_len _ _) (by simp)
  · simp
end Go.Proofs.Ytnibokikmckfiaa
