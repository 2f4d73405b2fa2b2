/- The contracts that the laws on graphs ask for, in the form that they ask for. -/
import Derived.Test.YtbjdjafkpldbnaaLawN
import Derived.Test.YtbjdjafkpldbnaaTown3
import Derived.Test.YtbjdjafkpldbnaaIRow
import Derived.Test.YtbjdjafkpldbnaaShp
namespace Go.Proofs.Ytbjdjafkpldbnaa
open Go.RowKit Mile
theorem town_gv (w : World) (a0 : Option Addr) (m c0 : Nat) (l : List Int) (hm : l.length = m) (hr : Rd w 1 (.slice a0 m c0) m (l.map (Value.int .i64))) :
    Calls Try.prog 19 #[.slice a0 m c0] w fun e w' => ∃ a1 n1 d1 a2 n2 d2 a3 n3 d3, e = .returned (.agg #[.slice a1 n1 d1, .slice a2 n2 d2, .slice a3 n3 d3]) ∧
      GV w' a1 n1 d1 a2 n2 d2 a3 n3 d3 (townG l) ∧ Mod (fun _ => False) w w' :=
  (town_any w a0 m c0 l hm hr).mono fun _ _ ⟨a1, n1, d1, a2, n2, d2, a3, n3, d3, he, h1, h2, h3, ht, hM⟩ => by
    subst h1 h2 h3
    exact ⟨a1, _, d1, a2, _, d2, a3, _, d3, he, ⟨rfl, rfl, rfl, Rd.ofOwn ht.o1, Rd.ofOwn ht.o2, Rd.ofOwn ht.o3⟩, hM⟩
/-- The same with its rows in new memory, nodes and edges where they lie. -/
theorem town_own (w : World) (a0 : Option Addr) (m c0 : Nat) (l : List Int) (hm : l.length = m) (hr : Rd w 1 (.slice a0 m c0) m (l.map (Value.int .i64))) :
    Calls Try.prog 19 #[.slice a0 m c0] w fun e w' => ∃ nb n1 d1 eb n2 d2 a3 n3 d3, e = .returned (.agg #[.slice (some ⟨nb, 0, none⟩) n1 d1, .slice (some ⟨eb, 0, none⟩) n2 d2, .slice a3 n3 d3]) ∧
      GV w' (some ⟨nb, 0, none⟩) n1 d1 (some ⟨eb, 0, none⟩) n2 d2 a3 n3 d3 (townG l) ∧ TR w.heap.size (.slice (some ⟨nb, 0, none⟩) n1 d1) (.slice (some ⟨eb, 0, none⟩) n2 d2) (.slice a3 n3 d3) (townG l).N (townG l).E (townG l).B w' ∧ Mod (fun _ => False) w w' :=
  (town_any w a0 m c0 l hm hr).mono fun _ _ ⟨a1, n1, d1, a2, n2, d2, a3, n3, d3, he, h1, h2, h3, ht, hM⟩ => by
    subst h1 h2 h3
    obtain ⟨g1, x1, e1, _⟩ := own_block ht.o1 (town_few l).1.1
    obtain ⟨g2, x2, e2, _⟩ := own_block ht.o2 (town_few l).2.1.1
    cases e1; cases e2
    exact ⟨g1, _, d1, g2, _, d2, a3, _, d3, he, ⟨rfl, rfl, rfl, Rd.ofOwn ht.o1, Rd.ofOwn ht.o2, Rd.ofOwn ht.o3⟩, ht, hM⟩
theorem tr_gv {B0 : Nat} {G : GD} {W : World} {a1 : Option Addr} {n1 d1 : Nat} {a2 : Option Addr} {n2 d2 : Nat} {a3 : Option Addr} {n3 d3 : Nat} (h : TR B0 (.slice a1 n1 d1) (.slice a2 n2 d2) (.slice a3 n3 d3) G.N G.E G.B W) (h1 : G.N.length = n1) (h2 : G.E.length = n2) (h3 : G.B.length = n3) : GV W a1 n1 d1 a2 n2 d2 a3 n3 d3 G := by
  subst h1 h2 h3; exact ⟨rfl, rfl, rfl, Rd.ofOwn h.o1, Rd.ofOwn h.o2, Rd.ofOwn h.o3⟩
theorem Ev.tr {B0 : Nat} {sN sE sB : Value} {N : List P2} {E : List P3} {B : List P2} {W : World} (h : TR B0 sN sE sB N E B W) : Ev (fun W => TR B0 sN sE sB N E B W) W := fun _ m => h.keep m
end Go.Proofs.Ytbjdjafkpldbnaa
