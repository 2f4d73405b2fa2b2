/- A graph that came in, as plain lists. -/
import Derived.Test.YtdccpikddhpleaaGr1
import Derived.Test.YtdccpikddhpleaaOpens
namespace Go.Proofs.Ytdccpikddhpleaa
open Go.RowKit Mile
abbrev PairD := Int × Int × Unit
abbrev TripD := Int × Int × Int × Unit
def encP : Enc PairD := encPair (encInt .i64) (encPair (encInt .i64) encUnit)
def encT : Enc TripD := encPair (encInt .i64) (encPair (encInt .i64) (encPair (encInt .i64) encUnit))
abbrev GraphD := (Value × List PairD) × (Value × List TripD) × (Value × List PairD) × Unit
def encGraph : Enc GraphD := encPair (encSlice encP) (encPair (encSlice encT) (encPair (encSlice encP) encUnit))
theorem opens_node : Opens Try.prog 50 encP :=
  opens_struct Try.underlying50 (by kernel_rfl) (opens_cons rfl (by kernel_rfl) (opens_int Try.underlying3) (opens_cons rfl (by kernel_rfl) (opens_int Try.underlying3) (opens_nil _ _)))
theorem opens_ban : Opens Try.prog 63 encP :=
  opens_struct Try.underlying63 (by kernel_rfl) (opens_cons rfl (by kernel_rfl) (opens_int Try.underlying3) (opens_cons rfl (by kernel_rfl) (opens_int Try.underlying3) (opens_nil _ _)))
theorem opens_edge : Opens Try.prog 52 encT :=
  opens_struct Try.underlying52 (by kernel_rfl) (opens_cons rfl (by kernel_rfl) (opens_int Try.underlying3) (opens_cons rfl (by kernel_rfl) (opens_int Try.underlying3) (opens_cons rfl (by kernel_rfl) (opens_int Try.underlying3) (opens_nil _ _))))
theorem opens_graph : Opens Try.prog 26 encGraph :=
  opens_struct Try.underlying26 (by kernel_rfl) (opens_cons rfl (by kernel_rfl) (opens_slice Try.underlying22 (by kernel_rfl) opens_node (by decide))
    (opens_cons rfl (by kernel_rfl) (opens_slice Try.underlying23 (by kernel_rfl) opens_edge (by decide))
      (opens_cons rfl (by kernel_rfl) (opens_slice Try.underlying24 (by kernel_rfl) opens_ban (by decide)) (opens_nil _ _))))
theorem encP_c2 : ∀ l : List PairD, l.flatMap encP.img = (l.map fun x => ((x.1, x.2.1) : P2)).flatMap c2
  | [] => rfl
  | x :: l => by rw [List.flatMap_cons, encP_c2 l, List.map_cons, List.flatMap_cons]; rfl
theorem encT_c3 : ∀ l : List TripD, l.flatMap encT.img = (l.map fun x => ((x.1, x.2.1, x.2.2.1) : P3)).flatMap c3
  | [] => rfl
  | x :: l => by rw [List.flatMap_cons, encT_c3 l, List.map_cons, List.flatMap_cons]; rfl
/-- What came in reads as a graph. -/
theorem graph_in {w : World} {cs : Array Value} {x : GraphD} (hcs : cs.toList = encGraph.img x) (ok : encGraph.ok w x) :
    ∃ (G : GD) (a1 : Option Addr) (n1 d1 : Nat) (a2 : Option Addr) (n2 d2 : Nat) (a3 : Option Addr) (n3 d3 : Nat), cs = #[.slice a1 n1 d1, .slice a2 n2 d2, .slice a3 n3 d3] ∧ GV w a1 n1 d1 a2 n2 d2 a3 n3 d3 G := by
  obtain ⟨⟨v1, l1⟩, ⟨v2, l2⟩, ⟨v3, l3⟩, u⟩ := x
  obtain ⟨⟨r1, _⟩, ⟨r2, _⟩, ⟨r3, _⟩, _⟩ := ok
  have e1 := r1
  have e2 := r2
  have e3 := r3
  obtain ⟨_, a1, d1, h1, _⟩ := r1
  obtain ⟨_, a2, d2, h2, _⟩ := r2
  obtain ⟨_, a3, d3, h3, _⟩ := r3
  simp only at h1 h2 h3
  subst h1 h2 h3
  refine ⟨⟨l1.map fun x => (x.1, x.2.1), l2.map fun x => (x.1, x.2.1, x.2.2.1), l3.map fun x => (x.1, x.2.1)⟩, a1, l1.length, d1, a2, l2.length, d2, a3, l3.length, d3, Array.toList_inj.1 hcs, ?_⟩
  exact ⟨by simp, by simp, by simp, by have := e1; rw [encP_c2] at this; exact this, by have := e2; rw [encT_c3] at this; exact this, by have := e3; rw [encP_c2] at this; exact this⟩
end Go.Proofs.Ytdccpikddhpleaa
