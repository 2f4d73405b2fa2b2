/- witness.settled's closure, by contract. -/
import Derived.Test.YtjjedebjbgpimaaGreatWit2
import Derived.Deep.DeepCutAuto
import Derived.Deep.CutBlock
namespace Go.Proofs.YtjjedebjbgpimaaGreat
open Go.RowKit Mile
set_option maxRecDepth 100000
attribute [local go_sem] Oper.semAt_some
theorem ord_tlen {X : Web} {d : List Int} {mo : Int} {T : List Nat} {S : List It} {pend : Nat → Nat → Prop} (h : Ord X d mo T S pend) (hf : Fix X d) : T.length ≤ X.m := by
  have := nodupN_le T (List.range X.m) h.nod (fun t ht => List.mem_range.2 (by have := dAt_in (h.t t ht).1; rw [hf.len] at this; exact this))
  simpa using this
section
variable {w W : World} {B1 n p b7 l D : Nat} {L : List Ar} {fr wo mo tv st : Int} {d : List Int} {T : List Nat} {S : List It} {ps us : List Int} {G : Nat → Prop} {pend : Nat → Nat → Prop} {Ds : List Nat} {R R2 O : Obj} {Fin : RndS → World → Prop}
def BsP (w W : World) (B1 : Nat) (Ds : List Nat) (l D : Nat) (R O : Obj) : Prop := Mod (fun _ => False) w W ∧ W.heap[l]? = some R ∧ W.heap[D]? = some O ∧ MarksOk Ds W ∧ (l < B1 ∧ D < B1 ∧ w.heap.size ≤ B1) ∧ ∀ E ∈ Ds, B1 ≤ E
theorem BsP.keep {W' : World} {H : Nat → Prop} (h : BsP w W B1 Ds l D R O) (hm : Mod H W W') (hH : ∀ k, H k → B1 ≤ k ∧ k ∉ Ds) : BsP w W' B1 Ds l D R O :=
  ⟨h.1.trans hm (fun _ _ e => e) (fun k hk e => by have := (hH k e).1; have := h.2.2.2.2.1.2.2; omega), hm.obj h.2.1 (fun e => by have := (hH l e).1; have := h.2.2.2.2.1.1; omega), hm.obj h.2.2.1 (fun e => by have := (hH D e).1; have := h.2.2.2.2.1.2.1; omega), h.2.2.2.1.keep hm (fun E hE e => (hH E e).2 hE), h.2.2.2.2⟩
theorem SSt.bs (h : SSt w W B1 (fun k => k ∈ Ds) n L fr wo mo tv d p b7 T S ps us G pend l D R O) (hm : MarksOk Ds W) (hD : ∀ E ∈ Ds, B1 ≤ E) : BsP w W B1 Ds l D R O := ⟨h.s.md, h.hl, h.hD, hm, ⟨h.lD.1, h.lD.2.1, h.s.b.1⟩, hD⟩
def QI (w W : World) (B1 : Nat) (Z : Nat → Prop) (n : Nat) (L : List Ar) (fr wo mo : Int) (d : List Int) (p b7 b8 b9 v : Nat) (x2 : Int) (T : List Nat) (Ds : List Nat) (l D : Nat) (R O : Obj) (pend : Nat → Nat → Prop) : Prop :=
  ∃ S ps us G, Sst w W B1 Z p n ps us wo mo S G ∧ Ord (netW n L fr wo) d mo T S pend ∧ PIn d T S ps n ∧ Blk W b7 190 [.pointer (some ⟨p, 0, none⟩)] ∧ Blk W b8 3 [.int .i64 (v : Int)] ∧ Blk W b9 3 [.int .i64 x2] ∧ BsP w W B1 Ds l D R O
section
variable {W' : World} {H Z : Nat → Prop} {b8 b9 v : Nat} {x2 : Int}
theorem QI.keep (h : QI w W B1 Z n L fr wo mo d p b7 b8 b9 v x2 T Ds l D R O pend) (hm : Mod H W W') (hH : ∀ k, H k → B1 ≤ k ∧ Z k ∧ k ≠ b7 ∧ k ≠ b8 ∧ k ≠ b9 ∧ k ∉ Ds) : QI w W' B1 Z n L fr wo mo d p b7 b8 b9 v x2 T Ds l D R O pend := by
  obtain ⟨S, ps, us, G, h1, h2, h3, h4, h5, h6, h7⟩ := h
  exact ⟨S, ps, us, G, h1.keep hm (fun k hk => ⟨Nat.le_trans h1.b.1 (hH k hk).1, fun e => (h1.g k e).2 (hH k hk).2.1⟩), h2, h3, h4.keep hm (fun e => (hH _ e).2.2.1 rfl), h5.keep hm (fun e => (hH _ e).2.2.2.1 rfl), h6.keep hm (fun e => (hH _ e).2.2.2.2.1 rfl), h7.keep hm (fun k hk => ⟨(hH k hk).1, (hH k hk).2.2.2.2.2⟩)⟩
theorem QI.later (h : QI w W B1 Z n L fr wo mo d p b7 b8 b9 v x2 T Ds l D R O pend) (hm : Mod (fun _ => False) W W') : QI w W' B1 Z n L fr wo mo d p b7 b8 b9 v x2 T Ds l D R O pend := h.keep hm (fun _ e => e.elim)
theorem QI.md (h : QI w W B1 Z n L fr wo mo d p b7 b8 b9 v x2 T Ds l D R O pend) : Mod (fun _ => False) w W := by obtain ⟨S, ps, us, G, h1, _⟩ := h; exact h1.md
theorem QI.guest (h : QI w W B1 Z n L fr wo mo d p b7 b8 b9 v x2 T Ds l D R O pend) (hm : Mod (fun _ => False) W W') {g : Nat} (hg : W.heap.size ≤ g) (hl : g < W'.heap.size) : QI w W' B1 (fun k => Z k ∨ k = g) n L fr wo mo d p b7 b8 b9 v x2 T Ds l D R O pend := by
  have h' := h.later hm
  obtain ⟨S, ps, us, G, h1, h2, h3, h4, h5, h6, h7⟩ := h
  exact ⟨S, ps, us, G, h1.guest hm hg hl, h2, h3, h4.keep hm (fun e => e), h5.keep hm (fun e => e), h6.keep hm (fun e => e), h7.keep hm (fun _ e => e.elim)⟩
theorem QI.said (h : QI w W B1 Z n L fr wo mo d p b7 b8 b9 v x2 T Ds l D R O pend) {pend' : Nat → Nat → Prop} (hp : ∀ e b, (netW n L fr wo).rl e b → pend e b → pend' e b) : QI w W B1 Z n L fr wo mo d p b7 b8 b9 v x2 T Ds l D R O pend' := by
  obtain ⟨S, ps, us, G, h1, h2, h3, h4⟩ := h
  exact ⟨S, ps, us, G, h1, h2.said hp, h3, h4⟩
end
end
end Go.Proofs.YtjjedebjbgpimaaGreat
