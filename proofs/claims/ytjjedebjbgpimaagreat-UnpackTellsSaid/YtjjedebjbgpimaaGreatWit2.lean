/- witness.settled: what its range keeps. -/
import Derived.Test.YtjjedebjbgpimaaGreatKFro
import Derived.Test.YtjjedebjbgpimaaGreatEach
import Derived.Test.YtjjedebjbgpimaaGreatKRg
import Derived.Test.YtjjedebjbgpimaaGreatKReg
namespace Go.Proofs.YtjjedebjbgpimaaGreat
open Go.RowKit Mile
set_option maxRecDepth 100000
attribute [local go_sem] Oper.semAt_some
theorem Fix.none {X : Web} {d : List Int} (h : Fix X d) (hs : ∀ e, X.st e → e < X.m → False) : ∀ (n : Nat) (e : Nat), dAt d e ≤ n → ¬ 0 ≤ dAt d e := by
  intro n
  induction n using Nat.strongRecOn with
  | ind n ih =>
    intro e hn h0
    rcases h.why e h0 with ⟨h1, _⟩ | ⟨b, h1, h2, h3⟩
    · exact hs e h1 (by have := dAt_in h0; rw [h.len] at this; exact this)
    · have := (X.one e b h1).1
      exact ih (n - 1) (by omega) b (by omega) h2
theorem found_none {X : Web} {d : List Int} (h : Fix X d) (hs : ∀ e, X.st e → e < X.m → False) (tv mo st : Int) : foundB d tv mo st = false :=
  decide_eq_false (fun ⟨_, h2, _⟩ => h.none hs (dAt d tv.toNat).toNat tv.toNat (by omega) h2)
abbrev RndS := World × Int × Int × Int
structure Sst (w W : World) (B1 : Nat) (Z : Nat → Prop) (p n : Nat) (ps us : List Int) (wo mo : Int) (S : List It) (G : Nat → Prop) : Prop where
  o : FrO W p n ps us wo mo S G
  g : ∀ k, G k → B1 ≤ k ∧ ¬ Z k
  z : ∀ k, Z k → k < W.heap.size
  b : w.heap.size ≤ B1 ∧ B1 ≤ W.heap.size
  md : Mod (fun _ => False) w W
section
variable {w W W' : World} {B1 p n : Nat} {Z G G' H : Nat → Prop} {ps us ps' us' : List Int} {wo mo : Int} {S S' : List It}
theorem Sst.keep (h : Sst w W B1 Z p n ps us wo mo S G) (hm : Mod H W W') (hH : ∀ k, H k → w.heap.size ≤ k ∧ ¬ G k) : Sst w W' B1 Z p n ps us wo mo S G :=
  ⟨h.o.keep hm (fun k hk e => (hH k e).2 hk), h.g, fun k hk => Nat.lt_of_lt_of_le (h.z k hk) hm.size, ⟨h.b.1, Nat.le_trans h.b.2 hm.size⟩, h.md.trans hm (fun _ _ e => e) (fun k hk e => by have := (hH k e).1; omega)⟩
theorem Sst.later (h : Sst w W B1 Z p n ps us wo mo S G) (hm : Mod (fun _ => False) W W') : Sst w W' B1 Z p n ps us wo mo S G := h.keep hm (fun _ e => e.elim)
theorem Sst.aft (h : Sst w W B1 Z p n ps us wo mo S G) (ho : FrO W' p n ps' us' wo mo S' G') (ha : Aft W W' G G') : Sst w W' B1 Z p n ps' us' wo mo S' G' :=
  ⟨ho, fun k hk => (ha.2 k hk).elim (h.g k) (fun e => ⟨Nat.le_trans h.b.2 e, fun hz => by have := h.z k hz; omega⟩), fun k hk => Nat.lt_of_lt_of_le (h.z k hk) ha.1.size, ⟨h.b.1, Nat.le_trans h.b.2 ha.1.size⟩,
   h.md.trans ha.1 (fun _ _ e => e) (fun k hk e => by have := (h.g k e).1; have := h.b.1; omega)⟩
theorem Sst.guest (h : Sst w W B1 Z p n ps us wo mo S G) (hm : Mod (fun _ => False) W W') {g : Nat} (hg : W.heap.size ≤ g) (hl : g < W'.heap.size) : Sst w W' B1 (fun k => Z k ∨ k = g) p n ps us wo mo S G := by
  have h2 := h.later hm
  refine ⟨h2.o, fun k hk => ⟨(h.g k hk).1, fun e => e.elim (h.g k hk).2 (fun e => by have := h.o.lt k hk; omega)⟩, fun k hk => hk.elim (h2.z k) (fun e => by rw [e]; exact hl), h2.b, h2.md⟩
theorem Sst.less (h : Sst w W B1 Z p n ps us wo mo S G) {Z' : Nat → Prop} (hz : ∀ k, Z' k → Z k) : Sst w W B1 Z' p n ps us wo mo S G :=
  ⟨h.o, fun k hk => ⟨(h.g k hk).1, fun e => (h.g k hk).2 (hz k e)⟩, fun k hk => h.z k (hz k hk), h.b, h.md⟩
end
theorem Ord.few {X : Web} {d : List Int} {mo : Int} {T : List Nat} {S : List It} {pend : Nat → Nat → Prop} (h : Ord X d mo T S pend) (hid : Ids S) : S.length ≤ X.m := by
  have h1 : (S.map (·.1)).Nodup := hid
  have h2 : (S.map (·.1)) ⊆ (List.range X.m).map Int.ofNat := by
    intro y hy
    obtain ⟨x, hx, rfl⟩ := List.mem_map.1 hy
    obtain ⟨e, he, hm, _⟩ := h.sound x hx
    exact List.mem_map.2 ⟨e, List.mem_range.2 hm, by rw [he]; rfl⟩
  have := nodup_le _ _ h1 h2
  simpa using this
structure SSt (w W : World) (B1 : Nat) (Z : Nat → Prop) (n : Nat) (L : List Ar) (fr wo mo tv : Int) (d : List Int) (p b7 : Nat) (T : List Nat) (S : List It) (ps us : List Int) (G : Nat → Prop) (pend : Nat → Nat → Prop) (l D : Nat) (R O : Obj) : Prop where
  s : Sst w W B1 (fun k => Z k ∨ k = b7) p n ps us wo mo S G
  b : Blk W b7 190 [.pointer (some ⟨p, 0, none⟩)]
  o : Ord (netW n L fr wo) d mo T S pend
  i : PIn d T S ps n
  nt : ∀ t ∈ T, (t : Int) ≠ tv
  hl : W.heap[l]? = some R
  hD : W.heap[D]? = some O
  lD : l < B1 ∧ D < B1 ∧ w.heap.size ≤ l ∧ w.heap.size ≤ D
  b7 : B1 ≤ b7

end Go.Proofs.YtjjedebjbgpimaaGreat
