/- Numbered bodies as rows of memory: what a held row reads as. -/
import Derived.Test.YtfdmjnhhgcidbaaRows
import Derived.Test.YtfdmjnhhgcidbaaClone
import Derived.Test.YtfdmjnhhgcidbaaEv
import Derived.Test.YtfdmjnhhgcidbaaShp
import Derived.Test.YtfdmjnhhgcidbaaRowT
import Derived.Test.YtfdmjnhhgcidbaaRegion6
namespace Go.Proofs.Ytfdmjnhhgcidbaa
open Go.RowKit Mile
set_option maxRecDepth 100000
theorem RK.infoU : (Try.prog.info? 180).map (fun i => (i.zero, i.size, i.bytes)) = some (some (.agg #[.int .i64 0, .slice none 0 0]), 2, 32) := by kernel_rfl
theorem RK.info8 : (Try.prog.info? 5).map (fun i => (i.zero, i.size, i.bytes)) = some (some (.int .u8 0), 1, 1) := by kernel_rfl
theorem blk_mem {w : World} {b : Nat} {T : TypeId} {cs : List Value} (h : Blk w b T cs) {o : Nat} {v : Value} (hc : w.cell? ⟨b, o, none⟩ = some v) : v ∈ cs := by
  unfold Blk at h
  simp [World.cell?, h] at hc
  exact List.mem_of_getElem? hc
/-- Bytes that a value reads as. -/
def BodyU (w : World) (b : List Int) (v : Value) : Prop := ∃ a n c, v = .slice a n c ∧ b.length = n ∧ Rd w 1 v n (b.map (Value.int .u8))
/-- A block without bytes. -/
def NoB (w : World) (k : Nat) : Prop := ∃ T cs, Blk w k T cs ∧ ∀ x, Value.int .u8 x ∉ cs
theorem rd_noB {w : World} {a : Option Addr} {n c : Nat} {b : List Int} (hr : Rd w 1 (.slice a n c) n (b.map (Value.int .u8))) {k : Nat} (hk : (Value.slice a n c).ownBlock = some k) (h : NoB w k) : b = [] := by
  obtain ⟨T, cs, hb, hno⟩ := h
  cases b with
  | nil => rfl
  | cons x l =>
    exfalso
    have hl := hr.1
    simp at hl
    obtain ⟨b', o, hp, ho⟩ := hr.place (j := 0) (by omega)
    have hc := hr.elem (j := 0) (u := .int .u8 x) rfl
    rw [hp] at hc
    rw [hk] at ho
    obtain rfl := Option.some.inj ho
    exact hno x (blk_mem hb hc)
theorem BodyU.keep {w w' : World} {b : List Int} {v : Value} {G : Nat → Prop} (h : BodyU w b v) (hm : Mod G w w') (hG : ∀ k, k < w.heap.size → G k → NoB w k) : BodyU w' b v := by
  obtain ⟨a, n, c, rfl, hn, hr⟩ := h
  refine ⟨a, n, c, rfl, hn, hr.keepA hm (fun k hk hg => ?_)⟩
  by_cases hlt : k < w.heap.size
  · rw [rd_noB hr hk (hG k hlt hg)]; rfl
  · exact hr.lt hk (by omega)
/-- Rows of bytes, one behind the other. -/
def BodiesU (w : World) (gs : List (List Int)) (vs : List Value) : Prop := vs.length = gs.length ∧ ∀ i (h : i < gs.length), ∃ v, vs[i]? = some v ∧ BodyU w gs[i] v
theorem BodiesU.keep {w w' : World} {gs : List (List Int)} {vs : List Value} {G : Nat → Prop} (h : BodiesU w gs vs) (hm : Mod G w w') (hG : ∀ k, k < w.heap.size → G k → NoB w k) : BodiesU w' gs vs :=
  ⟨h.1, fun i hi => by obtain ⟨v, h1, h2⟩ := h.2 i hi; exact ⟨v, h1, h2.keep hm hG⟩⟩
theorem BodiesU.nil (w : World) : BodiesU w [] [] := ⟨rfl, fun i h => by simp at h⟩
theorem BodiesU.snoc {w : World} {gs : List (List Int)} {vs : List Value} (h : BodiesU w gs vs) {b : List Int} {v : Value} (hv : BodyU w b v) : BodiesU w (gs ++ [b]) (vs ++ [v]) := by
  refine ⟨by simp [h.1], fun i hi => ?_⟩
  by_cases e : i < gs.length
  · obtain ⟨u, h1, h2⟩ := h.2 i e
    exact ⟨u, by rw [List.getElem?_append_left (by rw [h.1]; exact e)]; exact h1, by rw [List.getElem_append_left e]; exact h2⟩
  · have e2 : i = gs.length := by simp at hi; omega
    subst e2
    exact ⟨v, by rw [← h.1]; simp, by simp; exact hv⟩
/-- One that is held: its number, its bytes, and where they lie. -/
structure Ud where
  seq : Nat
  body : List Int
  v : Value
def c2U (e : Ud) : List Value := [.int .i64 (e.seq : Int), e.v]
theorem c2U_len (L : List Ud) : (L.flatMap c2U).length = L.length * 2 := by
  induction L with
  | nil => rfl
  | cons x l ih => rw [List.flatMap_cons, List.length_append, ih, List.length_cons]; simp [c2U]; omega
theorem c2U_at : ∀ (L : List Ud) (i : Nat) (hi : i < L.length), (L.flatMap c2U)[i * 2 + 0]? = some (.int .i64 (L[i].seq : Int)) ∧ (L.flatMap c2U)[i * 2 + 1]? = some L[i].v
  | [], i, hi => by simp at hi
  | x :: l, 0, hi => by simp [c2U]
  | x :: l, i + 1, hi => by
    have := c2U_at l i (by simpa using hi)
    rw [List.flatMap_cons, List.getElem?_append_right (by simp [c2U]; omega), List.getElem?_append_right (by simp [c2U]; omega)]
    simp only [List.getElem_cons_succ]
    rw [show (i + 1) * 2 + 0 - (c2U x).length = i * 2 + 0 by simp [c2U]; omega, show (i + 1) * 2 + 1 - (c2U x).length = i * 2 + 1 by simp [c2U]; omega]
    exact this
theorem rd2u {w : World} {n c : Nat} {a : Option Addr} {L : List Ud} (h : Rd w 2 (.slice a n c) n (L.flatMap c2U)) (i : Nat) (hi : i < L.length) :
    ∃ b o, elemA a i 2 = ⟨b, o, none⟩ ∧ w.cell? ⟨b, o, none⟩ = some (.int .i64 (L[i].seq : Int)) ∧ w.cell? ⟨b, o + 1, none⟩ = some L[i].v := by
  have hn : n = L.length := by have := h.1; rw [c2U_len] at this; omega
  obtain ⟨b, o, hp, _⟩ := h.place (j := i) (by omega)
  have hg := c2U_at L i hi
  exact ⟨b, o, hp, by have := h.elemN hp 0 hg.1; simpa using this, h.elemN hp 1 hg.2⟩
theorem c2U_take (L : List Ud) (k : Nat) : (L.flatMap c2U).take (k * 2) = (L.take k).flatMap c2U := by
  induction L generalizing k with
  | nil => simp
  | cons x l ih =>
    cases k with
    | zero => simp
    | succ k =>
      rw [List.flatMap_cons, List.take_append, List.take_of_length_le (by simp [c2U]; omega), List.take_succ_cons, List.flatMap_cons, ← ih k, show (k + 1) * 2 - (c2U x).length = k * 2 by simp [c2U]; omega]
theorem c2U_drop (L : List Ud) (k : Nat) : (L.flatMap c2U).drop (k * 2) = (L.drop k).flatMap c2U := by
  induction L generalizing k with
  | nil => simp
  | cons x l ih =>
    cases k with
    | zero => simp
    | succ k =>
      rw [List.flatMap_cons, List.drop_append, List.drop_of_length_le (by simp [c2U]; omega), List.drop_succ_cons, ← ih k, show (k + 1) * 2 - (c2U x).length = k * 2 by simp [c2U]; omega]
      rfl
def RiseU (L : List Ud) : Prop := (L.map (·.seq)).Pairwise (· < ·)
theorem riseU_split {A Q : List Ud} (h : RiseU (A ++ Q)) : RiseU A ∧ RiseU Q ∧ ∀ x ∈ A, ∀ y ∈ Q, x.seq < y.seq := by
  unfold RiseU at h
  rw [List.map_append, List.pairwise_append] at h
  exact ⟨h.1, h.2.1, fun x hx y hy => h.2.2 _ (List.mem_map_of_mem hx) _ (List.mem_map_of_mem hy)⟩
theorem ru_nil {L : List Ud} (h : L.length = 0) : L.flatMap c2U = [] := by cases L with | nil => rfl | cons x l => cases h
theorem RelK.st {P : Value → Value → World → Prop} {k : Nat} (h : ∀ u, Stable (Mod (fun _ => False)) (P u)) : StableP (Mod (fun _ => False)) (RelK P k) := fun _ _ _ _ hv hR => ⟨h _ _ _ _ hv.out hR⟩
theorem RelK.loc {P : Value → Value → World → Prop} {k : Nat} {D : List Nat} (hk : k ∈ D) : ∀ (vs vs' : Nat → Value) v w, (∀ j, j ∈ D → vs j = vs' j) → RelK P k vs v w → RelK P k vs' v w := fun vs vs' v w hj h => ⟨by rw [← hj k hk]; exact h.out⟩
theorem ownT_keep {T : TypeId} {size B0 n : Nat} {xs : List Value} {v : Value} {W w' : World} {F : Nat → Prop} (h : OwnT T size B0 n xs v W) (hm : Mod F W w') (hF : ∀ q, v.ownBlock = some q → ¬ F q) : OwnT T size B0 n xs v w' := by
  obtain ⟨a, c, hv, hr⟩ := h
  exact ⟨a, c, hv, Own.keep hr hm hF⟩
theorem c2U_one {w : World} {L : List Ud} (h : ∀ e ∈ L, BodyU w e.body e.v) : ∀ u ∈ L.flatMap c2U, u.oneCell' = true := by
  intro u hu
  obtain ⟨e, he, hx⟩ := List.mem_flatMap.1 hu
  obtain ⟨a, n, c, hv, _⟩ := h e he
  simp [c2U] at hx
  rcases hx with rfl | rfl
  · rfl
  · rw [hv]; rfl
end Go.Proofs.Ytfdmjnhhgcidbaa
