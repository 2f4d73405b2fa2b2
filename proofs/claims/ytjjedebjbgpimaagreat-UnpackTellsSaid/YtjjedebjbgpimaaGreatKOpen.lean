/- What is told of a slice of integers that came in, and how it reads. -/
import Derived.Test.YtjjedebjbgpimaaGreatKBase
import Derived.ProofKit
import Derived.OpenShut
import Derived.Deep.Slices
import Derived.Test.YtjjedebjbgpimaaGreatRows
import Derived.Test.YtjjedebjbgpimaaGreatKMd
namespace Mile
open Go Go.RowKit

def IsRow (k : IntKind) (w : World) (a : Option Addr) (len cap : Nat) (zs : List Int) : Prop :=
  (a = none ∧ len = 0 ∧ cap = 0 ∧ zs = []) ∨
  ∃ x, a = some x ∧ len ≤ cap ∧ cap ≤ maxLen ∧ zs.length = cap ∧ (∀ i, i < zs.length → w.cell? (x.add i) = some (.int k (zs.getD i 0))) ∧ ∀ n ∈ zs, (Lit.int k n).wf = true

theorem IsRow.reads {k : IntKind} {w : World} {a : Option Addr} {len cap : Nat} {zs : List Int} (h : IsRow k w a len cap zs) :
    ∃ ns : List Int, ns.length = len ∧ Rd w 1 (.slice a len cap) len (ns.map (Value.int k)) ∧ ∀ n ∈ ns, (Lit.int k n).wf = true := by
  rcases h with ⟨rfl, rfl, rfl, rfl⟩ | ⟨x, rfl, h1, h2, h3, h4, h5⟩
  · exact ⟨[], rfl, Rd.nil _ _, by simp⟩
  · have hl : (zs.take len).length = len := by rw [List.length_take]; omega
    refine ⟨zs.take len, hl, ⟨by simp; omega, some x, cap, rfl, h1, h2, fun e => (by cases e), fun ad had => ?_⟩, fun n hn => h5 n (List.mem_of_mem_take hn)⟩
    cases had
    refine ⟨fun hp => ?_, fun j u hj => ?_⟩
    · have hc := h4 0 (by omega)
      simpa [Addr.add] using World.cell?_spot hc
    · have hjl : j < len := by
        have := (List.getElem?_eq_some_iff.1 hj).1
        simp at this; omega
      have e : ((zs.take len).map (Value.int k))[j]? = some (.int k (zs.getD j 0)) := by
        simp [hjl, List.getD, show j < zs.length by omega]
      rw [e] at hj
      rw [h4 j (by omega)]
      exact hj

end Mile
namespace Mile
open Go Go.RowKit

structure Enc (α : Type) where
  cells : Nat
  img : α → List Value
  ok : World → α → Prop
  len : ∀ a, (img a).length = cells

def encInt (k : IntKind) : Enc Int := ⟨1, fun n => [.int k n], fun _ n => (Lit.int k n).wf = true, fun _ => rfl⟩
def encPair {α β : Type} (E : Enc α) (F : Enc β) : Enc (α × β) :=
  ⟨E.cells + F.cells, fun p => E.img p.1 ++ F.img p.2, fun w p => E.ok w p.1 ∧ F.ok w p.2, fun p => by rw [List.length_append, E.len, F.len]⟩
def encSlice {α : Type} (E : Enc α) : Enc (Value × List α) :=
  ⟨1, fun s => [s.1], fun w s => Rd w E.cells s.1 s.2.length (s.2.flatMap E.img) ∧ ∀ x ∈ s.2, E.ok w x, fun _ => rfl⟩

def Opens {α : Type} (P : Program) (t : TypeId) (E : Enc α) : Prop :=
  ∀ (H : Type) (enc : TypeId × Value → H) (w : World) (base : Nat) (spare : Nat → Bool) (held : Bool) (fuel : Nat) (cs : List Value) (x : DataW H × List MemPlace),
    DataW.trod enc P w base spare held fuel t cs = some x → ∃ a, cs = E.img a ∧ E.ok w a

theorem opens_int {P : Program} {t : TypeId} {k : IntKind} (ht : P.underlying t = some (.int k)) : Opens P t (encInt k) := by
  intro H enc w base spare held fuel cs x h
  obtain ⟨n, rfl, _, hw⟩ := DataW.trod_int ht h
  exact ⟨n, rfl, hw⟩
theorem list_of_lt {α : Type} {n : Nat} {p : Nat → α → Prop} (h : ∀ i, i < n → ∃ x, p i x) : ∃ l : List α, l.length = n ∧ ∀ (i : Nat) (x : α), l[i]? = some x → p i x := by
  induction n with
  | zero => exact ⟨[], rfl, fun i x hx => by simp at hx⟩
  | succ n ih =>
    obtain ⟨l, hl, hp⟩ := ih (fun i hi => h i (by omega))
    obtain ⟨x, hx⟩ := h n (by omega)
    refine ⟨l ++ [x], by simp [hl], fun i y hy => ?_⟩
    by_cases hi : i < l.length
    · rw [List.getElem?_append_left hi] at hy; exact hp i y hy
    · have hi' : i = l.length := by
        have := (List.getElem?_eq_some_iff.1 hy).1; simp at this; omega
      subst hi'
      simp at hy; subst hy
      rw [hl]; exact hx

theorem flatMap_at {α β : Type} (f : α → List β) (m : Nat) (hf : ∀ a, (f a).length = m) : ∀ (l : List α) (j : Nat) (u : β), (l.flatMap f)[j]? = some u → ∃ i x, l[i]? = some x ∧ i * m ≤ j ∧ j < (i + 1) * m ∧ (f x)[j - i * m]? = some u := by
  intro l
  induction l with
  | nil => intro j u h; simp at h
  | cons y r ih =>
    intro j u h
    rw [List.flatMap_cons] at h
    by_cases hj : j < m
    · rw [List.getElem?_append_left (by rw [hf]; exact hj)] at h
      exact ⟨0, y, rfl, by omega, by omega, by simpa using h⟩
    · rw [List.getElem?_append_right (by rw [hf]; omega), hf] at h
      obtain ⟨i, x, h1, h2, h3, h4⟩ := ih _ _ h
      have e1 : (i + 1) * m = i * m + m := Nat.succ_mul i m
      have e2 : (i + 1 + 1) * m = (i + 1) * m + m := Nat.succ_mul (i + 1) m
      refine ⟨i + 1, x, by simpa using h1, by omega, by omega, ?_⟩
      rw [show j - (i + 1) * m = j - m - i * m by omega]
      exact h4

theorem opens_slice {α : Type} {P : Program} {t e : TypeId} {E : Enc α} (ht : P.underlying t = some (.slice e)) (hc : P.cellsOf e = E.cells) (hE : Opens P e E) (hpos : 0 < E.cells) : Opens P t (encSlice E) := by
  intro H enc w base spare held fuel cs x h
  rcases DataW.trod_slice ht h with ⟨rfl, _⟩ | ⟨a, len, cap, elems, rest, n, _, rfl, _, hb, hl, hm, hlen, hel, _, _⟩
  · exact ⟨(.slice none 0 0, []), rfl, Rd.nil _ _, by simp⟩
  · have each : ∀ i, i < len → ∃ y : α, w.cells? base (a.add (i * E.cells)) E.cells = some (E.img y) ∧ E.ok w y := by
      intro i hi
      have h1 := hel i hi
      rw [hc] at h1
      obtain ⟨z, hz⟩ : ∃ z, elems[i]? = some z := ⟨elems[i]'(by omega), List.getElem?_eq_getElem (by omega)⟩
      rw [hz] at h1
      obtain ⟨cs', hcs, htr⟩ := Option.bind_eq_some_iff.1 h1
      obtain ⟨y, rfl, hy⟩ := hE H enc w base spare held n cs' z htr
      exact ⟨y, hcs, hy⟩
    obtain ⟨ys, hyl, hy⟩ := list_of_lt each
    have hflat : (ys.flatMap E.img).length = ys.length * E.cells := by
      clear each hy hyl
      induction ys with
      | nil => simp
      | cons y r ih => rw [List.flatMap_cons, List.length_append, E.len, ih, List.length_cons, Nat.succ_mul]; omega
    have hcell : ∀ j u, (ys.flatMap E.img)[j]? = some u → w.cell? (a.add j) = some u := by
      intro j u hj
      obtain ⟨i, y, hi, h1, h2, h3⟩ := flatMap_at E.img E.cells E.len ys j u hj
      obtain ⟨hcs, _⟩ := hy i y hi
      obtain ⟨_, hlen', hget⟩ := World.cells?_some hcs
      have hjm : j - i * E.cells < E.cells := by have e : (i + 1) * E.cells = i * E.cells + E.cells := Nat.succ_mul i E.cells; omega
      have := hget (j - i * E.cells) hjm
      rw [h3, Go.Deep.add_add, show i * E.cells + (j - i * E.cells) = j by omega] at this
      exact this
    refine ⟨(.slice (some a) len cap, ys), rfl, ⟨hflat, some a, cap, by rw [hyl], by show ys.length ≤ cap; omega, hm, fun e => (by cases e), fun ad had => ?_⟩, fun y hyy => ?_⟩
    · cases had
      refine ⟨fun hp => ?_, hcell⟩
      have h0 : 0 < (ys.flatMap E.img).length := by rw [hflat]; exact Nat.mul_pos hp hpos
      have := hcell 0 _ (List.getElem?_eq_getElem h0)
      simpa [Addr.add] using World.cell?_spot this
    · obtain ⟨i, hi, rfl⟩ := List.getElem_of_mem hyy
      exact (hy i _ (List.getElem?_eq_getElem hi)).2

end Mile
namespace Mile
open Go Go.RowKit

theorem Rd.len_eq {w : World} {size n m c : Nat} {a : Option Addr} {xs : List Value} (h : Rd w size (.slice a n c) m xs) : n = m := by
  obtain ⟨_, a', c', he, _⟩ := h
  cases he; rfl

theorem ok_ints {w : World} {k : IntKind} {a : Option Addr} {n c : Nat} {bs : List Int} (ok : (encSlice (encInt k)).ok w (.slice a n c, bs)) :
    bs.length = n ∧ Rd w 1 (.slice a n c) n (bs.map (Value.int k)) ∧ ∀ x ∈ bs, (Lit.int k x).wf = true := by
  obtain ⟨hr, hb⟩ := ok
  have hr : Rd w 1 (.slice a n c) bs.length (bs.flatMap fun x => [Value.int k x]) := hr
  have hn := hr.len_eq
  subst hn
  exact ⟨rfl, by simpa [List.map_eq_flatMap] using hr, hb⟩

end Mile
namespace Mile
open Go Go.RowKit
theorem opens_array3 {α : Type} {P : Program} {t e : TypeId} {E : Enc α} (ht : P.underlying t = some (.array 3 e)) (hc : P.cellsOf t = E.cells + (E.cells + E.cells)) (hce : P.cellsOf e = E.cells) (hE : Opens P e E) : Opens P t (encPair E (encPair E E)) := by
  intro H enc w base spare held fuel cs x h
  obtain ⟨xs, m, _, _, hl, hxl, hf⟩ := DataW.trod_array ht h
  have h0 := hf 0 (by omega)
  have h1 := hf 1 (by omega)
  have h2 := hf 2 (by omega)
  rw [List.getElem?_eq_getElem (show 0 < xs.length by omega)] at h0
  rw [List.getElem?_eq_getElem (show 1 < xs.length by omega)] at h1
  rw [List.getElem?_eq_getElem (show 2 < xs.length by omega)] at h2
  rw [hce] at h0 h1 h2
  obtain ⟨a, ha, hoka⟩ := hE H enc w base spare held m _ _ h0
  obtain ⟨b, hb, hokb⟩ := hE H enc w base spare held m _ _ h1
  obtain ⟨c, hc', hokc⟩ := hE H enc w base spare held m _ _ h2
  refine ⟨(a, b, c), ?_, hoka, hokb, hokc⟩
  show cs = E.img a ++ (E.img b ++ E.img c)
  rw [← ha, ← hb, ← hc']
  simp only [Nat.zero_mul, List.drop_zero, Nat.one_mul]
  rw [List.take_of_length_le (show (cs.drop (2 * E.cells)).length ≤ E.cells by rw [List.length_drop]; omega), show 2 * E.cells = E.cells + E.cells by omega, ← List.drop_drop, List.take_append_drop, List.take_append_drop]
abbrev enc3 : Enc (Int × Int × Int) := encPair (encInt .i64) (encPair (encInt .i64) (encInt .i64))
theorem ok_t3 {w : World} {a : Option Addr} {n c : Nat} {T : List T3} (ok : (encSlice enc3).ok w (.slice a n c, T)) : T.length = n ∧ Rd w 3 (.slice a n c) n (T.flatMap c3T) := by
  obtain ⟨hr, _⟩ := ok
  have hr' : Rd w 3 (.slice a n c) T.length (T.flatMap c3T) := hr
  have hn := hr'.len_eq
  subst hn
  exact ⟨rfl, hr'⟩
end Mile
namespace Go.Proofs.YtjjedebjbgpimaaGreat
open Go.RowKit Mile
theorem opens_t3 : Opens Tryz.prog 22 (encSlice enc3) := opens_slice Tryz.underlying22 (by kernel_rfl) (opens_array3 Tryz.underlying75 (by kernel_rfl) (by kernel_rfl) (opens_int Tryz.underlying3)) (by decide)
end Go.Proofs.YtjjedebjbgpimaaGreat
