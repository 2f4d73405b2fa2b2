/- Law NetActs: both nets, the code's and the document's own, side by side; its acts as data. -/
import Derived.Test.YtnklgeekjkchbaaRN5
import Derived.Test.YtnklgeekjkchbaaSame13
import Derived.Test.YtnklgeekjkchbaaOpens
namespace Mile
open Go Go.RowKit
theorem flat_get {α β : Type} (f : α → List β) (m : Nat) (hf : ∀ a, (f a).length = m) : ∀ (L : List α) (i : Nat) (hi : i < L.length) (j : Nat), j < m → (L.flatMap f)[i * m + j]? = (f L[i])[j]?
  | a :: L, 0, _, j, hj => by rw [List.flatMap_cons, List.getElem?_append_left (by rw [hf]; omega), Nat.zero_mul, Nat.zero_add]; rfl
  | a :: L, i + 1, hi, j, hj => by
    rw [List.flatMap_cons, List.getElem?_append_right (by rw [hf, Nat.succ_mul]; omega), hf, show (i + 1) * m + j - m = i * m + j by rw [Nat.succ_mul]; omega]
    exact flat_get f m hf L i (by simpa using hi) j hj
abbrev ArcD := Int × Int × Int × Int × Unit
abbrev enc4 : Enc ArcD := encPair (encInt .i64) (encPair (encInt .i64) (encPair (encInt .i64) (encPair (encInt .i64) encUnit)))
abbrev ActN := Int × ArcD × Int × Unit
abbrev encActN : Enc ActN := encPair (encInt .i64) (encPair enc4 (encPair (encInt .i64) encUnit))
def arD (x : ArcD) : Ar := ⟨x.1, x.2.1, x.2.2.1, x.2.2.2.1⟩
def c6N (x : ActN) : List Value := .int .i64 x.1 :: (c4 (arD x.2.1) ++ [.int .i64 x.2.2.1])
theorem encActN_img (l : List ActN) : l.flatMap encActN.img = l.flatMap c6N := rfl
theorem enc4_img (l : List ArcD) : l.flatMap enc4.img = (l.map arD).flatMap c4 := by
  induction l with
  | nil => rfl
  | cons x l ih => rw [List.flatMap_cons, List.map_cons, List.flatMap_cons, ih]; rfl
theorem rd6N {w : World} {n c : Nat} {a : Option Addr} {R : List ActN} (h : Rd w 6 (.slice a n c) n (R.flatMap c6N)) (hn : R.length = n) (i : Nat) (hi : i < R.length) :
    ∃ b o, elemA a i 6 = ⟨b, o, none⟩ ∧ w.cell? ⟨b, o, none⟩ = some (.int .i64 R[i].1) ∧ w.cell? ⟨b, o + 1, none⟩ = some (.int .i64 (arD R[i].2.1).f) ∧ w.cell? ⟨b, o + 2, none⟩ = some (.int .i64 (arD R[i].2.1).t) ∧ w.cell? ⟨b, o + 3, none⟩ = some (.int .i64 (arD R[i].2.1).w) ∧ w.cell? ⟨b, o + 4, none⟩ = some (.int .i64 (arD R[i].2.1).m) ∧ w.cell? ⟨b, o + 5, none⟩ = some (.int .i64 R[i].2.2.1) := by
  obtain ⟨b, o, hp, _⟩ := h.place (j := i) (by omega)
  have hq := fun j hj => flat_get c6N 6 (fun _ => rfl) R i hi j hj
  refine ⟨b, o, hp, ?_, ?_, ?_, ?_, ?_, ?_⟩
  · have := h.elemN hp 0 (u := .int .i64 R[i].1) (by rw [hq 0 (by omega)]; rfl); simpa using this
  · exact h.elemN hp 1 (by rw [hq 1 (by omega)]; rfl)
  · exact h.elemN hp 2 (by rw [hq 2 (by omega)]; rfl)
  · exact h.elemN hp 3 (by rw [hq 3 (by omega)]; rfl)
  · exact h.elemN hp 4 (by rw [hq 4 (by omega)]; rfl)
  · exact h.elemN hp 5 (by rw [hq 5 (by omega)]; rfl)
end Mile
namespace Go.Proofs.Ytnklgeekjkchbaa
open Go.RowKit Mile
set_option maxRecDepth 100000
theorem cutR_eq {n : Nat} {L : List Ar} (h : NetOk n L) (v : Int) : cutR n L v = cutN L v := by
  unfold cutR
  split
  · rfl
  · rename_i hv
    exact (cutN_none fun b hb => by have := h.may b hb; unfold mayA at this; omega).symm
theorem putR_ok {n : Nat} {L : List Ar} (h : NetOk n L) (a : Ar) : NetOk n (putR n L a) ∧ (putR n L a).length ≤ L.length + 1 := by
  unfold putR
  split
  · rename_i ha; exact ⟨h.put ha, putN_len L a⟩
  · exact ⟨h, by omega⟩
theorem cutN_len (L : List Ar) (v : Int) : (cutN L v).length ≤ L.length := List.length_filter_le _ _
theorem opens_arc : Opens Try.prog 32 enc4 :=
  opens_struct Try.underlying32 (by kernel_rfl) (opens_cons rfl (by kernel_rfl) (opens_int Try.underlying3) (opens_cons rfl (by kernel_rfl) (opens_int Try.underlying3) (opens_cons rfl (by kernel_rfl) (opens_int Try.underlying3) (opens_cons rfl (by kernel_rfl) (opens_int Try.underlying3) (opens_nil _ _)))))
theorem opens_arcs : Opens Try.prog 22 (encSlice enc4) := opens_slice Try.underlying22 (by kernel_rfl) opens_arc (by decide)
theorem opens_actN : Opens Try.prog 34 encActN :=
  opens_struct Try.underlying34 (by kernel_rfl) (opens_cons rfl (by kernel_rfl) (opens_int Try.underlying3) (opens_cons rfl (by kernel_rfl) opens_arc (opens_cons rfl (by kernel_rfl) (opens_int Try.underlying3) (opens_nil _ _))))
theorem opens_actsN : Opens Try.prog 23 (encSlice encActN) := opens_slice Try.underlying23 (by kernel_rfl) opens_actN (by decide)
/-- A row of arcs in memory that stays. -/
def ArP (L : List Ar) : Value → World → Prop := fun v W => ∃ a c, v = .slice a L.length c ∧ Rd W 4 (.slice a L.length c) L.length (L.flatMap c4)
theorem ArP.st (L : List Ar) : ∀ v w w', ArP L v w → Mod (fun _ => False) w w' → ArP L v w' := fun _ _ _ ⟨a, c, h, r⟩ m => ⟨a, c, h, r.keep m (fun _ _ e => e)⟩
/-- Both nets, made since w0: the code's at p, the document's own at q; block g, of cells cs, is neither's. -/
structure N2 (w0 w : World) (p q n : Nat) (L M : List Ar) (g : Nat) (T : TypeId) (cs : List Value) (F G : Nat → Prop) : Prop where
  nt : NT w p n L F
  rn : RNG w q n M G
  hf : ∀ k, F k → w0.heap.size ≤ k ∧ k ≠ q ∧ ¬ G k ∧ k ≠ g
  hg : ∀ k, G k → w0.heap.size ≤ k ∧ k < w.heap.size
  hq : w0.heap.size ≤ q ∧ g ≠ q
  hb : Blk w g T cs
  md : Mod (fun _ => False) w0 w
def N2S (w0 w : World) (p q n : Nat) (L M : List Ar) (g : Nat) (T : TypeId) (cs : List Value) : Prop := ∃ F G, N2 w0 w p q n L M g T cs F G
section
variable {w0 w w' : World} {p q n : Nat} {L M : List Ar} {g : Nat} {T : TypeId} {cs : List Value}
theorem N2S.later (h : N2S w0 w p q n L M g T cs) (hm : Mod (fun _ => False) w w') : N2S w0 w' p q n L M g T cs := by
  obtain ⟨F, G, h⟩ := h
  exact ⟨F, G, h.nt.later hm, h.rn.later hm, h.hf, fun k hk => ⟨(h.hg k hk).1, Nat.lt_of_lt_of_le (h.hg k hk).2 hm.size⟩, h.hq, h.hb.keep hm (fun e => e), h.md.of2 hm⟩
theorem N2S.blk (h : N2S w0 w p q n L M g T cs) : Blk w g T cs := by obtain ⟨F, G, h⟩ := h; exact h.hb
theorem N2S.mod (h : N2S w0 w p q n L M g T cs) : Mod (fun _ => False) w0 w := by obtain ⟨F, G, h⟩ := h; exact h.md
theorem N2S.ok (h : N2S w0 w p q n L M g T cs) : NetOk n L := by obtain ⟨F, G, h⟩ := h; exact h.nt.ok
/-- Another block in g's place: a new one. -/
theorem N2S.guest (h : N2S w0 w p q n L M g T cs) {g' : Nat} {T' : TypeId} {cs' : List Value} (hm : Mod (fun _ => False) w w') (hb : Blk w' g' T' cs') (hg : w.heap.size ≤ g') : N2S w0 w' p q n L M g' T' cs' := by
  obtain ⟨F, G, h⟩ := h
  exact ⟨F, G, h.nt.later hm, h.rn.later hm, fun k hk => ⟨(h.hf k hk).1, (h.hf k hk).2.1, (h.hf k hk).2.2.1, fun e => by have := h.nt.lt k hk; omega⟩, fun k hk => ⟨(h.hg k hk).1, Nat.lt_of_lt_of_le (h.hg k hk).2 hm.size⟩, ⟨h.hq.1, fun e => by have := h.rn.lt; omega⟩, hb, h.md.of2 hm⟩
theorem N2.code {F G : Nat → Prop} (h : N2 w0 w p q n L M g T cs F G) {L' : List Ar} (hx : NQ p n L' F w w') : N2S w0 w' p q n L' M g T cs := by
  obtain ⟨F', h1, h2, h3⟩ := hx
  have hs := h3.size
  have hz := h.md.size
  refine ⟨F', G, h1, h.rn.keep h3 (fun e => (h.hf q e).2.1 rfl) (fun k hk e => (h.hf k e).2.2.1 hk), fun k hk => ?_, fun k hk => ⟨(h.hg k hk).1, Nat.lt_of_lt_of_le (h.hg k hk).2 hs⟩, h.hq, h.hb.keep h3 (fun e => (h.hf g e).2.2.2 rfl), h.md.trans h3 (fun _ _ e => e) (fun k hk e => by have := (h.hf k e).1; omega)⟩
  rcases h2 k hk with e | e
  · exact h.hf k e
  · exact ⟨by omega, fun e2 => by have := h.rn.lt; omega, fun e2 => by have := (h.hg k e2).2; omega, fun e2 => by have := h.hb.lt; omega⟩
theorem N2.own {F G : Nat → Prop} (h : N2 w0 w p q n L M g T cs F G) {M' : List Ar} (h1 : RNG w' q n M' (fun k => G k ∨ (w.heap.size ≤ k ∧ k < w'.heap.size))) (h3 : Mod (fun k => k = q) w w') : N2S w0 w' p q n L M' g T cs := by
  have hs := h3.size
  have hz := h.md.size
  refine ⟨F, _, h.nt.keep h3 (fun k hk e => (h.hf k hk).2.1 e), h1, fun k hk => ⟨(h.hf k hk).1, (h.hf k hk).2.1, fun e => ?_, (h.hf k hk).2.2.2⟩, fun k hk => ?_, h.hq, h.hb.keep h3 (fun e => h.hq.2 e), h.md.trans h3 (fun _ _ e => e) (fun k hk e => by have := h.hq.1; omega)⟩
  · rcases e with e | e
    · exact (h.hf k hk).2.2.1 e
    · have := h.nt.lt k hk; omega
  · rcases hk with e | e
    · exact ⟨(h.hg k e).1, Nat.lt_of_lt_of_le (h.hg k e).2 hs⟩
    · exact ⟨by omega, e.2⟩
theorem n2_put1 (h : N2S w0 w p q n L M g T cs) (f t v m : Int) (r : Bool) (hr : putOk n L ⟨f, t, v, m⟩ = r) : Calls Try.prog 13 #[.pointer (some ⟨p, 0, none⟩), .agg #[.int .i64 f, .int .i64 t, .int .i64 v, .int .i64 m]] w fun e w' => e = .returned (.bool r) ∧ N2S w0 w' p q n (putR n L ⟨f, t, v, m⟩) M g T cs := by
  obtain ⟨F, G, hh⟩ := h
  exact (nt_put hh.nt f t v m).mono fun e w' hq => ⟨by rw [← hr]; exact hq.1, hh.code hq.2⟩
theorem n2_put2 (h : N2S w0 w p q n L M g T cs) (hok : NetOk n M) (hb : M.length ≤ 10000) (f t v m : Int) (r : Bool) (hr : putOk n M ⟨f, t, v, m⟩ = r) : Calls Try.prog 14 #[.pointer (some ⟨q, 0, none⟩), .agg #[.int .i64 f, .int .i64 t, .int .i64 v, .int .i64 m]] w fun e w' => e = .returned (.bool r) ∧ N2S w0 w' p q n L (putR n M ⟨f, t, v, m⟩) g T cs := by
  obtain ⟨F, G, hh⟩ := h
  exact (rn_putG hh.rn hok hh.nt.n512 hb f t v m).mono fun e w' hq => ⟨by rw [← hr]; exact hq.1, hh.own hq.2.1 hq.2.2⟩
theorem n2_cut1 (h : N2S w0 w p q n L M g T cs) (v : Int) : Calls Try.prog 15 #[.pointer (some ⟨p, 0, none⟩), .int .i64 v] w fun e w' => e = .returned (.tuple #[]) ∧ N2S w0 w' p q n (cutN L v) M g T cs := by
  obtain ⟨F, G, hh⟩ := h
  have e := cutR_eq hh.nt.ok v
  exact (nt_cut hh.nt v).mono fun _ w' hq => ⟨hq.1, hh.code (by rw [← e]; exact hq.2)⟩
theorem n2_cut2 (h : N2S w0 w p q n L M g T cs) (hb : M.length ≤ 10000) (v : Int) : Calls Try.prog 16 #[.pointer (some ⟨q, 0, none⟩), .int .i64 v] w fun e w' => e = .returned (.tuple #[]) ∧ N2S w0 w' p q n L (cutN M v) g T cs := by
  obtain ⟨F, G, hh⟩ := h
  exact (rn_cut hh.rn hb v).mono fun e w' hq => ⟨hq.1, hh.own hq.2.1 hq.2.2⟩
end
end Go.Proofs.Ytnklgeekjkchbaa
