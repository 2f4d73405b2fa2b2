/- A region that draws its order, with calls one behind the other on one Writer, and rows of numbers made for them. -/
import Derived.Test.YtabfmnlpipbegaaRegion8
import Derived.Test.YtabfmnlpipbegaaGram1
namespace Go.Proofs.Ytabfmnlpipbegaa
open Go.RowKit Mile
set_option maxRecDepth 100000
/-- A Writer's blocks are of two types. -/
theorem Wr.shrink {w : World} {p : Nat} {s : Option (List Int)} {F : Nat → Prop} (h : Wr w p s F) : ∃ F0, Wr w p s F0 ∧ (∀ k, F0 k → F k) ∧ ∀ (q : Nat) (T : TypeId) (cs : List Value), T ≠ 5 → T ≠ 59 → Blk w q T cs → ¬ F0 q := by
  obtain ⟨v, h1, h2, h3, h4, h5⟩ := h
  refine ⟨fun k => k = p ∨ v.ownBlock = some k, ⟨v, h1, h2, .inl rfl, fun k hk => ⟨.inr hk, (h4 k hk).2⟩, fun k hk => ?_⟩, fun k hk => ?_, fun q T cs t1 t2 hb hq => ?_⟩
  · rcases hk with rfl | hk
    · exact h5 _ h3
    · exact h5 _ (h4 k hk).1
  · rcases hk with rfl | hk
    · exact h3
    · exact (h4 k hk).1
  · rcases hq with rfl | hq
    · unfold Blk at hb h1; rw [hb] at h1; simp at h1; exact t2 h1.2
    · rcases h2.2 with ⟨e, _⟩ | ⟨g, cap, cur, he, hb2, hg, _⟩
      · rw [e] at hq; cases hq
      · subst he
        have e : g = q := by simpa [Value.ownBlock] using hq
        subst e
        unfold Blk at hb; rw [hb] at hg; simp at hg; exact t1 hg.2
/-- A Writer that the call has made. -/
theorem WrSt.shrink {wB W : World} {p : Nat} {s : Option (List Int)} {F : Nat → Prop} (h : WrSt wB W p s F) : ∃ F0, WrSt wB W p s F0 ∧ ∀ (q : Nat) (T : TypeId) (cs : List Value), T ≠ 5 → T ≠ 59 → Blk W q T cs → ¬ F0 q := by
  obtain ⟨F0, h1, h2, h3⟩ := Wr.shrink h.r
  exact ⟨F0, ⟨h1, fun k hk => h.low k (h2 k hk), h.mod⟩, h3⟩
/-- Rows of blocks of another type stay, whatever is written. -/
def Typed (W w' : World) : Prop := ∀ (q : Nat) (T : TypeId) (cs : List Value), T ≠ 5 → T ≠ 59 → Blk W q T cs → Blk w' q T cs
theorem Typed.ofMod {W w' : World} (h : Mod (fun _ => False) W w') : Typed W w' := fun _ _ _ _ _ hb => hb.keep h (fun e => e)
theorem Typed.trans {a b c : World} (h : Typed a b) (k : Typed b c) : Typed a c := fun q T cs t1 t2 hb => k q T cs t1 t2 (h q T cs t1 t2 hb)
theorem Rd.ofBlkN {w : World} {b n : Nat} {T : TypeId} {xs : List Value} (h : Blk w b T xs) (hn : xs.length = n) (hnb : n ≤ 100) : Rd w 1 (.slice (some ⟨b, 0, none⟩) n n) n xs := by
  refine ⟨by rw [Nat.mul_one]; exact hn, some ⟨b, 0, none⟩, n, rfl, Nat.le_refl _, by unfold maxLen; omega, fun h => (by cases h), fun ad had => ?_⟩
  cases had
  refine ⟨fun _ => rfl, fun j u hj => ?_⟩
  rw [Addr.add_lit, Nat.zero_add]
  exact h.cell j hj
def LitV (xs : List Int) (v : Value) (W : World) : Prop := ∃ q, v = .slice (some ⟨q, 0, none⟩) xs.length xs.length ∧ Blk W q 3 (xs.map (Value.int .i64))
theorem LitV.typed {xs : List Int} {v : Value} {W w' : World} (h : LitV xs v W) (ht : Typed W w') (t1 : 3 ≠ 5) (t2 : 3 ≠ 59) : LitV xs v w' := by
  obtain ⟨q, h1, h2⟩ := h
  exact ⟨q, h1, ht q _ _ t1 t2 h2⟩
/-- Nums of a Writer that the call has made, of a literal row. -/
theorem nums_lit2 {wB W : World} {p : Nat} {s : Option (List Int)} {F : Nat → Prop} (h : WrSt wB W p s F) (size : Int) (v : Value) (xs : List Int) (hv : LitV xs v W) (hs : xs.length ≤ 100) (hl : (s.getD []).length ≤ 100000) :
    Calls Try.prog 25 #[.pointer (some ⟨p, 0, none⟩), .int .i64 size, v] W fun e w' => e = .returned (.pointer (some ⟨p, 0, none⟩)) ∧ ∃ F', WrSt wB w' p (numsS size xs s) F' ∧ Typed W w' := by
  obtain ⟨q, rfl, hb⟩ := hv
  obtain ⟨F0, h0, ht⟩ := h.shrink
  refine (nums_any p _ s F0 h0.r size _ xs (Rd.ofBlkN hb (by rw [List.length_map]) hs) (fun k hk hf => by have e : q = k := Option.some.inj hk; subst e; exact absurd hf (ht _ _ _ (by decide) (by decide) hb)) (by omega)).mono ?_
  rintro e w' ⟨he, F', hW, hA⟩
  exact ⟨he, F', h0.aft hW hA, fun q T cs t1 t2 hq => hq.keep hA.1 (ht q T cs t1 t2 hq)⟩
/-- Nums of a Writer that the call has made, of a row that stood ahead. -/
theorem nums_old2 {wB W : World} {p : Nat} {s : Option (List Int)} {F : Nat → Prop} (h : WrSt wB W p s F) (size : Int) (v : Value) (xs : List Int) (hr : Rd wB 1 v xs.length (xs.map (Value.int .i64))) (hl : (s.getD []).length + 7 * xs.length ≤ 100000) :
    Calls Try.prog 25 #[.pointer (some ⟨p, 0, none⟩), .int .i64 size, v] W fun e w' => e = .returned (.pointer (some ⟨p, 0, none⟩)) ∧ ∃ F', WrSt wB w' p (numsS size xs s) F' ∧ Typed W w' := by
  obtain ⟨F0, h0, ht⟩ := h.shrink
  refine (nums_any p _ s F0 h0.r size v xs (hr.keep h0.mod (fun _ _ e => e)) (fun k hk hf => by
    by_cases hlt : k < wB.heap.size
    · have := h0.low k hf; omega
    · have := hr.lt hk (by omega)
      simpa using this) (by omega)).mono ?_
  rintro e w' ⟨he, F', hW, hA⟩
  exact ⟨he, F', h0.aft hW hA, fun q T cs t1 t2 hq => hq.keep hA.1 (ht q T cs t1 t2 hq)⟩
/-- A drawn region's plan: what its operations leave, which make rows, which call. -/
structure Ch where
  wB : World
  w0 : World
  p : Nat
  VL : List Value
  lits : List (Nat × List Int)
  calls : List Nat
  ss : List (Option (List Int))
structure ChI (K : Ch) (L : Nat → Prop) (vs : Nat → Value) (W : World) : Prop where
  val : ∀ i, L i → (∀ x ∈ K.lits, x.1 ≠ i) → vs i = K.VL.getD i undef
  lit : ∀ x ∈ K.lits, L x.1 → LitV x.2 (vs x.1) W
  typ : Typed K.w0 W
  obj : ∃ c F, c ≤ K.calls.length ∧ (∀ j, j < K.calls.length → (L (K.calls.getD j 0) ↔ j < c)) ∧ WrSt K.wB W K.p (K.ss.getD c none) F
theorem ChI.start {K : Ch} {vs : Nat → Value} {F : Nat → Prop} (h : WrSt K.wB K.w0 K.p (K.ss.getD 0 none) F) : ChI K (fun _ => False) vs K.w0.drew :=
  ⟨fun _ e => e.elim, fun _ _ e => e.elim, Typed.ofMod (Mod.drew _ _), 0, F, Nat.zero_le _, fun _ _ => ⟨fun e => e.elim, fun e => absurd e (Nat.not_lt_zero _)⟩, h.later (Mod.drew _ _)⟩
theorem ChI.mod {K : Ch} {L : Nat → Prop} {vs : Nat → Value} {W : World} (h : ChI K L vs W) : Mod (fun _ => False) K.wB W := by obtain ⟨_, _, _, _, h⟩ := h.obj; exact h.mod
theorem ChI.put {K : Ch} {L : Nat → Prop} {vs : Nat → Value} {W W' : World} {i : Nat} {v : Value} (h : ChI K L vs W) (hc : ∀ j, j < K.calls.length → K.calls.getD j 0 ≠ i) (hv : (∀ x ∈ K.lits, x.1 ≠ i) → v = K.VL.getD i undef) (hl : ∀ x ∈ K.lits, x.1 = i → LitV x.2 v W') (hm : Mod (fun _ => False) W W') : ChI K (fun j => L j ∨ j = i) (upd vs i v) W' := by
  obtain ⟨c, F, h1, h2, h3⟩ := h.obj
  refine ⟨fun j hj hn => ?_, fun x hx hj => ?_, h.typ.trans (Typed.ofMod hm), c, F, h1, fun j hj => ?_, h3.later hm⟩
  · by_cases e : j = i
    · subst e; simp only [upd, if_pos]; exact hv hn
    · simp only [upd, if_neg e]; exact h.val j (hj.resolve_right e) hn
  · by_cases e : x.1 = i
    · simp only [upd, if_pos e]; exact hl x hx e
    · simp only [upd, if_neg e]; exact (h.lit x hx (hj.resolve_right e)).typed (Typed.ofMod hm) (by decide) (by decide)
  · rw [← h2 j hj]
    exact ⟨fun e => e.resolve_right (hc j hj), .inl⟩
theorem ChI.before {K : Ch} {L : Nat → Prop} {vs : Nat → Value} {W : World} (h : ChI K L vs W) (k : Nat) (hk : k < K.calls.length) (hn : ¬ L (K.calls.getD k 0)) (hp : k = 0 ∨ L (K.calls.getD (k - 1) 0)) : ∃ F, WrSt K.wB W K.p (K.ss.getD k none) F := by
  obtain ⟨c, F, h1, h2, h3⟩ := h.obj
  have a : ¬ k < c := fun e => hn ((h2 k hk).2 e)
  have b : k ≤ c := by
    rcases hp with e | e
    · omega
    · have := (h2 (k - 1) (by omega)).1 e; omega
  obtain rfl : k = c := by omega
  exact ⟨F, h3⟩
theorem ChI.called {K : Ch} {L : Nat → Prop} {vs : Nat → Value} {W W' : World} {i : Nat} {v : Value} (h : ChI K L vs W) (k : Nat) (hk : k < K.calls.length) (hi : K.calls.getD k 0 = i) (hn : ¬ L i) (hp : k = 0 ∨ L (K.calls.getD (k - 1) 0)) (hd : ∀ j, j < K.calls.length → j ≠ k → K.calls.getD j 0 ≠ i) (hnl : ∀ x ∈ K.lits, x.1 ≠ i) (hv : v = K.VL.getD i undef)
    {F : Nat → Prop} (hw : WrSt K.wB W' K.p (K.ss.getD (k + 1) none) F) (ht : Typed W W') : ChI K (fun j => L j ∨ j = i) (upd vs i v) W' := by
  obtain ⟨c, F0, h1, h2, h3⟩ := h.obj
  have a : ¬ k < c := fun e => hn (by rw [← hi]; exact (h2 k hk).2 e)
  have b : k ≤ c := by
    rcases hp with e | e
    · omega
    · have := (h2 (k - 1) (by omega)).1 e; omega
  obtain rfl : k = c := by omega
  refine ⟨fun j hj hn => ?_, fun x hx hj => ?_, h.typ.trans ht, k + 1, F, hk, fun j hj => ?_, hw⟩
  · by_cases e : j = i
    · subst e; simp only [upd, if_pos]; exact hv
    · simp only [upd, if_neg e]; exact h.val j (hj.resolve_right e) hn
  · have e : x.1 ≠ i := hnl x hx
    simp only [upd, if_neg e]; exact (h.lit x hx (hj.resolve_right e)).typed ht (by decide) (by decide)
  · by_cases e : j = k
    · subst e; exact ⟨fun _ => by omega, fun _ => .inr hi⟩
    · constructor
      · rintro (h | h)
        · have := (h2 j hj).1 h; omega
        · exact absurd h (hd j hj e)
      · intro h
        exact .inl ((h2 j hj).2 (by omega))
theorem ChI.done {K : Ch} {L : Nat → Prop} {vs : Nat → Value} {W : World} (h : ChI K L vs W) (hL : ∀ j, j < K.calls.length → L (K.calls.getD j 0)) : ∃ F, WrSt K.wB W K.p (K.ss.getD K.calls.length none) F := by
  obtain ⟨c, F, h1, h2, h3⟩ := h.obj
  have e : c = K.calls.length := by
    by_cases e : c < K.calls.length
    · have := (h2 c e).1 (hL c e); omega
    · omega
  subst e
  exact ⟨F, h3⟩
theorem all_ne {l : List (Nat × List Int)} {i : Nat} (h : (l.all fun x => x.1 != i) = true) : ∀ x ∈ l, x.1 ≠ i := fun x hx => by
  have := List.all_eq_true.1 h x hx
  simpa using this
theorem ChI.at_ {K : Ch} {L : Nat → Prop} {vs : Nat → Value} {W : World} (h : ChI K L vs W) (i : Nat) (hL : L i) (hq : (K.lits.all fun x => x.1 != i) = true) : vs i = K.VL.getD i undef := h.val i hL (all_ne hq)
theorem mem_filt {l : List (Nat × List Int)} {i : Nat} {xs : List Int} (h : l.filter (fun x => x.1 == i) = [(i, xs)]) : (i, xs) ∈ l := by
  have : (i, xs) ∈ l.filter (fun x => x.1 == i) := by rw [h]; simp
  exact (List.mem_filter.1 this).1
theorem ChI.row_ {K : Ch} {L : Nat → Prop} {vs : Nat → Value} {W : World} (h : ChI K L vs W) (i : Nat) (xs : List Int) (hL : L i) (hq : K.lits.filter (fun x => x.1 == i) = [(i, xs)]) : LitV xs (vs i) W := h.lit (i, xs) (mem_filt hq) hL
theorem getD_all {l : List Nat} {i : Nat} (h : (l.all fun x => x != i) = true) : ∀ j, j < l.length → l.getD j 0 ≠ i := fun j hj => by
  have := List.all_eq_true.1 h (l[j]) (List.getElem_mem hj)
  simpa [List.getD, hj] using this
theorem ChI.val_ {K : Ch} {L : Nat → Prop} {vs : Nat → Value} {W W' : World} (h : ChI K L vs W) (i : Nat) {v : Value} (hq : (K.calls.all fun x => x != i) = true) (hq2 : (K.lits.all fun x => x.1 != i) = true) (hv : v = K.VL.getD i undef) (hm : Mod (fun _ => False) W W') : ChI K (fun j => L j ∨ j = i) (upd vs i v) W' :=
  h.put (getD_all hq) (fun _ => hv) (fun x hx e => absurd e (all_ne hq2 x hx)) hm
theorem ChI.lit_ {K : Ch} {L : Nat → Prop} {vs : Nat → Value} {W W' : World} (h : ChI K L vs W) (i : Nat) (xs : List Int) {v : Value} (hq : (K.calls.all fun x => x != i) = true) (hx : K.lits.filter (fun x => x.1 == i) = [(i, xs)]) (hl : LitV xs v W') (hm : Mod (fun _ => False) W W') : ChI K (fun j => L j ∨ j = i) (upd vs i v) W' :=
  h.put (getD_all hq) (fun g => absurd rfl (g (i, xs) (mem_filt hx))) (fun x hx2 e => by
    have : x ∈ K.lits.filter (fun x => x.1 == i) := List.mem_filter.2 ⟨hx2, by simp [e]⟩
    rw [hx] at this
    rw [List.mem_singleton.1 this]
    exact hl) hm
theorem ChI.call_ {K : Ch} {L : Nat → Prop} {vs : Nat → Value} {W W' : World} (h : ChI K L vs W) (i k : Nat) {v : Value} (hk : decide (k < K.calls.length) = true) (hi : (K.calls.getD k 0 == i) = true) (hd : ((List.range K.calls.length).all fun j => j == k || K.calls.getD j 0 != i) = true) (hq2 : (K.lits.all fun x => x.1 != i) = true) (hn : ¬ L i) (hp : k = 0 ∨ L (K.calls.getD (k - 1) 0)) (hv : v = K.VL.getD i undef)
    {F : Nat → Prop} (hw : WrSt K.wB W' K.p (K.ss.getD (k + 1) none) F) (ht : Typed W W') : ChI K (fun j => L j ∨ j = i) (upd vs i v) W' :=
  h.called k (of_decide_eq_true hk) (by simpa using hi) hn hp (fun j hj hne => by
    have := List.all_eq_true.1 hd j (List.mem_range.2 hj)
    rcases Bool.or_eq_true_iff.1 this with e | e
    · exact absurd (by simpa using e) hne
    · simpa using e) (all_ne hq2) hv hw ht
theorem ChI.was_ {K : Ch} {L : Nat → Prop} {vs : Nat → Value} {W : World} (h : ChI K L vs W) (i k : Nat) (hk : decide (k < K.calls.length) = true) (hi : (K.calls.getD k 0 == i) = true) (hn : ¬ L i) (hp : k = 0 ∨ L (K.calls.getD (k - 1) 0)) : ∃ F, WrSt K.wB W K.p (K.ss.getD k none) F :=
  h.before k (of_decide_eq_true hk) (by rw [show K.calls.getD k 0 = i by simpa using hi]; exact hn) hp
end Go.Proofs.Ytabfmnlpipbegaa
