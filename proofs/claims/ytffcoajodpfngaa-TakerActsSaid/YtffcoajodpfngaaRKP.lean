/- The reference's Taker: its memory, what it stands for; held bodies as rising lists. -/
import Derived.Test.YtffcoajodpfngaaTk4
namespace Go.Proofs.Ytffcoajodpfngaa
open Go.RowKit Mile
set_option maxRecDepth 100000
theorem blk_mem {w : World} {b : Nat} {T : TypeId} {cs : List Value} (h : Blk w b T cs) {o : Nat} {v : Value} (hc : w.cell? ⟨b, o, none⟩ = some v) : v ∈ cs := by
  unfold Blk at h
  simp [World.cell?, h] at hc
  exact List.mem_of_getElem? hc
/-- Bytes that a value reads as. -/
def BodyU (w : World) (b : List Int) (v : Value) : Prop := ∃ a n c, v = .slice a n c ∧ b.length = n ∧ Rd w 1 v n (b.map (Value.int .u8))
/-- A block without bytes. -/
def NoB (w : World) (k : Nat) : Prop := ∃ T cs, Blk w k T cs ∧ ∀ x, Value.int .u8 x ∉ cs
theorem rd_noB {w : World} {a : Option Addr} {n c : Nat} {b : List Int} (hr : Rd w 1 (.slice a n c) n (b.map (Value.int .u8))) {k : Nat} (hk : (Value.slice a n c).ownBlock = some k) (h : NoB w k) : b = [] := by
  obtain ⟨T, cs, hb, hno⟩ := h
  cases b with
  | nil => rfl
  | cons x l =>
    exfalso
    have hl := hr.1
    simp at hl
    obtain ⟨b', o, hp, ho⟩ := hr.place (j := 0) (by omega)
    have hc := hr.elem (j := 0) (u := .int .u8 x) rfl
    rw [hp] at hc
    rw [hk] at ho
    obtain rfl := Option.some.inj ho
    exact hno x (blk_mem hb hc)
theorem BodyU.keep {w w' : World} {b : List Int} {v : Value} {G : Nat → Prop} (h : BodyU w b v) (hm : Mod G w w') (hG : ∀ k, k < w.heap.size → G k → NoB w k) : BodyU w' b v := by
  obtain ⟨a, n, c, rfl, hn, hr⟩ := h
  refine ⟨a, n, c, rfl, hn, hr.keepA hm (fun k hk hg => ?_)⟩
  by_cases hlt : k < w.heap.size
  · rw [rd_noB hr hk (hG k hlt hg)]; rfl
  · exact hr.lt hk (by omega)
theorem BodyV.u {w : World} {p r : Nat} {b : List Int} {v : Value} (h : BodyV w p r (some b) v) : BodyU w b v := by
  obtain ⟨a, n, c, h1, h2, h3, _⟩ := h
  exact ⟨a, n, c, h1, h2, h3⟩
/-- Rows of bytes, one behind the other. -/
def BodiesU (w : World) (gs : List (List Int)) (vs : List Value) : Prop := vs.length = gs.length ∧ ∀ i (h : i < gs.length), ∃ v, vs[i]? = some v ∧ BodyU w gs[i] v
theorem BodiesV.u {w : World} {p r : Nat} {gs : List (List Int)} {vs : List Value} (h : BodiesV w p r gs vs) : BodiesU w gs vs :=
  ⟨h.1, fun i hi => by obtain ⟨v, h1, h2⟩ := h.2 i hi; exact ⟨v, h1, h2.u⟩⟩
theorem BodiesU.keep {w w' : World} {gs : List (List Int)} {vs : List Value} {G : Nat → Prop} (h : BodiesU w gs vs) (hm : Mod G w w') (hG : ∀ k, k < w.heap.size → G k → NoB w k) : BodiesU w' gs vs :=
  ⟨h.1, fun i hi => by obtain ⟨v, h1, h2⟩ := h.2 i hi; exact ⟨v, h1, h2.keep hm hG⟩⟩
theorem BodiesU.nil (w : World) : BodiesU w [] [] := ⟨rfl, fun i h => by simp at h⟩
theorem BodiesU.snoc {w : World} {gs : List (List Int)} {vs : List Value} (h : BodiesU w gs vs) {b : List Int} {v : Value} (hv : BodyU w b v) : BodiesU w (gs ++ [b]) (vs ++ [v]) := by
  refine ⟨by simp [h.1], fun i hi => ?_⟩
  by_cases e : i < gs.length
  · obtain ⟨u, h1, h2⟩ := h.2 i e
    exact ⟨u, by rw [List.getElem?_append_left (by rw [h.1]; exact e)]; exact h1, by rw [List.getElem_append_left e]; exact h2⟩
  · have e2 : i = gs.length := by simp at hi; omega
    subst e2
    exact ⟨v, by rw [← h.1]; simp, by simp; exact hv⟩
/-- One that is held: its number, its bytes, and where they lie. -/
structure Ud where
  seq : Nat
  body : List Int
  v : Value
def c2U (e : Ud) : List Value := [.int .i64 (e.seq : Int), e.v]
theorem c2U_len (L : List Ud) : (L.flatMap c2U).length = L.length * 2 := by
  induction L with
  | nil => rfl
  | cons x l ih => rw [List.flatMap_cons, List.length_append, ih, List.length_cons]; simp [c2U]; omega
theorem c2U_at : ∀ (L : List Ud) (i : Nat) (hi : i < L.length), (L.flatMap c2U)[i * 2 + 0]? = some (.int .i64 (L[i].seq : Int)) ∧ (L.flatMap c2U)[i * 2 + 1]? = some L[i].v
  | [], i, hi => by simp at hi
  | x :: l, 0, hi => by simp [c2U]
  | x :: l, i + 1, hi => by
    have := c2U_at l i (by simpa using hi)
    rw [List.flatMap_cons, List.getElem?_append_right (by simp [c2U]; omega), List.getElem?_append_right (by simp [c2U]; omega)]
    simp only [List.getElem_cons_succ]
    rw [show (i + 1) * 2 + 0 - (c2U x).length = i * 2 + 0 by simp [c2U]; omega, show (i + 1) * 2 + 1 - (c2U x).length = i * 2 + 1 by simp [c2U]; omega]
    exact this
theorem rd2u {w : World} {n c : Nat} {a : Option Addr} {L : List Ud} (h : Rd w 2 (.slice a n c) n (L.flatMap c2U)) (i : Nat) (hi : i < L.length) :
    ∃ b o, elemA a i 2 = ⟨b, o, none⟩ ∧ w.cell? ⟨b, o, none⟩ = some (.int .i64 (L[i].seq : Int)) ∧ w.cell? ⟨b, o + 1, none⟩ = some L[i].v := by
  have hn : n = L.length := by have := h.1; rw [c2U_len] at this; omega
  obtain ⟨b, o, hp, _⟩ := h.place (j := i) (by omega)
  have hg := c2U_at L i hi
  exact ⟨b, o, hp, by have := h.elemN hp 0 hg.1; simpa using this, h.elemN hp 1 hg.2⟩
theorem c2U_take (L : List Ud) (k : Nat) : (L.flatMap c2U).take (k * 2) = (L.take k).flatMap c2U := by
  induction L generalizing k with
  | nil => simp
  | cons x l ih =>
    cases k with
    | zero => simp
    | succ k =>
      rw [List.flatMap_cons, List.take_append, List.take_of_length_le (by simp [c2U]; omega), List.take_succ_cons, List.flatMap_cons, ← ih k, show (k + 1) * 2 - (c2U x).length = k * 2 by simp [c2U]; omega]
theorem c2U_drop (L : List Ud) (k : Nat) : (L.flatMap c2U).drop (k * 2) = (L.drop k).flatMap c2U := by
  induction L generalizing k with
  | nil => simp
  | cons x l ih =>
    cases k with
    | zero => simp
    | succ k =>
      rw [List.flatMap_cons, List.drop_append, List.drop_of_length_le (by simp [c2U]; omega), List.drop_succ_cons, ← ih k, show (k + 1) * 2 - (c2U x).length = k * 2 by simp [c2U]; omega]
      rfl
def RiseU (L : List Ud) : Prop := (L.map (·.seq)).Pairwise (· < ·)
/-- L is what f holds. -/
def HL (f : Hld) (L : List Ud) : Prop := RiseU L ∧ ∀ s b, f s = some b ↔ ∃ e ∈ L, e.seq = s ∧ e.body = b
theorem HL.nil : HL (fun _ => none) [] := ⟨List.Pairwise.nil, fun s b => by simp⟩
theorem HL.none_ {f : Hld} {L : List Ud} (h : HL f L) {s : Nat} (hs : ∀ e ∈ L, e.seq ≠ s) : f s = none := by
  cases hf : f s with
  | none => rfl
  | some b => obtain ⟨e, he, h1, _⟩ := (h.2 s b).1 hf; exact absurd h1 (hs e he)
theorem HL.ne {f : Hld} {L : List Ud} (h : HL f L) {s : Nat} (hf : f s = none) : ∀ e ∈ L, e.seq ≠ s := fun e he hs => by
  have := (h.2 s e.body).2 ⟨e, he, hs, rfl⟩
  rw [hf] at this; cases this
theorem riseU_split {A Q : List Ud} (h : RiseU (A ++ Q)) : RiseU A ∧ RiseU Q ∧ ∀ x ∈ A, ∀ y ∈ Q, x.seq < y.seq := by
  unfold RiseU at h
  rw [List.map_append, List.pairwise_append] at h
  exact ⟨h.1, h.2.1, fun x hx y hy => h.2.2 _ (List.mem_map_of_mem hx) _ (List.mem_map_of_mem hy)⟩
theorem HL.put {f : Hld} {A Q : List Ud} (h : HL f (A ++ Q)) {x : Ud} (hA : ∀ e ∈ A, e.seq < x.seq) (hQ : ∀ e ∈ Q, x.seq < e.seq) : HL (putH f x.seq x.body) (A ++ x :: Q) := by
  obtain ⟨h1, h2, h3⟩ := riseU_split h.1
  constructor
  · unfold RiseU
    rw [List.map_append, List.map_cons, List.pairwise_append, List.pairwise_cons]
    refine ⟨h1, ⟨fun s hs => ?_, h2⟩, fun s hs t ht => ?_⟩
    · obtain ⟨e, he, rfl⟩ := List.mem_map.1 hs; exact hQ e he
    · obtain ⟨e, he, rfl⟩ := List.mem_map.1 hs
      rcases List.mem_cons.1 ht with rfl | ht
      · exact hA e he
      · obtain ⟨e', he', rfl⟩ := List.mem_map.1 ht; exact h3 e he e' he'
  · intro s b
    unfold putH
    by_cases hs : s = x.seq
    · rw [if_pos hs]
      constructor
      · intro hb; exact ⟨x, by simp, hs.symm, Option.some.inj hb⟩
      · rintro ⟨e, he, h5, h6⟩
        rw [List.mem_append, List.mem_cons] at he
        rcases he with he | rfl | he
        · have := hA e he; omega
        · rw [h6]
        · have := hQ e he; omega
    · rw [if_neg hs, h.2 s b]
      constructor
      · rintro ⟨e, he, h5, h6⟩
        exact ⟨e, by rw [List.mem_append] at he; rw [List.mem_append, List.mem_cons]; exact he.elim .inl (fun x => .inr (.inr x)), h5, h6⟩
      · rintro ⟨e, he, h5, h6⟩
        rw [List.mem_append, List.mem_cons] at he
        rcases he with he | rfl | he
        · exact ⟨e, List.mem_append.2 (.inl he), h5, h6⟩
        · exact absurd h5.symm hs
        · exact ⟨e, List.mem_append.2 (.inr he), h5, h6⟩
theorem HL.pop {f : Hld} {x : Ud} {L : List Ud} (h : HL f (x :: L)) : HL (fromH f (x.seq + 1)) L := by
  have hr : RiseU L ∧ ∀ y ∈ L, x.seq < y.seq := by
    obtain ⟨_, h2, h3⟩ := riseU_split (A := [x]) (Q := L) h.1
    exact ⟨h2, fun y hy => h3 x (by simp) y hy⟩
  refine ⟨hr.1, fun s b => ?_⟩
  unfold fromH
  by_cases hs : s < x.seq + 1
  · rw [if_pos hs]
    constructor
    · intro h; cases h
    · rintro ⟨e, he, h5, _⟩; have := hr.2 e he; omega
  · rw [if_neg hs, h.2 s b]
    constructor
    · rintro ⟨e, he, h5, h6⟩
      rcases List.mem_cons.1 he with rfl | he
      · omega
      · exact ⟨e, he, h5, h6⟩
    · rintro ⟨e, he, h5, h6⟩; exact ⟨e, by simp [he], h5, h6⟩
theorem HL.head {f : Hld} {x : Ud} {L : List Ud} (h : HL f (x :: L)) : f x.seq = some x.body := (h.2 _ _).2 ⟨x, by simp, rfl, rfl⟩
/-- What is got, and what is left, by the list. -/
theorem HL.held {f : Hld} {L : List Ud} (h : HL f L) {N M : Nat} (hs : ∀ s, f s ≠ none → N ≤ s ∧ s < N + M) : heldT f N M = L.map (fun e => (e.seq : Int)) := by
  have h1 : (heldT f N M).Pairwise (· < ·) := by
    unfold heldT
    rw [List.pairwise_map]
    exact (List.Pairwise.filter _ List.pairwise_lt_range).imp (fun h => by omega)
  have h2 : (L.map (fun e : Ud => (e.seq : Int))).Pairwise (· < ·) := by
    have := h.1
    unfold RiseU at this
    rw [List.pairwise_map] at this ⊢
    exact this.imp (fun h => by omega)
  have hmem : ∀ x, x ∈ heldT f N M ↔ x ∈ L.map (fun e : Ud => (e.seq : Int)) := by
    intro x
    unfold heldT
    rw [List.mem_map, List.mem_map]
    constructor
    · rintro ⟨i, hi, rfl⟩
      obtain ⟨_, h4⟩ := List.mem_filter.1 hi
      cases hf : f (N + i) with
      | none => rw [hf] at h4; cases h4
      | some b => obtain ⟨e, he, h5, _⟩ := (h.2 _ b).1 hf; exact ⟨e, he, by rw [h5]⟩
    · rintro ⟨e, he, rfl⟩
      have hf := (h.2 e.seq e.body).2 ⟨e, he, rfl, rfl⟩
      have hb := hs e.seq (by rw [hf]; simp)
      refine ⟨e.seq - N, List.mem_filter.2 ⟨List.mem_range.2 (by omega), ?_⟩, by omega⟩
      rw [show N + (e.seq - N) = e.seq by omega, hf]; rfl
  have n1 : (heldT f N M).Nodup := h1.imp (fun h => by omega)
  have n2 : (L.map (fun e : Ud => (e.seq : Int))).Nodup := h2.imp (fun h => by omega)
  refine List.Perm.eq_of_pairwise (le := (· ≤ ·)) (fun a b _ _ h1 h2 => by omega) (h1.imp (fun h => by omega)) (h2.imp (fun h => by omega)) ?_
  rw [List.perm_iff_count]
  intro x
  rw [n1.count, n2.count]
  simp only [hmem x]
theorem HL.len {f : Hld} {L : List Ud} (h : HL f L) {N M : Nat} (hs : ∀ s, f s ≠ none → N ≤ s ∧ s < N + M) : L.length ≤ M := by
  have := heldT_len f N M
  rw [h.held hs] at this
  simpa using this
/-- The reference's Taker at block q. -/
structure RK (w : World) (q : Nat) (a : Option Addr) (n c M N : Nat) (L : List Ud) : Prop where
  w0 : 1 ≤ M
  w16 : M ≤ 16
  len : L.length = n
  blk : Blk w q 39 [.int .i64 (M : Int), .int .i64 (N : Int), .slice a n c]
  rd : Rd w 2 (.slice a n c) n (L.flatMap c2U)
  ne : ∀ k, (Value.slice a n c).ownBlock = some k → k = q → n = 0
  bodies : ∀ e ∈ L, BodyU w e.body e.v
theorem ru_nil {L : List Ud} (h : L.length = 0) : L.flatMap c2U = [] := by cases L with | nil => rfl | cons x l => cases h
theorem RK.keep {w w' : World} {q : Nat} {a : Option Addr} {n c M N : Nat} {L : List Ud} {G : Nat → Prop} (h : RK w q a n c M N L) (hm : Mod G w w') (hq : ¬ G q) (hv : ∀ k, (Value.slice a n c).ownBlock = some k → G k → n = 0) (hG : ∀ k, k < w.heap.size → G k → NoB w k) : RK w' q a n c M N L :=
  ⟨h.w0, h.w16, h.len, h.blk.keep hm hq, h.rd.keepA hm (fun k hk e => ru_nil (by rw [h.len]; exact hv k hk e)), h.ne, fun e he => (h.bodies e he).keep hm hG⟩
theorem RK.later {w w' : World} {q : Nat} {a : Option Addr} {n c M N : Nat} {L : List Ud} (h : RK w q a n c M N L) (hm : Mod (fun _ => False) w w') : RK w' q a n c M N L := h.keep hm (fun e => e) (fun _ _ e => e.elim) (fun _ _ e => e.elim)
theorem RK.noB {w : World} {q : Nat} {a : Option Addr} {n c M N : Nat} {L : List Ud} (h : RK w q a n c M N L) : NoB w q := ⟨_, _, h.blk, fun x hx => by simp at hx⟩
theorem TK.noP {w : World} {p r M N : Nat} {f : Hld} (h : TK w p r M N f) : NoB w p := ⟨_, _, h.blk, fun x hx => by simp at hx⟩
/-- The same without its bodies. -/
structure RK0 (w : World) (q : Nat) (a : Option Addr) (n c M N : Nat) (L : List Ud) : Prop where
  w0 : 1 ≤ M
  w16 : M ≤ 16
  len : L.length = n
  blk : Blk w q 39 [.int .i64 (M : Int), .int .i64 (N : Int), .slice a n c]
  rd : Rd w 2 (.slice a n c) n (L.flatMap c2U)
  ne : ∀ k, (Value.slice a n c).ownBlock = some k → k = q → n = 0
theorem RK.zero {w : World} {q : Nat} {a : Option Addr} {n c M N : Nat} {L : List Ud} (h : RK w q a n c M N L) : RK0 w q a n c M N L := ⟨h.w0, h.w16, h.len, h.blk, h.rd, h.ne⟩
theorem RK0.full {w : World} {q : Nat} {a : Option Addr} {n c M N : Nat} {L : List Ud} (h : RK0 w q a n c M N L) (hb : ∀ e ∈ L, BodyU w e.body e.v) : RK w q a n c M N L := ⟨h.w0, h.w16, h.len, h.blk, h.rd, h.ne, hb⟩
theorem RK0.keep {w w' : World} {q : Nat} {a : Option Addr} {n c M N : Nat} {L : List Ud} {G : Nat → Prop} (h : RK0 w q a n c M N L) (hm : Mod G w w') (hq : ¬ G q) (hv : ∀ k, (Value.slice a n c).ownBlock = some k → ¬ G k) : RK0 w' q a n c M N L :=
  ⟨h.w0, h.w16, h.len, h.blk.keep hm hq, h.rd.keep hm hv, h.ne⟩
theorem RK0.later {w w' : World} {q : Nat} {a : Option Addr} {n c M N : Nat} {L : List Ud} (h : RK0 w q a n c M N L) (hm : Mod (fun _ => False) w w') : RK0 w' q a n c M N L := h.keep hm (fun e => e) (fun _ _ e => e)
theorem mod_hit {N W j : Nat} (hj : j < W) : ∃ s, N ≤ s ∧ s < N + W ∧ s % W = j := by
  have hN := Nat.div_add_mod N W
  have hm : N % W < W := Nat.mod_lt _ (by omega)
  by_cases h : N % W ≤ j
  · refine ⟨N + (j - N % W), by omega, by omega, ?_⟩
    rw [show N + (j - N % W) = W * (N / W) + j by omega, Nat.mul_add_mod, Nat.mod_eq_of_lt hj]
  · refine ⟨N + (j + W - N % W), by omega, by omega, ?_⟩
    rw [show N + (j + W - N % W) = W * (N / W) + (j + W) by omega, Nat.mul_add_mod, Nat.add_mod_right, Nat.mod_eq_of_lt hj]
theorem TK.noR {w : World} {p r M N : Nat} {f : Hld} (h : TK w p r M N f) : NoB w r := by
  obtain ⟨cs, hb, hl, hok⟩ := h.row
  refine ⟨_, _, hb, fun x hx => ?_⟩
  obtain ⟨i, hi, hc⟩ := List.mem_iff_getElem.1 hx
  obtain ⟨s, h1, h2, h3⟩ := mod_hit (N := N) (W := M) (j := i / 2) (by omega)
  obtain ⟨g1, v, g2, g3⟩ := hok s h1 h2
  rw [h3] at g1 g2
  obtain ⟨_, _, _, rfl, _⟩ := g3
  rcases Nat.mod_two_eq_zero_or_one i with e | e
  · rw [show i / 2 * 2 = i by omega, List.getElem?_eq_getElem hi, hc] at g1
    cases g1
  · rw [show i / 2 * 2 + 1 = i by omega, List.getElem?_eq_getElem hi, hc] at g2
    cases g2
end Go.Proofs.Ytffcoajodpfngaa
