/- The taker: what its memory holds; what is got, as plain lists. -/
import Derived.Test.YtdahoecejnnjkaaRows
import Derived.Test.YtdahoecejnnjkaaClone
import Derived.Test.YtdahoecejnnjkaaEv
import Derived.Test.YtdahoecejnnjkaaShp
namespace Go.Proofs.Ytdahoecejnnjkaa
open Go.RowKit Mile
set_option maxRecDepth 100000
theorem Tk.infoP : (Try.prog.info? 121).map (fun i => (i.zero, i.size, i.bytes)) = some (some (.agg #[.bool false, .slice none 0 0]), 2, 32) := by kernel_rfl
theorem Tk.infoB : (Try.prog.info? 38).map (fun i => (i.zero, i.size, i.bytes)) = some (some (.slice none 0 0), 1, 24) := by kernel_rfl
def lenS : Value → Nat
  | .slice _ n _ => n
  | _ => 0
/-- What bodies are held, by number. -/
abbrev Hld := Nat → Option (List Int)
/-- A block of bytes. -/
def IsT (w : World) (k : Nat) : Prop := ∃ cur fz, w.heap[k]? = some (.cells cur 5 fz)
theorem IsT.lt {w : World} {k : Nat} (h : IsT w k) : k < w.heap.size := by obtain ⟨cur, fz, h⟩ := h; exact lt_of_block h
theorem IsT.keep {w w' : World} {k : Nat} {G : Nat → Prop} (h : IsT w k) (hm : Mod G w w') (hG : ¬ G k) : IsT w' k := by
  have hl := h.lt
  obtain ⟨cur, fz, h⟩ := h
  exact ⟨cur, fz, (hm.block k hl hG).trans h⟩
theorem IsT.own {w : World} {B n : Nat} {v : Value} {xs : List Value} {k : Nat} (h : w.ownsRow B 5 1 v n xs) (hk : v.ownBlock = some k) : IsT w k := by
  rcases h.2 with ⟨e1, _⟩ | ⟨g, cap, u, e1, _, hb, _⟩
  · rw [e1] at hk; cases hk
  · rw [e1] at hk
    obtain rfl : g = k := Option.some.inj hk
    exact ⟨_, _, hb⟩
/-- A body as it is held: its bytes, in memory of its own. -/
def BodyV (w : World) (p r : Nat) (o : Option (List Int)) (v : Value) : Prop :=
  ∃ a n c, v = .slice a n c ∧ (o.getD []).length = n ∧ Rd w 1 v n ((o.getD []).map (Value.int .u8)) ∧ ∀ k, v.ownBlock = some k → k ≠ p ∧ k ≠ r ∧ IsT w k
theorem BodyV.nil (w : World) (p r : Nat) : BodyV w p r none (.slice none 0 0) := ⟨none, 0, 0, rfl, rfl, Rd.nil _ _, fun k hk => by cases hk⟩
/-- A body stays as it is, whatever becomes of p, r and of what is newer. -/
theorem BodyV.keep {w w' : World} {p r : Nat} {o : Option (List Int)} {v : Value} {G : Nat → Prop} (h : BodyV w p r o v) (hm : Mod G w w') (hG : ∀ k, k < w.heap.size → G k → k = p ∨ k = r) : BodyV w' p r o v := by
  obtain ⟨a, n, c, rfl, hn, hr, hk⟩ := h
  have hno : ∀ k, (Value.slice a n c).ownBlock = some k → ¬ G k := fun k hk1 hk2 => by
    rcases hG k (hk k hk1).2.2.lt hk2 with e | e
    · exact absurd e (hk k hk1).1
    · exact absurd e (hk k hk1).2.1
  exact ⟨a, n, c, rfl, hn, hr.keepA hm (fun k hk1 hk2 => absurd hk2 (hno k hk1)), fun k hk1 => ⟨(hk k hk1).1, (hk k hk1).2.1, (hk k hk1).2.2.keep hm (hno k hk1)⟩⟩
/-- The row of places, as it stands for f from N on. -/
def RowOk (wv : World) (p r W N : Nat) (f : Hld) (cs : List Value) : Prop :=
  cs.length = W * 2 ∧ ∀ s, N ≤ s → s < N + W → cs[s % W * 2]? = some (.bool (f s).isSome) ∧ ∃ v, cs[s % W * 2 + 1]? = some v ∧ BodyV wv p r (f s) v
theorem mod_inj {W N a b : Nat} (ha : N ≤ a ∧ a < N + W) (hb : N ≤ b ∧ b < N + W) (h : a % W = b % W) : a = b := by
  rcases Nat.le_total a b with hab | hab
  · have h1 := Nat.sub_mod_eq_zero_of_mod_eq h.symm
    rw [Nat.mod_eq_of_lt (by omega)] at h1
    omega
  · have h1 := Nat.sub_mod_eq_zero_of_mod_eq h
    rw [Nat.mod_eq_of_lt (by omega)] at h1
    omega
def putH (f : Hld) (s : Nat) (bs : List Int) : Hld := fun t => if t = s then some bs else f t
def fromH (f : Hld) (N : Nat) : Hld := fun t => if t < N then none else f t
theorem RowOk.put {wv : World} {p r W N : Nat} {f : Hld} {cs : List Value} (h : RowOk wv p r W N f cs) {s : Nat} (hs : N ≤ s ∧ s < N + W) {bs : List Int} {v : Value} (hv : BodyV wv p r (some bs) v) :
    RowOk wv p r W N (putH f s bs) ((cs.set (s % W * 2) (.bool true)).set (s % W * 2 + 1) v) := by
  have hW : 0 < W := by omega
  have hm : ∀ t, t % W < W := fun t => Nat.mod_lt _ hW
  have hms := hm s
  refine ⟨by simp [h.1], fun t h1 h2 => ?_⟩
  have hmt := hm t
  obtain ⟨g1, u, g2, g3⟩ := h.2 t h1 h2
  unfold putH
  by_cases e : t = s
  · subst e
    rw [if_pos rfl]
    refine ⟨?_, v, ?_, hv⟩
    · rw [List.getElem?_set_ne (by omega), List.getElem?_set_self (by rw [h.1]; omega)]; rfl
    · rw [List.getElem?_set_self (by rw [List.length_set, h.1]; omega)]
  · have hne : t % W ≠ s % W := fun h' => e (mod_inj ⟨h1, h2⟩ hs h')
    rw [if_neg e]
    refine ⟨?_, u, ?_, g3⟩
    · rw [List.getElem?_set_ne (by omega), List.getElem?_set_ne (by omega)]; exact g1
    · rw [List.getElem?_set_ne (by omega), List.getElem?_set_ne (by omega)]; exact g2
theorem RowOk.pop {wv : World} {p r W N : Nat} {f : Hld} {cs : List Value} (h : RowOk wv p r W N f cs) (hW : 0 < W) (hn : f (N + W) = none) :
    RowOk wv p r W (N + 1) (fromH f (N + 1)) ((cs.set (N % W * 2) (.bool false)).set (N % W * 2 + 1) (.slice none 0 0)) := by
  have hm : ∀ t, t % W < W := fun t => Nat.mod_lt _ hW
  have hms := hm N
  refine ⟨by simp [h.1], fun t h1 h2 => ?_⟩
  have hmt := hm t
  unfold fromH
  rw [if_neg (by omega)]
  by_cases e : t = N + W
  · subst e
    rw [Nat.add_mod_right, hn]
    refine ⟨?_, .slice none 0 0, ?_, BodyV.nil _ _ _⟩
    · rw [List.getElem?_set_ne (by omega), List.getElem?_set_self (by rw [h.1]; omega)]; rfl
    · rw [List.getElem?_set_self (by rw [List.length_set, h.1]; omega)]
  · obtain ⟨g1, u, g2, g3⟩ := h.2 t (by omega) (by omega)
    have hne : t % W ≠ N % W := fun h' => by have := mod_inj (N := N) (W := W) ⟨by omega, by omega⟩ ⟨Nat.le_refl _, by omega⟩ h'; omega
    refine ⟨?_, u, ?_, g3⟩
    · rw [List.getElem?_set_ne (by omega), List.getElem?_set_ne (by omega)]; exact g1
    · rw [List.getElem?_set_ne (by omega), List.getElem?_set_ne (by omega)]; exact g2
/-- A Taker at block p, its places at block r: a window of W, N were got, f is held. The bodies read as they did in wv. -/
structure TKv (wv w : World) (p r W N : Nat) (f : Hld) : Prop where
  W0 : 0 < W
  W16 : W ≤ 16
  ne : p ≠ r
  blk : Blk w p 110 [.int .i64 (N : Int), .slice (some ⟨r, 0, none⟩) W W]
  row : ∃ cs, Blk w r 121 cs ∧ RowOk wv p r W N f cs
  sup : ∀ s, f s ≠ none → N ≤ s ∧ s < N + W
abbrev TK (w : World) (p r W N : Nat) (f : Hld) : Prop := TKv w w p r W N f
theorem TKv.up {wv w : World} {p r W N : Nat} {f : Hld} {G : Nat → Prop} (h : TKv wv w p r W N f) (hm : Mod G wv w) (hG : ∀ k, k < wv.heap.size → G k → k = p ∨ k = r) : TK w p r W N f := by
  obtain ⟨cs, h1, h2, h3⟩ := h.row
  exact ⟨h.W0, h.W16, h.ne, h.blk, ⟨cs, h1, h2, fun s a b => by obtain ⟨g1, v, g2, g3⟩ := h3 s a b; exact ⟨g1, v, g2, g3.keep hm hG⟩⟩, h.sup⟩
theorem TKv.later {wv w w' : World} {p r W N : Nat} {f : Hld} (h : TKv wv w p r W N f) (hm : Mod (fun _ => False) w w') : TKv wv w' p r W N f := by
  obtain ⟨cs, h1, h2⟩ := h.row
  exact ⟨h.W0, h.W16, h.ne, h.blk.keep hm (fun e => e), ⟨cs, h1.keep hm (fun e => e), h2⟩, h.sup⟩
theorem TK.keep {w w' : World} {p r W N : Nat} {f : Hld} (h : TK w p r W N f) (hm : Mod (fun _ => False) w w') : TK w' p r W N f :=
  (h.later hm).up hm (fun _ _ e => e.elim)
theorem Ev.tk {w : World} {p r W N : Nat} {f : Hld} (h : TK w p r W N f) : Ev (fun W' => TK W' p r W N f) w := fun _ m => h.keep m
/-- What is got: those that stand one behind the other, from N on. -/
def runL (f : Hld) : Nat → Nat → List (List Int)
  | 0, _ => []
  | n + 1, N => match f N with
    | some b => b :: runL f n (N + 1)
    | none => []
theorem runL_step {f : Hld} {n N : Nat} {b : List Int} (h : f N = some b) : runL f (n + 1) N = b :: runL f n (N + 1) := by
  show (match f N with | some b => b :: runL f n (N + 1) | none => []) = _
  rw [h]
theorem runL_stop {f : Hld} {n N : Nat} (h : f N = none) : runL f n N = [] := by
  cases n with
  | zero => rfl
  | succ n => show (match f N with | some b => b :: runL f n (N + 1) | none => []) = _; rw [h]
theorem runL_len (f : Hld) : ∀ n N, (runL f n N).length ≤ n
  | 0, _ => Nat.le_refl _
  | n + 1, N => by
    cases h : f N with
    | none => rw [runL_stop h]; exact Nat.zero_le _
    | some b => rw [runL_step h]; have := runL_len f n (N + 1); simp; omega
/-- Rows of bytes, one behind the other. -/
def BodiesV (w : World) (p r : Nat) (gs : List (List Int)) (vs : List Value) : Prop := vs.length = gs.length ∧ ∀ i (h : i < gs.length), ∃ v, vs[i]? = some v ∧ BodyV w p r (some gs[i]) v
theorem BodiesV.nil (w : World) (p r : Nat) : BodiesV w p r [] [] := ⟨rfl, fun i h => by simp at h⟩
theorem BodiesV.snoc {w : World} {p r : Nat} {gs : List (List Int)} {vs : List Value} (h : BodiesV w p r gs vs) {b : List Int} {v : Value} (hv : BodyV w p r (some b) v) : BodiesV w p r (gs ++ [b]) (vs ++ [v]) := by
  refine ⟨by simp [h.1], fun i hi => ?_⟩
  by_cases e : i < gs.length
  · obtain ⟨u, h1, h2⟩ := h.2 i e
    exact ⟨u, by rw [List.getElem?_append_left (by rw [h.1]; exact e)]; exact h1, by rw [List.getElem_append_left e]; exact h2⟩
  · have e2 : i = gs.length := by simp at hi; omega
    subst e2
    exact ⟨v, by rw [← h.1]; simp, by simp; exact hv⟩
theorem BodiesV.keep {w w' : World} {p r : Nat} {gs : List (List Int)} {vs : List Value} {G : Nat → Prop} (h : BodiesV w p r gs vs) (hm : Mod G w w') (hG : ∀ k, k < w.heap.size → G k → k = p ∨ k = r) : BodiesV w' p r gs vs :=
  ⟨h.1, fun i hi => by obtain ⟨v, h1, h2⟩ := h.2 i hi; exact ⟨v, h1, h2.keep hm hG⟩⟩
theorem fromH_id {f : Hld} {N : Nat} (h : ∀ s, f s ≠ none → N ≤ s) : fromH f N = f := by
  funext s
  unfold fromH
  by_cases c : s < N
  · rw [if_pos c]
    by_cases e : f s = none
    · exact e.symm
    · have := h s e; omega
  · rw [if_neg c]
theorem fromH_succ (f : Hld) (N : Nat) : fromH (fromH f N) (N + 1) = fromH f (N + 1) := by
  funext s
  unfold fromH
  by_cases c : s < N + 1
  · rw [if_pos c, if_pos c]
  · rw [if_neg c, if_neg c, if_neg (by omega)]
theorem fromH_at (f : Hld) (N : Nat) : fromH f N N = f N := by unfold fromH; rw [if_neg (by omega)]
theorem fromH_sup {f : Hld} {N W M : Nat} (h : ∀ s, f s ≠ none → N ≤ s ∧ s < N + W) (hM : N ≤ M) : ∀ s, fromH f M s ≠ none → M ≤ s ∧ s < M + W := fun s hs => by
  unfold fromH at hs
  by_cases c : s < M
  · rw [if_pos c] at hs; exact absurd rfl hs
  · rw [if_neg c] at hs; have := h s hs; omega
theorem putH_sup {f : Hld} {N W s : Nat} {bs : List Int} (h : ∀ t, f t ≠ none → N ≤ t ∧ t < N + W) (hs : N ≤ s ∧ s < N + W) : ∀ t, putH f s bs t ≠ none → N ≤ t ∧ t < N + W := fun t ht => by
  unfold putH at ht
  by_cases e : t = s
  · subst e; exact hs
  · rw [if_neg e] at ht; exact h t ht
/-- What Take leaves. -/
def TakeP (p r W N : Nat) (f1 : Hld) (w : World) (e : Ending) (w' : World) : Prop :=
  ∃ a n c vs, e = .returned (.tuple #[.slice a n c, .bool true]) ∧ (runL f1 W N).length = n ∧ Rd w' 1 (.slice a n c) n vs ∧ BodiesV w' p r (runL f1 W N) vs ∧
    TK w' p r W (N + n) (fromH f1 (N + n)) ∧ Mod (fun k => k = p ∨ k = r) w w'
/-- The same, and that what is told lies in new memory. -/
def TakeQ (p r W N : Nat) (f1 : Hld) (w : World) (e : Ending) (w' : World) : Prop :=
  ∃ a n c vs, e = .returned (.tuple #[.slice a n c, .bool true]) ∧ (runL f1 W N).length = n ∧ Rd w' 1 (.slice a n c) n vs ∧ BodiesV w' p r (runL f1 W N) vs ∧
    TK w' p r W (N + n) (fromH f1 (N + n)) ∧ Mod (fun k => k = p ∨ k = r) w w' ∧ ∀ k, (Value.slice a n c).ownBlock = some k → w.heap.size ≤ k
theorem TakeQ.of {p r W N : Nat} {f1 : Hld} {w : World} {e : Ending} {w' : World} (h : TakeQ p r W N f1 w e w') : TakeP p r W N f1 w e w' := by
  obtain ⟨a, n, c, vs, h1, h2, h3, h4, h5, h6, _⟩ := h
  exact ⟨a, n, c, vs, h1, h2, h3, h4, h5, h6⟩
end Go.Proofs.Ytdahoecejnnjkaa
