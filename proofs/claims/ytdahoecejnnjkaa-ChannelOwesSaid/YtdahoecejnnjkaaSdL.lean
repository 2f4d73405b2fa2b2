/- One sender made since w0: its calls by contract, as the laws use them. -/
import Derived.Test.YtdahoecejnnjkaaSd5
import Derived.Test.YtdahoecejnnjkaaArgs
namespace Go.Proofs.Ytdahoecejnnjkaa
open Go.RowKit Mile Go.Maps
set_option maxRecDepth 100000
/-- n waits in a row, from number F on, all alike. -/
def LL (F n : Nat) (d : Int) (c : Nat) : List Wt := (List.range n).map fun i => ⟨((F + i : Nat) : Int), d, c⟩
theorem LL_len (F n : Nat) (d : Int) (c : Nat) : (LL F n d c).length = n := by unfold LL; simp
theorem LL_snoc (F n : Nat) (d : Int) (c : Nat) : LL F (n + 1) d c = LL F n d c ++ [⟨((F + n : Nat) : Int), d, c⟩] := by unfold LL; rw [List.range_succ, List.map_append]; rfl
theorem LL_cons (F n : Nat) (d : Int) (c : Nat) : LL F (n + 1) d c = ⟨(F : Int), d, c⟩ :: LL (F + 1) n d c := by
  unfold LL
  rw [List.range_succ_eq_map, List.map_cons, List.map_map]
  congr 1
  refine List.map_congr_left fun i _ => ?_
  show Wt.mk _ _ _ = Wt.mk _ _ _
  congr 1; simp; omega
theorem mem_LL {F n : Nat} {d : Int} {c : Nat} {e : Wt} (h : e ∈ LL F n d c) : ∃ i, i < n ∧ e = ⟨((F + i : Nat) : Int), d, c⟩ := by
  unfold LL at h
  obtain ⟨i, hi, rfl⟩ := List.mem_map.1 h
  exact ⟨i, by simpa using hi, rfl⟩
theorem put_last (L : List Wt) (x : Wt) (h : ∀ e ∈ L, e.id < x.id) : putW L x = L ++ [x] := by
  have h1 : stopW L x.id = L := by
    unfold stopW
    rw [List.filter_eq_self]
    intro e he
    have := h e he
    simp; omega
  have h2 : ∀ L : List Wt, (∀ e ∈ L, e.id < x.id) → insW x L = L ++ [x] := by
    intro L
    induction L with
    | nil => intro _; rfl
    | cons e Q ih =>
      intro h
      have he := h e List.mem_cons_self
      unfold insW
      rw [if_neg (by omega), ih (fun e' h' => h e' (List.mem_cons_of_mem _ h'))]
      rfl
  unfold putW
  rw [h1]; exact h2 L h
theorem LL_put (F n : Nat) (d : Int) (c : Nat) : putW (LL F n d c) ⟨((F + n : Nat) : Int), d, c⟩ = LL F (n + 1) d c := by
  rw [LL_snoc]
  exact put_last _ _ fun e he => by obtain ⟨i, hi, rfl⟩ := mem_LL he; show ((F + i : Nat) : Int) < ((F + n : Nat) : Int); omega
theorem stop_head (F n : Nat) (d : Int) (c : Nat) : stopW (LL F (n + 1) d c) (F : Int) = LL (F + 1) n d c := by
  rw [LL_cons]
  unfold stopW
  rw [List.filter_cons_of_neg (by simp), List.filter_eq_self]
  intro e he
  obtain ⟨i, hi, rfl⟩ := mem_LL he
  simp; omega
theorem LL_stop (F n : Nat) (d : Int) (c : Nat) : ∀ k, k ≤ n → stopN (LL F n d c) F k = LL (F + k) (n - k) d c
  | 0, _ => rfl
  | k + 1, h => by
    rw [stopN_succ, LL_stop F n d c k (by omega), show n - k = (n - (k + 1)) + 1 by omega]
    exact stop_head (F + k) _ d c
/-- The sender at block p, made since w0. -/
def S1 (gs : Nat → Prop) (w0 w : World) (p tp W F : Nat) (over : Bool) (B M R : Nat) (L : List Wt) (bs : List (List Int)) : Prop :=
  ∃ tb a c us, us.map (·.1) = bs ∧ SD w p tp tb W F a bs.length c over B M R L us ∧ (∀ k, sdF p tp tb a k → w0.heap.size ≤ k ∧ ¬ gs k) ∧ (∀ k, gs k → k < w.heap.size) ∧ Mod (fun _ => False) w0 w
section
variable {gs : Nat → Prop} {w0 w : World} {p tp W F B M R : Nat} {over : Bool} {L : List Wt} {bs : List (List Int)}
theorem S1.mod (h : S1 gs w0 w p tp W F over B M R L bs) : Mod (fun _ => False) w0 w := by obtain ⟨_, _, _, _, _, _, _, _, h⟩ := h; exact h
theorem S1.w16 (h : S1 gs w0 w p tp W F over B M R L bs) : W ≤ 16 ∧ bs.length ≤ W := by obtain ⟨_, _, _, _, _, h, _⟩ := h; exact ⟨h.w16, h.nW⟩
theorem S1.keep {w' : World} (h : S1 gs w0 w p tp W F over B M R L bs) (hm : Mod (fun _ => False) w w') : S1 gs w0 w' p tp W F over B M R L bs := by
  obtain ⟨tb, a, c, us, h1, h2, h3, h5, h4⟩ := h
  exact ⟨tb, a, c, us, h1, h2.later hm, h3, fun k hk => Nat.lt_of_lt_of_le (h5 k hk) hm.size, h4.of2 hm⟩
/-- Blocks to be left alone from here on. -/
theorem S1.guard {w' : World} (h : S1 gs w0 w p tp W F over B M R L bs) (hm : Mod (fun _ => False) w w') (gs' : Nat → Prop) (hg : ∀ k, gs' k → w.heap.size ≤ k ∧ k < w'.heap.size) : S1 gs' w0 w' p tp W F over B M R L bs := by
  obtain ⟨tb, a, c, us, h1, h2, h3, h5, h4⟩ := h
  exact ⟨tb, a, c, us, h1, h2.later hm, fun k hk => ⟨(h3 k hk).1, fun g => by have h6 := h2.lt k hk; have h7 := (hg k g).1; omega⟩, fun k hk => (hg k hk).2, h4.of2 hm⟩
/-- The Timer in it. -/
theorem S1.ptr (h : S1 gs w0 w p tp W F over B M R L bs) : w.cell? ⟨p, 0, none⟩ = some (.pointer (some ⟨tp, 0, none⟩)) := by
  obtain ⟨_, _, _, _, _, h, _⟩ := h; exact h.blk.cell 0 rfl
theorem s1_made {w2 : World} (h : SD w2 p tp none W 0 none 0 0 false B M R [] []) (hp : w0.heap.size ≤ p) (ht : w0.heap.size ≤ tp) (hm1 : Mod (fun _ => False) w0 w2) : S1 (fun _ => False) w0 w2 p tp W 0 false B M R [] [] :=
  ⟨none, none, 0, [], rfl, h, fun k hk => ⟨(by
    rcases hk with e | (e | e) | e
    · omega
    · omega
    · cases e
    · cases e), fun e => e⟩, fun _ e => e.elim, hm1⟩
theorem S1.turned {w' : World} {tb tb' : Option Nat} {a a' : Option Addr} {c' F' : Nat} {over' : Bool} {L' : List Wt} {us' : UdL} {n' : Nat} (h3 : ∀ k, sdF p tp tb a k → w0.heap.size ≤ k ∧ ¬ gs k) (h5 : ∀ k, gs k → k < w.heap.size) (h4 : Mod (fun _ => False) w0 w)
    (hs : SD w' p tp tb' W F' a' n' c' over' B M R L' us') (hg : ∀ k, sdF p tp tb' a' k → sdF p tp tb a k ∨ w.heap.size ≤ k) (hm : Mod (sdF p tp tb a) w w') : S1 gs w0 w' p tp W F' over' B M R L' (us'.map (·.1)) :=
  ⟨tb', a', c', us', rfl, by rw [List.length_map, hs.len]; exact hs, fun k hk => (hg k hk).elim (h3 k) (fun e => ⟨by have := h4.size; omega, fun g => by have := h5 k g; omega⟩), fun k hk => Nat.lt_of_lt_of_le (h5 k hk) hm.size, h4.old hm (fun k hk => (h3 k hk).1)⟩
/-- Send of a literal: W is the world behind it. -/
theorem s1_send {V : World} (h : S1 gs w0 w p tp W F false B M R L bs) (hV : Mod (fun _ => False) w V) (hn : bs.length < W) (hF : F ≤ 1000000000000) (hL : L.length ≤ 1000000) (now : Int) (hnow : 0 ≤ now ∧ now ≤ 1048576) (xs : List Int) (n : Nat) (hxn : xs.length = n) (bv : Value) (hrd : Rd V 1 bv n (xs.map (Value.int .u8))) (hxl : n ≤ 1000) (s : Int) (hs : s = ((F + bs.length : Nat) : Int)) :
    Calls Try.prog 49 #[.pointer (some ⟨p, 0, none⟩), .int .i64 now, bv] V fun e w' => e = .returned (.tuple #[.int .i64 s, .int .i64 0]) ∧ (∀ w2, (Mod (fun k => w.heap.size ≤ k ∧ k < V.heap.size) w' w2) → S1 gs w0 w2 p tp W F false B M R (putW L ⟨s, now + (B : Int), 0⟩) (bs ++ [xs])) ∧ Mod (fun k => k < w.heap.size ∧ ¬ gs k) V w' := by
  subst hxn hs
  obtain ⟨tb, a, c, us, h1, h2, h3, h5, h4⟩ := h
  refine (sdsend_any (h2.later hV) hn hF (by omega) now (by omega) xs bv hrd (by omega)).mono ?_
  rintro e w' ⟨he, v, ⟨tb', a', c', hs, hg, hm⟩, hv⟩
  refine ⟨he, fun w2 hm2 => ?_, hm.mono (fun i _ e => ⟨h2.lt i e, (h3 i e).2⟩)⟩
  have hz := hV.size
  have hlt : ∀ k, sdF p tp tb' a' k → k < w.heap.size ∨ V.heap.size ≤ k := fun k hk => (hg k hk).imp (h2.lt k) id
  have hbl : ∀ u ∈ us ++ [(xs, v)], ∀ k, u.2.ownBlock = some k → ¬ (w.heap.size ≤ k ∧ k < V.heap.size) := fun u hu k hk e => by
    rcases List.mem_append.1 hu with hu | hu
    · obtain ⟨a1, n1, c1, e1, _, ho⟩ := h2.bodies u hu
      rw [e1] at hk ho
      have := Own.lt ho hk; omega
    · rw [List.mem_singleton] at hu
      subst hu
      have := hv k hk; omega
  have hsd : SD w2 p tp tb' W F a' (bs.length + 1) c' false B M R (putW L ⟨((F + bs.length : Nat) : Int), now + (B : Int), 0⟩) (us ++ [(xs, v)]) :=
    ⟨hs.w1, hs.w16, hs.len, hs.nW, hs.blk.keep hm2 (fun e => by have := hlt p (.inl rfl); omega), hs.tm.keep hm2 (fun k hk e => by have := hlt k (.inr (.inl hk)); omega), Own.keep hs.own hm2 (fun k hk e => by have := hlt k (.inr (.inr (by rw [← hk]; exact own_slice a' 0 0 _ c'))); omega), fun u hu => by
      obtain ⟨a1, n1, c1, e1, hn1, ho⟩ := hs.bodies u hu
      exact ⟨a1, n1, c1, e1, hn1, Own.keep ho hm2 (fun k hk => hbl u hu k hk)⟩, hs.ptp, hs.row⟩
  refine ⟨tb', a', c', us ++ [(xs, v)], by rw [List.map_append, h1]; rfl, by rw [List.length_append]; exact hsd, fun k hk => ?_, fun k hk => by have h6 := h5 k hk; have h7 := hm.size; have h8 := hm2.size; omega, ((h4.of2 hV).old hm (fun k hk => (h3 k hk).1)).old hm2 (fun i hi => by have := h4.size; omega)⟩
  rcases hg k hk with e | e
  · exact h3 k e
  · exact ⟨by have := h4.size; omega, fun g => by have := h5 k g; omega⟩
theorem s1_full {V : World} (h : S1 gs w0 w p tp W F false B M R L bs) (hV : Mod (fun _ => False) w V) (hn : bs.length = W) (now : Int) (v : Value) : Calls Try.prog 49 #[.pointer (some ⟨p, 0, none⟩), .int .i64 now, v] V fun e w' => e = .returned (.tuple #[.int .i64 0, .int .i64 5]) ∧ (∀ w2, (Mod (fun k => w.heap.size ≤ k ∧ k < V.heap.size) w' w2) → S1 gs w0 w2 p tp W F false B M R L bs) ∧ Mod (fun _ => False) V w' := by
  obtain ⟨tb, a, c, us, h1, h2, h3, h5, h4⟩ := h
  refine (sdsend_full (h2.later hV) hn now v).mono ?_
  rintro e w' ⟨he, hm⟩
  refine ⟨he, fun w2 hm2 => ?_, hm⟩
  have hz := hV.size
  have hm3 : Mod (fun k => w.heap.size ≤ k) w w2 := (hV.of2 hm).trans hm2 (fun _ _ e => e.elim) (fun _ _ e => e.1)
  have hm4 : Mod (fun _ => False) w w2 := hm3.mono (fun i hi e => by omega)
  exact ⟨tb, a, c, us, h1, h2.later hm4, h3, fun k hk => Nat.lt_of_lt_of_le (h5 k hk) hm4.size, h4.of2 hm4⟩
theorem s1_over {V : World} (h : S1 gs w0 w p tp W F true B M R L bs) (hV : Mod (fun _ => False) w V) (now : Int) (v : Value) : Calls Try.prog 49 #[.pointer (some ⟨p, 0, none⟩), .int .i64 now, v] V fun e w' => e = .returned (.tuple #[.int .i64 0, .int .i64 6]) ∧ V = w' := by
  obtain ⟨tb, a, c, us, h1, h2, h3, h5, h4⟩ := h
  exact sdsend_over (h2.later hV) now v
theorem s1_acked (h : S1 gs w0 w p tp W F over B M R L bs) (hF : F ≤ 1000000000000) (k : Nat) (h0 : 0 < k) (hk : k ≤ bs.length) (q : Int) (hq : q = ((F + k : Nat) : Int)) : Calls Try.prog 38 #[.pointer (some ⟨p, 0, none⟩), .int .i64 q] w fun e w' => e = .returned (.int .i64 (k : Int)) ∧ S1 gs w0 w' p tp W (F + k) over B M R (stopN L F k) (bs.drop k) ∧ Mod (fun k => ¬ gs k) w w' := by
  obtain ⟨tb, a, c, us, h1, h2, h3, h5, h4⟩ := h
  refine (sdacked_any h2 hF k h0 hk q hq).mono ?_
  rintro e w' ⟨he, tb', a', c', hs, hg, hm⟩
  refine ⟨he, ?_, hm.mono (fun i _ e => (h3 i e).2)⟩
  have := S1.turned h3 h5 h4 hs hg hm
  rwa [List.map_drop, h1] at this
theorem s1_acked_no (h : S1 gs w0 w p tp W F over B M R L bs) (hF : F ≤ 1000000000000) (q : Int) (hq : q ≤ (F : Int) ∨ ((F + bs.length : Nat) : Int) < q) : Calls Try.prog 38 #[.pointer (some ⟨p, 0, none⟩), .int .i64 q] w fun e w' => e = .returned (.int .i64 0) ∧ S1 gs w0 w' p tp W F over B M R L bs := by
  have hh := h
  obtain ⟨tb, a, c, us, h1, h2, h3, h5, h4⟩ := h
  refine (sdacked_no h2 hF q hq).mono ?_
  rintro e w' ⟨he, hm⟩
  exact ⟨he, hh.keep hm⟩
theorem s1_room (h : S1 gs w0 w p tp W F over B M R L bs) (r : Int) (hr : (if over then 0 else ((W - bs.length : Nat) : Int)) = r) : Calls Try.prog 23 #[.pointer (some ⟨p, 0, none⟩)] w fun e w' => e = .returned (.int .i64 r) ∧ S1 gs w0 w' p tp W F over B M R L bs ∧ Mod (fun _ => False) w w' := by
  have hh := h
  obtain ⟨tb, a, c, us, h1, h2, h3, h5, h4⟩ := h
  refine (sdroom_any h2).mono ?_
  rintro e w' ⟨he, hm⟩
  exact ⟨by rw [he, hr], hh.keep hm, hm⟩
theorem s1_seq (h : S1 gs w0 w p tp W F over B M R L bs) (hF : F ≤ 1000000000000) (r : Int) (hr : ((F + bs.length : Nat) : Int) = r) : Calls Try.prog 52 #[.pointer (some ⟨p, 0, none⟩)] w fun e w' => e = .returned (.int .i64 r) ∧ S1 gs w0 w' p tp W F over B M R L bs ∧ Mod (fun _ => False) w w' := by
  have hh := h
  obtain ⟨tb, a, c, us, h1, h2, h3, h5, h4⟩ := h
  refine (sdseq_any h2 hF).mono ?_
  rintro e w' ⟨he, hm⟩
  exact ⟨by rw [he, hr], hh.keep hm, hm⟩
theorem s1_body_no (h : S1 gs w0 w p tp W F over B M R L bs) (hF : F ≤ 1000000000000) (q : Int) (hq : q < (F : Int) ∨ ((F + bs.length : Nat) : Int) ≤ q) : Calls Try.prog 57 #[.pointer (some ⟨p, 0, none⟩), .int .i64 q] w fun e w' => e = .returned (.tuple #[.slice none 0 0, .bool false]) ∧ S1 gs w0 w' p tp W F over B M R L bs ∧ Mod (fun _ => False) w w' := by
  have hh := h
  obtain ⟨tb, a, c, us, h1, h2, h3, h5, h4⟩ := h
  refine (sdbody_no h2 hF q hq).mono ?_
  rintro e w' ⟨he, hm⟩
  exact ⟨he, hh.keep hm, hm⟩
theorem s1_body_at (h : S1 gs w0 w p tp W F over B M R L bs) (hF : F ≤ 1000000000000) (k : Nat) (xs : List Int) (hx : bs[k]? = some xs) (hbd : xs.length ≤ 1000) (q : Int) (hq : q = (F : Int) + (k : Int)) : Calls Try.prog 57 #[.pointer (some ⟨p, 0, none⟩), .int .i64 q] w fun e w' => ∃ a' c', e = .returned (.tuple #[.slice a' xs.length c', .bool true]) ∧ Rd w' 1 (.slice a' xs.length c') xs.length (xs.map (Value.int .u8)) ∧ (∀ k, (Value.slice a' xs.length c').ownBlock = some k → w.heap.size ≤ k ∧ k < w'.heap.size) ∧ S1 gs w0 w' p tp W F over B M R L bs ∧ Mod (fun _ => False) w w' := by
  have hh := h
  obtain ⟨tb, a, c, us, h1, h2, h3, h5, h4⟩ := h
  subst h1
  rw [List.getElem?_map] at hx
  obtain ⟨u, hu, hux⟩ := Option.map_eq_some_iff.1 hx
  obtain ⟨hk, huk⟩ := List.getElem?_eq_some_iff.1 hu
  have hux2 : (us[k]).1 = xs := by rw [huk]; exact hux
  refine (sdbody_at h2 hF k hk (by rw [hux2]; omega) q hq).mono ?_
  rintro e w' ⟨v, he, hf, ⟨a', c', hv⟩, hm⟩
  rw [hux2] at hv
  subst hv
  exact ⟨a', c', he, by rw [← hux2]; rw [← hux2] at hf; exact Rd.ofOwn hf, fun k hk => World.ownsRow.lt hf k hk, hh.keep hm, hm⟩
theorem s1_again (h : S1 gs w0 w p tp W F false B M R L bs) (hL : L.length ≤ 1000000) (now : Int) (hnow : 0 ≤ now ∧ now ≤ 1048576) (A O : List Int) (L' : List Wt) (hA : againE R (dueE L now) = A) (hO : overE R (dueE L now) = O) (hL' : L.filterMap (dueW B M R now) = L') :
    Calls Try.prog 43 #[.pointer (some ⟨p, 0, none⟩), .int .i64 now] w fun e w' =>
      (if O = [] then (∃ a1 c1, e = .returned (.tuple #[.slice a1 A.length c1, .int .i64 0]) ∧ Rd w' 1 (.slice a1 A.length c1) A.length (A.map (Value.int .i64))) else e = .returned (.tuple #[.slice none 0 0, .int .i64 6])) ∧ S1 gs w0 w' p tp W F (decide (O ≠ [])) B M R L' bs ∧ Mod (fun k => ¬ gs k) w w' := by
  obtain ⟨tb, a, c, us, h1, h2, h3, h5, h4⟩ := h
  refine (sdagain_any h2 hL now (by omega)).mono ?_
  rintro e w' ⟨he, tb', a', c', hs, hg, hm⟩
  rw [hO, hA] at he
  rw [hO, hL'] at hs
  have := S1.turned h3 h5 h4 hs hg hm
  rw [h1] at this
  refine ⟨?_, this, hm.mono (fun i _ e => (h3 i e).2)⟩
  by_cases ho : O = []
  · rw [if_pos ho] at he ⊢
    obtain ⟨a1, c1, he, hr⟩ := he
    exact ⟨a1, c1, he, Rd.ofOwn hr⟩
  · rw [if_neg ho] at he ⊢
    exact he
end
end Go.Proofs.Ytdahoecejnnjkaa
