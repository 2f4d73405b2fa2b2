/- The code's sender and the reference's, side by side. -/
import Derived.Test.YtopldodfkcgmhaaRSd1
import Derived.Test.YtopldodfkcgmhaaRSd3
import Derived.Test.YtopldodfkcgmhaaSdL
namespace Go.Proofs.Ytopldodfkcgmhaa
open Go.RowKit Mile Go.Maps
set_option maxRecDepth 100000
section
variable {w : World} {p tp : Nat} {tb : Option Nat} {W F : Nat} {a : Option Addr} {n c : Nat} {over : Bool} {B M R : Nat} {L : List Wt} {us : UdL}
theorem sdseq_q (h : SD w p tp tb W F a n c over B M R L us) (hF : F ≤ 1000000000000) : Calls Try.prog 24 #[.pointer (some ⟨p, 0, none⟩)] w fun e w' => e = .returned (.int .i64 ((F + n : Nat) : Int)) ∧ ∃ k, w' = w.drewN k := by
  have c2 := h.blk.cell 2 rfl
  have c3 := h.blk.cell 3 rfl
  have hn := h.nW
  have hw := h.w16
  have hca : ((F + n : Nat) : Int) = (F : Int) + (n : Int) := by omega
  have HCA := Lib.hid hca
  clear h hca
  go_enter Try.func24, Try.ntmps24
  go_wp2_with fail
  go_quiet (fail)
  go_wp2_with fail
  go_ret
  exact ⟨by rw [HCA.out]; rfl, _, rfl⟩
theorem sdroom_q (h : SD w p tp tb W F a n c over B M R L us) : Calls Try.prog 22 #[.pointer (some ⟨p, 0, none⟩)] w fun e w' => e = .returned (.int .i64 (if over then 0 else ((W - n : Nat) : Int))) ∧ ∃ k, w' = w.drewN k := by
  have c1 := h.blk.cell 1 rfl
  have c3 := h.blk.cell 3 rfl
  have hn := h.nW
  have hw := h.w16
  have hca : ((W - n : Nat) : Int) = (W : Int) - (n : Int) := by omega
  have HCA := Lib.hid hca
  have hov := sdover_any h
  have HOV := Lib.hid hov
  clear h hca hov
  go_enter Try.func22, Try.ntmps22
  go_wp2_with fail
  refine HOV.out.mono ?_
  rintro e w' ⟨rfl, rfl⟩
  cases over with
  | true =>
    go_wp2_with fail
    go_ret
    exact ⟨rfl, 0, rfl⟩
  | false =>
    go_wp2_with fail
    go_quiet (fail)
    go_wp2_with fail
    go_ret
    exact ⟨by rw [HCA.out]; rfl, _, rfl⟩
end
abbrev GsS := List (Nat × TypeId × List Value)
def gsB (gs : GsS) : Nat → Prop := fun k => ∃ x ∈ gs, x.1 = k
/-- A call of the other side's. -/
theorem S1.other {gs gs' : Nat → Prop} {w0 w w' : World} {p tp W F B M R : Nat} {over : Bool} {L : List Wt} {bs : List (List Int)} {G : Nat → Prop} (h : S1 gs w0 w p tp W F over B M R L bs) (hm : Mod G w w') (hG : ∀ k, G k → gs k) (hT : ∀ k, k < w.heap.size → G k → NoT w k) (hgs : ∀ k, gs' k → (gs k ∨ w.heap.size ≤ k) ∧ k < w'.heap.size) (hw0 : ∀ k, G k → w0.heap.size ≤ k) : S1 gs' w0 w' p tp W F over B M R L bs := by
  obtain ⟨tb, a, c, us, h1, h2, h3, h5, h4⟩ := h
  exact ⟨tb, a, c, us, h1, h2.keep hm (fun k hk g => (h3 k hk).2 (hG k g)) hT, fun k hk => ⟨(h3 k hk).1, fun g => (hgs k g).1.elim (h3 k hk).2 (fun e => by have := h2.lt k hk; omega)⟩, fun k hk => (hgs k hk).2, h4.old hm hw0⟩
theorem S1.good {gs : Nat → Prop} {w0 w : World} {p tp W F B M R : Nat} {over : Bool} {L : List Wt} {bs : List (List Int)} (h : S1 gs w0 w p tp W F over B M R L bs) : RiseW L ∧ ∀ e ∈ L, e.n ≤ R := by
  obtain ⟨tb, a, c, us, h1, h2, h3, h5, h4⟩ := h
  exact ⟨h2.tm.rise, fun e he => (h2.tm.ids e he).2⟩
/-- What one side stands for. -/
structure SdS where
  F : Nat
  o : Bool
  L : List Wt
  bs : List (List Int)
/-- Both senders at a world w, made since w0: the code's stands for x, the reference's for y; gs: blocks apart from both. -/
def SSt (gs : GsS) (w0 w : World) (p tp q tq W B M R : Nat) (x y : SdS) : Prop :=
  ∃ a n c ta tn tc us, us.map (·.body) = y.bs ∧ RS w q tq W y.F a n c y.o ta tn tc B M R y.L us ∧ S1 (fun k => rsB q tq a n ta tn us k ∨ gsB gs k) w0 w p tp W x.F x.o B M R x.L x.bs ∧ w0.heap.size ≤ q ∧ w0.heap.size ≤ tq ∧ ∀ z ∈ gs, Blk w z.1 z.2.1 z.2.2 ∧ z.1 ≠ q ∧ z.1 ≠ tq
section
variable {gs : GsS} {w0 w : World} {p tp q tq W B M R : Nat} {x y : SdS}
theorem SSt.mod (h : SSt gs w0 w p tp q tq W B M R x y) : Mod (fun _ => False) w0 w := by
  obtain ⟨_, _, _, _, _, _, _, _, _, h, _⟩ := h; exact h.mod
theorem SSt.good (h : SSt gs w0 w p tp q tq W B M R x y) : RiseW x.L ∧ ∀ e ∈ x.L, e.n ≤ R := by
  obtain ⟨_, _, _, _, _, _, _, _, _, h, _⟩ := h; exact h.good
theorem SSt.w16 (h : SSt gs w0 w p tp q tq W B M R x y) : W ≤ 16 ∧ x.bs.length ≤ W := by
  obtain ⟨_, _, _, _, _, _, _, _, _, h, _⟩ := h; exact h.w16
theorem SSt.keep {w' : World} (h : SSt gs w0 w p tp q tq W B M R x y) (hm : Mod (fun _ => False) w w') : SSt gs w0 w' p tp q tq W B M R x y := by
  obtain ⟨a, n, c, ta, tn, tc, us, h1, h2, h3, h4, h5, h6⟩ := h
  exact ⟨a, n, c, ta, tn, tc, us, h1, h2.later hm, h3.keep hm, h4, h5, fun z hz => ⟨(h6 z hz).1.keep hm (fun e => e), (h6 z hz).2⟩⟩
theorem SSt.one {w' : World} {x' : SdS} {a : Option Addr} {n c : Nat} {ta : Option Addr} {tn tc : Nat} {us : List Ud} (h1 : us.map (·.body) = y.bs) (h2 : RS w q tq W y.F a n c y.o ta tn tc B M R y.L us) (h4 : w0.heap.size ≤ q) (h5 : w0.heap.size ≤ tq) (h6 : ∀ z ∈ gs, Blk w z.1 z.2.1 z.2.2 ∧ z.1 ≠ q ∧ z.1 ≠ tq)
    (hs : S1 (fun k => rsB q tq a n ta tn us k ∨ gsB gs k) w0 w' p tp W x'.F x'.o B M R x'.L x'.bs) {G : Nat → Prop} (hm : Mod G w w') (hG : ∀ k, G k → ¬ (rsB q tq a n ta tn us k ∨ gsB gs k)) : SSt gs w0 w' p tp q tq W B M R x' y :=
  ⟨a, n, c, ta, tn, tc, us, h1, h2.keep hm (fun k hk g => hG k g (.inl hk)), hs, h4, h5, fun z hz => ⟨(h6 z hz).1.keep hm (fun g => hG _ g (.inr ⟨z, hz, rfl⟩)), (h6 z hz).2⟩⟩
theorem SSt.two {w' : World} {F' n' : Nat} {o' : Bool} {L' : List Wt} {bs' : List (List Int)} {a : Option Addr} {n c : Nat} {ta : Option Addr} {tn tc : Nat} {us : List Ud} {F0 : Nat} {o0 : Bool} {L0 : List Wt} (h2 : RS w q tq W F0 a n c o0 ta tn tc B M R L0 us) (h3 : S1 (fun k => rsB q tq a n ta tn us k ∨ gsB gs k) w0 w p tp W x.F x.o B M R x.L x.bs) (h4 : w0.heap.size ≤ q) (h5 : w0.heap.size ≤ tq) (h6 : ∀ z ∈ gs, Blk w z.1 z.2.1 z.2.2 ∧ z.1 ≠ q ∧ z.1 ≠ tq)
    (hr : RsQ q tq a n ta tn us W F' n' o' B M R L' bs' w w') : SSt gs w0 w' p tp q tq W B M R x ⟨F', o', L', bs'⟩ := by
  obtain ⟨a', c', ta', tn', tc', us', g1, g2, g3, g4⟩ := hr
  refine ⟨a', n', c', ta', tn', tc', us', g1, g2, h3.other g4 (fun k e => .inl (e.elim .inl (fun e => .inr (.inl e)))) (fun k hk e => ?_) (fun k hk => ?_) (fun k e => by rcases e with rfl | rfl <;> assumption), h4, h5, fun z hz => ⟨(h6 z hz).1.keep g4 (fun e => e.elim (h6 z hz).2.1 (h6 z hz).2.2), (h6 z hz).2⟩⟩
  · rcases e with rfl | rfl
    · exact NoT.blk h2.blk (by decide)
    · exact NoT.blk h2.tm.blk (by decide)
  · rcases hk with e | e
    · exact ⟨(g3 k e).imp .inl id, g2.lt k e⟩
    · obtain ⟨z, hz, rfl⟩ := e
      exact ⟨.inl (.inr ⟨z, hz, rfl⟩), Nat.lt_of_lt_of_le (h6 z hz).1.lt g4.size⟩
theorem SSt.box (h : SSt [] w0 w p tp q tq W B M R x y) (T : TypeId) (cs : List Value) : SSt [(w.heap.size, T, cs)] w0 (w.alloc (.cells cs.toArray T)) p tp q tq W B M R x y := by
  obtain ⟨a, n, c, ta, tn, tc, us, h1, h2, h3, h4, h5, h6⟩ := h
  have ha : Mod (fun _ => False) w (w.alloc (.cells cs.toArray T)) := Mod.alloc _ _ _
  have hz : w.heap.size < (w.alloc (.cells cs.toArray T)).heap.size := by simp
  refine ⟨a, n, c, ta, tn, tc, us, h1, h2.later ha, h3.other ha (fun _ e => e.elim) (fun _ _ e => e.elim) (fun k hk => ?_) (fun _ e => e.elim), h4, h5, fun z hz => ?_⟩
  · rcases hk with e | ⟨z, hz, rfl⟩
    · exact ⟨.inl (.inl e), Nat.lt_trans (h2.lt k e) hz⟩
    · simp at hz
      subst hz
      exact ⟨.inr (Nat.le_refl _), by simp⟩
  · simp at hz
    subst hz
    exact ⟨Blk.new w T cs, fun e => by have := h2.blk.lt; simp at e; omega, fun e => by have := h2.tm.blk.lt; simp at e; omega⟩
theorem SSt.rest (h : SSt gs w0 w p tp q tq W B M R x y) : SSt [] w0 w p tp q tq W B M R x y := by
  obtain ⟨a, n, c, ta, tn, tc, us, h1, h2, h3, h4, h5, h6⟩ := h
  refine ⟨a, n, c, ta, tn, tc, us, h1, h2, ?_, h4, h5, fun z hz => by simp at hz⟩
  obtain ⟨tb, a1, c1, us1, g1, g2, g3, g5, g4⟩ := h3
  exact ⟨tb, a1, c1, us1, g1, g2, fun k hk => ⟨(g3 k hk).1, fun e => (g3 k hk).2 (e.elim .inl (fun ⟨z, hz, _⟩ => by simp at hz))⟩, fun k hk => g5 k (hk.elim .inl (fun ⟨z, hz, _⟩ => by simp at hz)), g4⟩
theorem SSt.guest {g : Nat} {T : TypeId} {cs : List Value} (h : SSt [(g, T, cs)] w0 w p tp q tq W B M R x y) : Blk w g T cs := by
  obtain ⟨a, n, c, ta, tn, tc, us, h1, h2, h3, h4, h5, h6⟩ := h
  exact (h6 (g, T, cs) (by simp)).1
/-- The reference's next number. -/
theorem SSt.cell2 (h : SSt gs w0 w p tp q tq W B M R x y) : w.cell? ⟨q, 2, none⟩ = some (.int .i64 ((y.F + y.bs.length : Nat) : Int)) := by
  obtain ⟨a, n, c, ta, tn, tc, us, h1, h2, h3, h4, h5, h6⟩ := h
  rw [show y.bs.length = n by rw [← h1, List.length_map]; exact h2.len]
  exact h2.blk.cell 2 rfl
theorem sst_made {w2 w3 w4 : World} (h1 : SD w2 p tp none W 0 none 0 0 false B M R [] []) (hp : w0.heap.size ≤ p) (ht : w0.heap.size ≤ tp) (hm1 : Mod (fun _ => False) w0 w2) (hm2 : Mod (fun _ => False) w2 w3) (htq : w2.heap.size ≤ tq) (hm3 : Mod (fun _ => False) w3 w4) (h2 : RS w4 q tq W 0 none 0 0 false none 0 0 B M R [] []) (hq : w3.heap.size ≤ q) : SSt [] w0 w4 p tp q tq W B M R ⟨0, false, [], []⟩ ⟨0, false, [], []⟩ := by
  have hz1 := hm1.size
  have hz2 := hm2.size
  have h3 := (s1_made h1 hp ht hm1).other (gs' := fun k => rsB q tq none 0 none 0 [] k ∨ gsB [] k) (hm2.of2 hm3) (fun _ e => e.elim) (fun _ _ e => e.elim) (fun k hk => by
    rcases hk with e | ⟨z, hz, _⟩
    · refine ⟨.inr ?_, h2.lt k e⟩
      rcases e with rfl | rfl | ⟨_, e⟩ | ⟨_, e⟩ | ⟨u, hu, _⟩
      · omega
      · omega
      · exact absurd rfl e
      · exact absurd rfl e
      · simp at hu
    · simp at hz) (fun _ e => e.elim)
  exact ⟨none, 0, 0, none, 0, 0, [], rfl, h2, h3, by omega, by omega, fun z hz => by simp at hz⟩
/-- What Send tells, and leaves. -/
def SendR (W B : Nat) (x : SdS) (now : Int) (b : List Int) (r e2 : Int) (x' : SdS) : Prop :=
  (x.o = true ∧ r = 0 ∧ e2 = 6 ∧ x' = x) ∨ (x.o = false ∧ x.bs.length = W ∧ r = 0 ∧ e2 = 5 ∧ x' = x) ∨ (x.o = false ∧ x.bs.length < W ∧ r = ((x.F + x.bs.length : Nat) : Int) ∧ e2 = 0 ∧ x' = ⟨x.F, false, putW x.L ⟨((x.F + x.bs.length : Nat) : Int), now + (B : Int), 0⟩, x.bs ++ [b]⟩)
theorem sendR_some {W B : Nat} {x : SdS} (h : x.bs.length ≤ W) (now : Int) (b : List Int) : ∃ r e2 x', SendR W B x now b r e2 x' := by
  by_cases h1 : x.o = true
  · exact ⟨_, _, _, .inl ⟨h1, rfl, rfl, rfl⟩⟩
  · have h1' : x.o = false := by simpa using h1
    by_cases h2 : x.bs.length = W
    · exact ⟨_, _, _, .inr (.inl ⟨h1', h2, rfl, rfl, rfl⟩)⟩
    · exact ⟨_, _, _, .inr (.inr ⟨h1', by omega, rfl, rfl, rfl⟩)⟩
theorem sst_send1 (h : SSt gs w0 w p tp q tq W B M R x y) (hx : x.F ≤ 1000000 ∧ x.L.length ≤ 1000) (now : Int) (hnow : 0 ≤ now ∧ now ≤ 1048576) (a1 : Option Addr) (n1 c1 : Nat) (b : List Int) (hbn : b.length = n1) (hrb : Rd w 1 (.slice a1 n1 c1) n1 (b.map (Value.int .u8))) (hb1 : n1 ≤ 30) (r e2 : Int) (x' : SdS) (hr : SendR W B x now b r e2 x') :
    Calls Try.prog 13 #[.pointer (some ⟨p, 0, none⟩), .int .i64 now, .slice a1 n1 c1] w fun e w' => e = .returned (.tuple #[.int .i64 r, .int .i64 e2]) ∧ SSt gs w0 w' p tp q tq W B M R x' y := by
  have hh := h
  obtain ⟨a, n, c, ta, tn, tc, us, h1, h2, h3, h4, h5, h6⟩ := h
  obtain ⟨F, o, L, bs⟩ := x
  rcases hr with ⟨ho, rfl, rfl, rfl⟩ | ⟨ho, hl, rfl, rfl, rfl⟩ | ⟨ho, hl, rfl, rfl, rfl⟩
  · simp at ho; subst ho
    refine (s1_over h3 (Mod.refl _ _) now _).mono ?_
    rintro e w' ⟨he, rfl⟩
    exact ⟨he, hh⟩
  · simp at ho; subst ho
    refine (s1_full h3 (Mod.refl _ _) hl now _).mono ?_
    rintro e w' ⟨he, hk, hm⟩
    exact ⟨he, SSt.one h1 h2 h4 h5 h6 (x' := ⟨F, false, L, bs⟩) (hk w' (Mod.refl _ _)) hm (fun _ e => e.elim)⟩
  · simp at ho; subst ho
    refine (s1_send h3 (Mod.refl _ _) hl (by have := hx.1; simp at this; omega) (by have := hx.2; simp at this; omega) now hnow b n1 hbn _ hrb (by omega) _ rfl).mono ?_
    rintro e w' ⟨he, hk, hm⟩
    exact ⟨he, SSt.one h1 h2 h4 h5 h6 (x' := ⟨F, false, _, bs ++ [b]⟩) (hk w' (Mod.refl _ _)) hm (fun _ e => e.2)⟩
theorem sst_send2 (h : SSt gs w0 w p tp q tq W B M R x y) (hy : y.F ≤ 1000000 ∧ y.L.length ≤ 1000) (hrise : RiseW y.L) (now : Int) (hnow : 0 ≤ now ∧ now ≤ 1048576) (a1 : Option Addr) (n1 c1 : Nat) (b : List Int) (hbn : b.length = n1) (hrb : Rd w 1 (.slice a1 n1 c1) n1 (b.map (Value.int .u8))) (hb1 : n1 ≤ 30) (r e2 : Int) (y' : SdS) (hr : SendR W B y now b r e2 y') :
    Calls Try.prog 14 #[.pointer (some ⟨q, 0, none⟩), .int .i64 now, .slice a1 n1 c1] w fun e w' => e = .returned (.tuple #[.int .i64 r, .int .i64 e2]) ∧ SSt gs w0 w' p tp q tq W B M R x y' := by
  have hh := h
  obtain ⟨a, n, c, ta, tn, tc, us, h1, h2, h3, h4, h5, h6⟩ := h
  obtain ⟨F, o, L, bs⟩ := y
  have hn : bs.length = n := by have h9 : us.map (·.body) = bs := h1; rw [← h9, List.length_map]; exact h2.len
  rcases hr with ⟨ho, rfl, rfl, rfl⟩ | ⟨ho, hl, rfl, rfl, rfl⟩ | ⟨ho, hl, rfl, rfl, rfl⟩
  · simp at ho; subst ho
    refine (rssend_over h2 now _).mono ?_
    rintro e w' ⟨he, rfl⟩
    exact ⟨he, hh⟩
  · simp at ho; subst ho
    refine (rssend_full h2 (by simp at hl; omega) now _).mono ?_
    rintro e w' ⟨he, hm⟩
    exact ⟨he, hh.keep hm⟩
  · simp at ho; subst ho
    refine (rssend_any w q tq W F a n c ta tn tc B M R L us h2 (by simp at hl; omega) (by have := hy.1; simp at this; omega) (by have := hy.2; simp at this; omega) hrise now hnow a1 n1 c1 b hbn hrb (by omega)).mono ?_
    rintro e w' ⟨he, hq⟩
    replace h1 : us.map (·.body) = bs := h1
    rw [h1] at hq
    rw [show n = bs.length from hn.symm] at he hq
    rw [show bs.length = n from hn] at hq
    refine ⟨he, ?_⟩
    have := SSt.two h2 h3 h4 h5 h6 hq
    rw [← hn] at this
    exact this
/-- What Acked tells, and leaves. -/
def AckR (x : SdS) (av : Int) (K : Nat) : Prop := K ≤ x.bs.length ∧ ((0 < K ∧ av = ((x.F + K : Nat) : Int)) ∨ (K = 0 ∧ (av ≤ (x.F : Int) ∨ ((x.F + x.bs.length : Nat) : Int) < av)))
def ackS (x : SdS) (K : Nat) : SdS := ⟨x.F + K, x.o, stopN x.L x.F K, x.bs.drop K⟩
theorem ackR_some (x : SdS) (av : Int) : ∃ K, AckR x av K := by
  by_cases h : (x.F : Int) < av ∧ av ≤ ((x.F + x.bs.length : Nat) : Int)
  · exact ⟨(av - x.F).toNat, by omega, .inl ⟨by omega, by omega⟩⟩
  · exact ⟨0, by omega, .inr ⟨rfl, by omega⟩⟩
theorem sst_acked1 (h : SSt gs w0 w p tp q tq W B M R x y) (hx : x.F ≤ 1000000) (av : Int) (K : Nat) (hK : AckR x av K) :
    Calls Try.prog 15 #[.pointer (some ⟨p, 0, none⟩), .int .i64 av] w fun e w' => e = .returned (.int .i64 (K : Int)) ∧ SSt gs w0 w' p tp q tq W B M R (ackS x K) y := by
  have hh := h
  obtain ⟨a, n, c, ta, tn, tc, us, h1, h2, h3, h4, h5, h6⟩ := h
  obtain ⟨hK1, ⟨h0, rfl⟩ | ⟨rfl, h0⟩⟩ := hK
  · refine (s1_acked h3 (by omega) K h0 hK1 _ rfl).mono ?_
    rintro e w' ⟨he, hs, hm⟩
    exact ⟨he, SSt.one h1 h2 h4 h5 h6 (x' := ackS x K) hs hm (fun _ e => e)⟩
  · obtain ⟨tb, a9, c9, us9, k1, k2, k3, k5, k4⟩ := h3
    refine (sdacked_no k2 (by omega) av h0).mono ?_
    rintro e w' ⟨he, hm⟩
    exact ⟨he, hh.keep hm⟩
theorem sst_acked2 (h : SSt gs w0 w p tp q tq W B M R x y) (hy : y.F ≤ 1000000 ∧ y.L.length ≤ 1000) (av : Int) (K : Nat) (hK : AckR y av K) :
    Calls Try.prog 16 #[.pointer (some ⟨q, 0, none⟩), .int .i64 av] w fun e w' => e = .returned (.int .i64 (K : Int)) ∧ SSt gs w0 w' p tp q tq W B M R x (ackS y K) := by
  have hh := h
  obtain ⟨a, n, c, ta, tn, tc, us, h1, h2, h3, h4, h5, h6⟩ := h
  have hn : y.bs.length = n := by rw [← h1, List.length_map]; exact h2.len
  obtain ⟨hK1, hK2⟩ := hK
  by_cases hf : ((y.F + n : Nat) : Int) < av
  · have hK0 : K = 0 := by rcases hK2 with ⟨_, e⟩ | ⟨e, _⟩ <;> omega
    subst hK0
    refine (rsacked_far h2 av hf).mono ?_
    rintro e w' ⟨he, rfl⟩
    exact ⟨he, hh⟩
  · refine (rsacked_any h2 (by omega) (by omega) K (by omega) av (by rcases hK2 with ⟨_, e⟩ | ⟨e1, e2⟩; exact .inl e; exact .inr ⟨e1, by omega⟩)).mono ?_
    rintro e w' ⟨he, hq⟩
    rw [List.map_drop, h1] at hq
    exact ⟨he, SSt.two h2 h3 h4 h5 h6 hq⟩
/-- What Again tells, and leaves. -/
def againS (x : SdS) (B M R : Nat) (now : Int) : SdS := if x.o then x else ⟨x.F, decide (overE R (dueE x.L now) ≠ []), x.L.filterMap (dueW B M R now), x.bs⟩
def againV (x : SdS) (R : Nat) (now : Int) : List Int := if x.o then [] else if overE R (dueE x.L now) = [] then againE R (dueE x.L now) else []
def againC (x : SdS) (R : Nat) (now : Int) : Int := if x.o then 6 else if overE R (dueE x.L now) = [] then 0 else 6
theorem sst_again1 (h : SSt gs w0 w p tp q tq W B M R x y) (hx : x.L.length ≤ 1000) (now : Int) (hnow : 0 ≤ now ∧ now ≤ 1048576) (n1 : Nat) (hn1 : (againV x R now).length = n1) :
    Calls Try.prog 17 #[.pointer (some ⟨p, 0, none⟩), .int .i64 now] w fun e w' => ∃ a1 c1, e = .returned (.tuple #[.slice a1 n1 c1, .int .i64 (againC x R now)]) ∧ Rd w' 1 (.slice a1 n1 c1) n1 ((againV x R now).map (Value.int .i64)) ∧ (∀ k, (Value.slice a1 n1 c1).ownBlock = some k → k ≠ q ∧ k ≠ tq) ∧ SSt gs w0 w' p tp q tq W B M R (againS x B M R now) y := by
  have hh := h
  obtain ⟨a, n, c, ta, tn, tc, us, h1, h2, h3, h4, h5, h6⟩ := h
  obtain ⟨F, o, L, bs⟩ := x
  subst hn1
  cases o with
  | true =>
    obtain ⟨tb, a9, c9, us9, k1, k2, k3, k5, k4⟩ := h3
    refine (sdagain_over k2 now).mono ?_
    rintro e w' ⟨he, rfl⟩
    exact ⟨none, 0, by rw [he]; rfl, Rd.nil _ _, (fun k hk => by cases hk), hh⟩
  | false =>
    obtain ⟨tb, a9, c9, us9, k1, k2, k3, k5, k4⟩ := h3
    refine (sdagain_any k2 (Nat.le_trans hx (by omega)) now (by omega)).mono ?_
    rintro e w' ⟨he, tb', a', c', hs, hg, hm⟩
    have hs1 := S1.turned k3 k5 k4 hs hg hm
    rw [k1] at hs1
    have hst := SSt.one h1 h2 h4 h5 h6 (x' := ⟨F, decide (overE R (dueE L now) ≠ []), L.filterMap (dueW B M R now), bs⟩) hs1 hm (fun k e g => (k3 k e).2 g)
    have hql := h2.blk.lt
    have htl := h2.tm.blk.lt
    by_cases ho : overE R (dueE L now) = []
    · rw [if_pos ho] at he
      obtain ⟨a1, c1, he, hr⟩ := he
      have hv : againV ⟨F, false, L, bs⟩ R now = againE R (dueE L now) := by simp [againV, ho]
      rw [hv]
      exact ⟨a1, c1, by rw [he]; simp [againC, ho], Rd.ofOwn hr, fun k hk => by have := (hr.lt k hk).1; omega, by simpa [againS] using hst⟩
    · rw [if_neg ho] at he
      have hv : againV ⟨F, false, L, bs⟩ R now = [] := by simp [againV, ho]
      rw [hv]
      exact ⟨none, 0, by rw [he]; simp [againC, ho], Rd.nil _ _, (fun k hk => by cases hk), by simpa [againS] using hst⟩
theorem sst_again2 (h : SSt gs w0 w p tp q tq W B M R x y) (hy : y.L.length ≤ 1000) (hnR : ∀ e ∈ y.L, e.n ≤ R) (now : Int) (hnow : 0 ≤ now ∧ now ≤ 1048576) (n1 : Nat) (hn1 : (againV y R now).length = n1) :
    Calls Try.prog 18 #[.pointer (some ⟨q, 0, none⟩), .int .i64 now] w fun e w' => ∃ a1 c1, e = .returned (.tuple #[.slice a1 n1 c1, .int .i64 (againC y R now)]) ∧ Rd w' 1 (.slice a1 n1 c1) n1 ((againV y R now).map (Value.int .i64)) ∧ SSt gs w0 w' p tp q tq W B M R x (againS y B M R now) ∧ Mod (fun k => k = q ∨ k = tq) w w' := by
  have hh := h
  obtain ⟨a, n, c, ta, tn, tc, us, h1, h2, h3, h4, h5, h6⟩ := h
  obtain ⟨F, o, L, bs⟩ := y
  subst hn1
  cases o with
  | true =>
    refine (rsagain_over h2 now).mono ?_
    rintro e w' ⟨he, rfl⟩
    exact ⟨none, 0, by rw [he]; rfl, Rd.nil _ _, hh, Mod.refl _ _⟩
  | false =>
    refine (rsagain_any h2 (Nat.le_trans hy (by omega)) hnR now hnow _ _ _ _ rfl rfl rfl rfl).mono ?_
    rintro e w' ⟨he, hq⟩
    have hmq : Mod (fun k => k = q ∨ k = tq) w w' := by obtain ⟨_, _, _, _, _, _, _, _, _, h⟩ := hq; exact h
    replace h1 : us.map (·.body) = bs := h1
    have hn : bs.length = n := by have h9 : us.map (·.body) = bs := h1; rw [← h9, List.length_map]; exact h2.len
    rw [h1] at hq
    have hst := SSt.two h2 h3 h4 h5 h6 hq
    by_cases ho : overE R (dueE L now) = []
    · rw [if_pos ho] at he
      obtain ⟨a1, c1, he, hr⟩ := he
      have hv : againV ⟨F, false, L, bs⟩ R now = againE R (dueE L now) := by simp [againV, ho]
      rw [hv]
      exact ⟨a1, c1, by rw [he]; simp [againC, ho], hr, by simpa [againS] using hst, hmq⟩
    · rw [if_neg ho] at he
      have hv : againV ⟨F, false, L, bs⟩ R now = [] := by simp [againV, ho]
      rw [hv]
      exact ⟨none, 0, by rw [he]; simp [againC, ho], Rd.nil _ _, by simpa [againS] using hst, hmq⟩
/-- What Body tells. -/
def bodyV (x : SdS) (av : Int) : List Int := if (x.F : Int) ≤ av then (x.bs[(av - x.F).toNat]?).getD [] else []
def bodyB (x : SdS) (av : Int) : Bool := decide ((x.F : Int) ≤ av ∧ av < ((x.F + x.bs.length : Nat) : Int))
theorem sst_body1 (h : SSt gs w0 w p tp q tq W B M R x y) (hx : x.F ≤ 1000000) (hbd : ∀ b ∈ x.bs, b.length ≤ 30) (av : Int) (n1 : Nat) (hn1 : (bodyV x av).length = n1) :
    Calls Try.prog 20 #[.pointer (some ⟨p, 0, none⟩), .int .i64 av] w fun e w' => ∃ a1 c1, e = .returned (.tuple #[.slice a1 n1 c1, .bool (bodyB x av)]) ∧ Rd w' 1 (.slice a1 n1 c1) n1 ((bodyV x av).map (Value.int .u8)) ∧ SSt gs w0 w' p tp q tq W B M R x y ∧ Mod (fun _ => False) w w' := by
  have hh := h
  obtain ⟨a, n, c, ta, tn, tc, us, h1, h2, h3, h4, h5, h6⟩ := h
  subst hn1
  by_cases hin : (x.F : Int) ≤ av ∧ av < ((x.F + x.bs.length : Nat) : Int)
  · have hk : (av - x.F).toNat < x.bs.length := by omega
    have hv : bodyV x av = x.bs[(av - x.F).toNat] := by unfold bodyV; rw [if_pos hin.1, List.getElem?_eq_getElem hk]; rfl
    have hb : bodyB x av = true := by unfold bodyB; exact decide_eq_true hin
    refine (s1_body_at h3 (by omega) (av - x.F).toNat x.bs[(av - x.F).toNat] (List.getElem?_eq_getElem hk) (by have := hbd _ (List.getElem_mem hk); omega) av (by omega)).mono ?_
    rintro e w' ⟨a', c', he, hr, _, _, hm⟩
    rw [hv, hb]
    exact ⟨a', c', he, hr, hh.keep hm, hm⟩
  · have hv : bodyV x av = [] := by
      unfold bodyV
      by_cases h0 : (x.F : Int) ≤ av
      · rw [if_pos h0, List.getElem?_eq_none (by omega)]; rfl
      · rw [if_neg h0]
    have hb : bodyB x av = false := by unfold bodyB; exact decide_eq_false hin
    refine (s1_body_no h3 (by omega) av (by omega)).mono ?_
    rintro e w' ⟨he, _, hm⟩
    rw [hv, hb]
    exact ⟨none, 0, he, Rd.nil _ _, hh.keep hm, hm⟩
theorem sst_body2 (h : SSt gs w0 w p tp q tq W B M R x y) (hy : y.F ≤ 1000000) (av : Int) (n1 : Nat) (hn1 : (bodyV y av).length = n1) :
    Calls Try.prog 21 #[.pointer (some ⟨q, 0, none⟩), .int .i64 av] w fun e w' => ∃ a1 c1, e = .returned (.tuple #[.slice a1 n1 c1, .bool (bodyB y av)]) ∧ Rd w' 1 (.slice a1 n1 c1) n1 ((bodyV y av).map (Value.int .u8)) ∧ w = w' := by
  have hh := h
  obtain ⟨a, n, c, ta, tn, tc, us, h1, h2, h3, h4, h5, h6⟩ := h
  subst hn1
  have hn : y.bs.length = n := by rw [← h1, List.length_map]; exact h2.len
  by_cases hin : (y.F : Int) ≤ av ∧ av < ((y.F + y.bs.length : Nat) : Int)
  · have hk : (av - y.F).toNat < y.bs.length := by omega
    have hk2 : (av - y.F).toNat < us.length := by rw [h2.len]; omega
    have hv : bodyV y av = us[(av - y.F).toNat].body := by
      unfold bodyV
      rw [if_pos hin.1, List.getElem?_eq_getElem hk]
      simp only [Option.getD_some]
      have h9 : y.bs[(av - y.F).toNat]? = (us.map (·.body))[(av - y.F).toNat]? := by rw [h1]
      rw [List.getElem?_eq_getElem hk, List.getElem?_map, List.getElem?_eq_getElem hk2] at h9
      exact Option.some.inj h9
    have hb : bodyB y av = true := by unfold bodyB; exact decide_eq_true hin
    refine (rsbody_at h2 (by omega) (av - y.F).toNat hk2 av (by omega)).mono ?_
    rintro e w' ⟨he, rfl⟩
    rw [hv, hb]
    obtain ⟨a', n', c', e1, e2, e3⟩ := h2.bodies _ (List.getElem_mem hk2)
    rw [e2]
    rw [e1] at he e3
    exact ⟨a', c', he, e3, rfl⟩
  · have hv : bodyV y av = [] := by
      unfold bodyV
      by_cases h0 : (y.F : Int) ≤ av
      · rw [if_pos h0, List.getElem?_eq_none (by omega)]; rfl
      · rw [if_neg h0]
    have hb : bodyB y av = false := by unfold bodyB; exact decide_eq_false hin
    refine (rsbody_no h2 (by omega) av (by omega)).mono ?_
    rintro e w' ⟨he, rfl⟩
    rw [hv, hb]
    exact ⟨none, 0, he, Rd.nil _ _, rfl⟩
/-- Room, Seq: they only read. -/
def roomV (W : Nat) (x : SdS) : Int := if x.o then 0 else ((W - x.bs.length : Nat) : Int)
theorem sst_room1 (h : SSt gs w0 w p tp q tq W B M R x y) (k : Nat) : Calls Try.prog 22 #[.pointer (some ⟨p, 0, none⟩)] (w.drewN k) fun e w' => e = .returned (.int .i64 (roomV W x)) ∧ ∃ m, w' = (w.drewN k).drewN m := by
  obtain ⟨a, n, c, ta, tn, tc, us, h1, h2, h3, h4, h5, h6⟩ := h
  obtain ⟨tb, a9, c9, us9, k1, k2, k3, k5, k4⟩ := h3
  exact sdroom_q (k2.later (Mod.drewN _ _ _))
theorem sst_seq1 (h : SSt gs w0 w p tp q tq W B M R x y) (hx : x.F ≤ 1000000) (k : Nat) : Calls Try.prog 24 #[.pointer (some ⟨p, 0, none⟩)] (w.drewN k) fun e w' => e = .returned (.int .i64 ((x.F + x.bs.length : Nat) : Int)) ∧ ∃ m, w' = (w.drewN k).drewN m := by
  obtain ⟨a, n, c, ta, tn, tc, us, h1, h2, h3, h4, h5, h6⟩ := h
  obtain ⟨tb, a9, c9, us9, k1, k2, k3, k5, k4⟩ := h3
  exact sdseq_q (k2.later (Mod.drewN _ _ _)) (by omega)
theorem sst_room2 (h : SSt gs w0 w p tp q tq W B M R x y) (k : Nat) : Calls Try.prog 23 #[.pointer (some ⟨q, 0, none⟩)] (w.drewN k) fun e w' => e = .returned (.int .i64 (roomV W y)) ∧ ∃ m, w' = (w.drewN k).drewN m := by
  obtain ⟨a, n, c, ta, tn, tc, us, h1, h2, h3, h4, h5, h6⟩ := h
  have hn : y.bs.length = n := by rw [← h1, List.length_map]; exact h2.len
  unfold roomV
  rw [hn]
  exact rsroom_any (h2.later (Mod.drewN _ _ _))
end
end Go.Proofs.Ytopldodfkcgmhaa
