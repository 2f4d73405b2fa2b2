/- What comes next, as plain lists. -/
import Derived.Test.YtagmnkobigecnaaWalkP
import Derived.Test.YtagmnkobigecnaaKBend
import Derived.Test.YtagmnkobigecnaaGr8
import Derived.Test.YtagmnkobigecnaaKWalk
import Derived.Test.YtagmnkobigecnaaKStroll
import Derived.Test.YtagmnkobigecnaaRegion2
import Derived.Test.YtagmnkobigecnaaKReg
import Derived.Deep.DeepCutAuto
import Derived.Deep.CutBlock
import Derived.Test.YtagmnkobigecnaaMade21
namespace Go.Proofs.Ytagmnkobigecnaa
open Go.RowKit Mile
set_option maxRecDepth 100000
abbrev H4 := Int × Int × Int × Int
def ndv (G : GD) (i : Int) : P2 := if 0 ≤ i ∧ i < G.N.length then nAt G i else (0, 0)
def edv (G : GD) (i : Int) : P3 := if 0 ≤ i ∧ i < G.E.length then eAt G i else (0, 0, 0)
def wtE (G : GD) (i : Int) : Int := (edv G i).2.2
def vecX (G : GD) (i : Int) : Int := if 0 ≤ i ∧ i < (G.E.length : Int) then (ndv G (eAt G i).2.1).1 - (ndv G (eAt G i).1).1 else 0
def vecY (G : GD) (i : Int) : Int := if 0 ≤ i ∧ i < (G.E.length : Int) then (ndv G (eAt G i).2.1).2 - (ndv G (eAt G i).1).2 else 0
def bendG (G : GD) (a b : Int) : Int := clsC (vecX G a) (vecY G a) (vecX G b) (vecY G b)
def decB (G : GD) (e : Int) : Bool := ((nxtR G e).length : Int) != 1
theorem ndv_le (G : GD) (h : May G) (i : Int) : (0 ≤ (ndv G i).1 ∧ (ndv G i).1 ≤ 4095) ∧ (0 ≤ (ndv G i).2 ∧ (ndv G i).2 ≤ 4095) := by
  unfold ndv
  by_cases hi : 0 ≤ i ∧ i < G.N.length
  · rw [if_pos hi]
    obtain ⟨k, rfl⟩ := Int.eq_ofNat_of_zero_le hi.1
    have hk : k < G.N.length := by omega
    rw [nAt_eq G k hk]
    exact h.2.1 _ (List.getElem_mem hk)
  · rw [if_neg hi]; simp
theorem wtE_le (G : GD) (h : May G) (i : Int) : 0 ≤ wtE G i ∧ wtE G i ≤ 65535 := by
  unfold wtE edv
  by_cases hi : 0 ≤ i ∧ i < G.E.length
  · rw [if_pos hi]
    have := wt_le G h i (decide_eq_true hi)
    omega
  · rw [if_neg hi]; simp
theorem wtE_in (G : GD) {i : Int} (h : edB G i = true) : wtE G i = (eAt G i).2.2 := by
  unfold wtE edv; rw [if_pos (of_decide_eq_true h)]
/-- The hint on a way of a weight, and how many edges are gone. -/
def nextL (G : GD) (W : Int) : Int → List Int → Int → Nat → H4 × Nat
  | _, [], far, i => ((9, -1, far, W), i)
  | f, e :: r, far, i => if decB G f = true then ((bendG G f e, e, far, W), i + 1) else nextL G W e r (far + wtE G e) (i + 1)
theorem nextL_at (G : GD) (W : Int) (f : Int) (xs : List Int) (k : Nat) (far : Int) (h : k < xs.length) (hd : decB G f = true) : nextL G W f (xs.drop k) far k = ((bendG G f xs[k], xs[k], far, W), k + 1) := by
  rw [List.drop_eq_getElem_cons h, nextL, if_pos hd]
theorem nextL_on (G : GD) (W : Int) (f : Int) (xs : List Int) (k : Nat) (far : Int) (h : k < xs.length) (hd : decB G f = false) : nextL G W f (xs.drop k) far k = nextL G W xs[k] (xs.drop (k + 1)) (far + wtE G xs[k]) (k + 1) := by
  rw [List.drop_eq_getElem_cons h, nextL, if_neg (by rw [hd]; decide)]
theorem nextL_end (G : GD) (W : Int) (f : Int) (xs : List Int) (far : Int) : nextL G W f (xs.drop xs.length) far xs.length = ((9, -1, far, W), xs.length) := by
  rw [List.drop_length, nextL]
/-- The weights of a way. -/
def wE (G : GD) : List Int → Int
  | [] => 0
  | x :: r => wtE G x + wE G r
theorem wE_append (G : GD) : ∀ (a b : List Int), wE G (a ++ b) = wE G a + wE G b
  | [], b => by simp [wE]
  | x :: a, b => by rw [List.cons_append, wE, wE, wE_append G a b]; omega
theorem wE_le (G : GD) (h : May G) : ∀ (xs : List Int), 0 ≤ wE G xs ∧ wE G xs ≤ 65535 * (xs.length : Int)
  | [] => by simp [wE]
  | x :: xs => by
    have h1 := wtE_le G h x
    have h2 := wE_le G h xs
    simp only [wE, List.length_cons]
    omega
theorem wE_all (G : GD) : ∀ (xs : List Int), allE G xs = true → wE G xs = wS G xs
  | [], _ => rfl
  | x :: xs, h => by
    have e : allE G (x :: xs) = (edB G x && allE G xs) := by simp [allE]
    rw [e, Bool.and_eq_true] at h
    rw [wE, wS, wE_all G xs h.2, wtE_in G h.1]
/-- Either it is the end, or an edge of the way, the first one where one decides. -/
theorem nextL_form (G : GD) (W : Int) : ∀ (xs : List Int) (f far : Int) (i : Nat), nextL G W f xs far i = ((9, -1, far + wE G xs, W), i + xs.length) ∨
    (∃ (a b : List Int) (e : Int), xs = a ++ e :: b ∧ decB G (lastD f a) = true ∧ nextL G W f xs far i = ((bendG G (lastD f a) e, e, far + wE G a, W), i + a.length + 1))
  | [], f, far, i => .inl (by simp [nextL, wE])
  | e :: r, f, far, i => by
    rw [nextL]
    split
    · rename_i hd
      exact .inr ⟨[], r, e, rfl, hd, by simp [lastD, wE]⟩
    · rcases nextL_form G W r e (far + wtE G e) (i + 1) with h | ⟨a, b, x, h1, h3, h2⟩
      · exact .inl (by rw [h, List.length_cons, show i + 1 + r.length = i + (r.length + 1) by omega, wE, Int.add_assoc])
      · have hl : lastD f (e :: a) = lastD e a := lastD_append f [e] a
        exact .inr ⟨e :: a, b, x, by rw [h1]; rfl, by rw [hl]; exact h3, by rw [h2, hl, List.length_cons, show i + 1 + a.length + 1 = i + (a.length + 1) + 1 by omega, wE, Int.add_assoc]⟩
/-- The same way, begun elsewhere. -/
theorem nextL_shift (G : GD) (W W' : Int) : ∀ (xs : List Int) (f far : Int) (i : Nat), nextL G W f xs far i = (((nextL G W' f xs 0 0).1.1, (nextL G W' f xs 0 0).1.2.1, far + (nextL G W' f xs 0 0).1.2.2.1, W), i + (nextL G W' f xs 0 0).2) := by
  have key : ∀ (xs : List Int) (f far far' : Int) (i i' : Nat), (nextL G W f xs far i).1.1 = (nextL G W' f xs far' i').1.1 ∧ (nextL G W f xs far i).1.2.1 = (nextL G W' f xs far' i').1.2.1 ∧ (nextL G W f xs far i).1.2.2.1 - far = (nextL G W' f xs far' i').1.2.2.1 - far' ∧ (nextL G W f xs far i).1.2.2.2 = W ∧ (nextL G W f xs far i).2 + i' = (nextL G W' f xs far' i').2 + i := by
    intro xs
    induction xs with
    | nil => intro f far far' i i'; simp [nextL]; omega
    | cons e r ih =>
      intro f far far' i i'
      rw [nextL, nextL]
      by_cases hd : decB G f = true
      · rw [if_pos hd, if_pos hd]; refine ⟨rfl, rfl, ?_, rfl, ?_⟩ <;> simp <;> omega
      · rw [if_neg hd, if_neg hd]
        have := ih e (far + wtE G e) (far' + wtE G e) (i + 1) (i' + 1)
        exact ⟨this.1, this.2.1, by omega, this.2.2.2.1, by omega⟩
  intro xs f far i
  obtain ⟨h1, h2, h3, h4, h5⟩ := key xs f far 0 i 0
  refine Prod.ext (Prod.ext h1 (Prod.ext h2 (Prod.ext ?_ h4))) ?_
  · show (nextL G W f xs far i).1.2.2.1 = far + (nextL G W' f xs 0 0).1.2.2.1; omega
  · show (nextL G W f xs far i).2 = i + (nextL G W' f xs 0 0).2; omega
theorem bendG_range (G : GD) (a b : Int) : 0 ≤ bendG G a b ∧ bendG G a b ≤ 8 := by
  have h1 : ∀ c d, 1 ≤ lwC c d ∧ lwC c d ≤ 5 := fun c d => by unfold lwC; split <;> (try split) <;> (try split) <;> (try split) <;> omega
  have h2 : ∀ c, 0 ≤ c ∧ c ≤ 8 → 0 ≤ mirC c ∧ mirC c ≤ 8 := fun c h => by unfold mirC; split <;> (try split) <;> omega
  unfold bendG clsC
  split
  · unfold clsD
    split
    · exact h2 _ (by have := h1 (-(vecX G a * vecY G b - vecY G a * vecX G b)) (vecX G a * vecX G b + vecY G a * vecY G b); omega)
    · have := h1 (vecX G a * vecY G b - vecY G a * vecX G b) (vecX G a * vecX G b + vecY G a * vecY G b); omega
  · omega
/-- All hints of a way (so many at most). -/
def hintsL (G : GD) : Nat → Int → List Int → Int → List H4
  | 0, _, _, _ => []
  | n + 1, f, xs, W => if (nextL G W f xs 0 0).1.1 = 9 then [(nextL G W f xs 0 0).1] else (nextL G W f xs 0 0).1 :: hintsL G n (nextL G W f xs 0 0).1.2.1 (xs.drop (nextL G W f xs 0 0).2) (W - (nextL G W f xs 0 0).1.2.2.1 - wtE G (nextL G W f xs 0 0).1.2.1)
theorem hintsL_succ (G : GD) (m : Nat) (f : Int) (xs : List Int) (W : Int) (h : H4) (g : Nat) (hn : nextL G W f xs 0 0 = (h, g)) : hintsL G (m + 1) f xs W = [h] ++ (if h.1 = 9 then [] else hintsL G m h.2.1 (xs.drop g) (W - h.2.2.1 - wtE G h.2.1)) := by
  rw [hintsL, hn]
  split <;> rfl
/-- What a hint leaves. -/
theorem nextL_fin (G : GD) (W : Int) (f : Int) (xs : List Int) (h : H4) (g : Nat) (hn : nextL G W f xs 0 0 = (h, g)) : (h.1 = 9 ∧ h.2.1 = -1 ∧ h.2.2.1 = wE G xs ∧ g = xs.length ∧ h.2.2.2 = W) ∨
    (0 ≤ h.1 ∧ h.1 ≤ 8 ∧ 1 ≤ g ∧ g ≤ xs.length ∧ h.2.2.2 = W ∧ (∃ a b, xs = a ++ h.2.1 :: b ∧ xs.drop g = b ∧ h.2.2.1 = wE G a)) := by
  rcases nextL_form G W xs f 0 0 with e | ⟨a, b, e, h1, _, h2⟩
  · rw [hn] at e
    obtain ⟨rfl, rfl⟩ := Prod.mk.inj e
    exact .inl ⟨rfl, rfl, by simp, by simp, rfl⟩
  · rw [hn] at h2
    obtain ⟨rfl, rfl⟩ := Prod.mk.inj h2
    have hb := bendG_range G (lastD f a) e
    refine .inr ⟨hb.1, hb.2, by omega, by rw [h1, List.length_append, List.length_cons]; omega, rfl, a, b, h1, ?_, by simp⟩
    rw [h1, show 0 + a.length + 1 = (a ++ [e]).length by simp, show a ++ e :: b = (a ++ [e]) ++ b by simp, List.drop_left]
def c4h (x : H4) : List Value := [.int .i64 x.1, .int .i64 x.2.1, .int .i64 x.2.2.1, .int .i64 x.2.2.2]
def hintV (x : H4) : Value := .agg #[.int .i64 x.1, .int .i64 x.2.1, .int .i64 x.2.2.1, .int .i64 x.2.2.2]
def HRow (xs : List H4) : Value → World → Prop := fun v W => ∃ a c, v = .slice a xs.length c ∧ Rd W 4 (.slice a xs.length c) xs.length (xs.flatMap c4h)
theorem HRow.st (xs : List H4) : Stable (Mod (fun _ => False)) (HRow xs) := fun _ _ _ ⟨a, c, h, hr⟩ hm => ⟨a, c, h, hr.keep hm (fun _ _ e => e)⟩
end Go.Proofs.Ytagmnkobigecnaa
namespace Mile
open Go Go.RowKit
theorem Mod.ofFx {F : Nat → Prop} {a b c : World} (h : Mod F a b) (k : Mod F b c) : Mod F a c := h.trans k (fun _ _ e => e) (fun _ _ e => e)
end Mile
namespace Go.Proofs.Ytagmnkobigecnaa
open Go.RowKit Mile
set_option maxRecDepth 100000
/-- What each operation of the statement leaves. -/
def gw_r6_0_F (bn : Nat) (bm : Nat) (u0 : Int) (u1 : Int) (v0 : Int) (v1 : Int) : List (Value → World → Prop) :=
  [IsV (.pointer (some ⟨bm, 0, none⟩)),
   IsV (.int .i64 v0),
   IsV (.pointer (some ⟨bn, 0, none⟩)),
   IsV (.int .i64 u0),
   IsV (.int .i64 (v0 - u0)),
   IsV (.pointer (some ⟨bm, 1, none⟩)),
   IsV (.int .i64 v1),
   IsV (.pointer (some ⟨bn, 1, none⟩)),
   IsV (.int .i64 u1),
   IsV (.int .i64 (v1 - u1)),
   IsV (.int .i64 (v0 - u0)),
   IsV (.int .i64 (v1 - u1))]
def gw_r6_0_D : List (List Nat) := [[], [0], [], [2], [1, 3], [], [5], [], [7], [6, 8], [4], [9]]

set_option maxHeartbeats 8000000 in
theorem bway_any (p B C : Nat) (G : GD) (hmay : May G) (w : World) (h : GO w p B C G) (v : Int) :
    Calls Try.prog 57 #[.pointer (some ⟨p, 0, none⟩), .int .i64 v] w fun e w' => e = .returned (.tuple #[.int .i64 (vecX G v), .int .i64 (vecY G v)]) ∧ Mod (fun _ => False) w w' := by
  have HMAY := Lib.hid hmay
  clear hmay
  have HS : Hid (Ev (Mod (fun _ => False) w) w) := Lib.hid (Ev.mod w)
  replace HS := Lib.hid ((Ev.go h).and HS.out)
  clear h
  by_cases hv : 0 ≤ v ∧ v < (G.E.length : Int)
  case pos =>
    obtain ⟨x0, Hx00⟩ : ∃ qz, (eAt G v).1 = qz := ⟨_, rfl⟩
    have Hx0 := Lib.hid Hx00
    clear Hx00
    obtain ⟨y0, Hy00⟩ : ∃ qz, (eAt G v).2.1 = qz := ⟨_, rfl⟩
    have Hy0 := Lib.hid Hy00
    clear Hy00
    obtain ⟨z0v, Hz0v0⟩ : ∃ qz, (eAt G v).2.2 = qz := ⟨_, rfl⟩
    have Hz0v := Lib.hid Hz0v0
    clear Hz0v0
    obtain ⟨u0, Hu00⟩ : ∃ qz, (ndv G x0).1 = qz := ⟨_, rfl⟩
    have Hu0 := Lib.hid Hu00
    clear Hu00
    obtain ⟨u1, Hu10⟩ : ∃ qz, (ndv G x0).2 = qz := ⟨_, rfl⟩
    have Hu1 := Lib.hid Hu10
    clear Hu10
    obtain ⟨v0, Hv00⟩ : ∃ qz, (ndv G y0).1 = qz := ⟨_, rfl⟩
    have Hv0 := Lib.hid Hv00
    clear Hv00
    obtain ⟨v1, Hv10⟩ : ∃ qz, (ndv G y0).2 = qz := ⟨_, rfl⟩
    have Hv1 := Lib.hid Hv10
    clear Hv10
    have hb0 := ndv_le G HMAY.out x0
    have hb1 := ndv_le G HMAY.out y0
    rw [Hu0.out, Hu1.out] at hb0
    rw [Hv0.out, Hv1.out] at hb1
    obtain ⟨⟨ha1, ha2⟩, ha3, ha4⟩ := hb0
    obtain ⟨⟨hc1, hc2⟩, hc3, hc4⟩ := hb1
    have HXE := Lib.hid hv
    clear hv
    go_enter Try.func57, Try.ntmps57
    go_wp2_with fail
    refine (edge_any p B C _ G ((HS.out.now).1) v).mono ?_
    rintro e wq1 ⟨rfl, hmm⟩
    replace HS := Lib.hid (HS.out.step hmm)
    clear hmm
    rw [if_pos HXE.out, decide_eq_true HXE.out, Hx0.out, Hy0.out, Hz0v.out]
    go_upto_region 2 with fail
    obtain ⟨be, hbe⟩ : ∃ b, wq1.heap.size = b := ⟨_, rfl⟩
    obtain ⟨wq2, hwq2⟩ : ∃ W, World.alloc wq1 (.cells #[.int .i64 x0, .int .i64 y0, .int .i64 z0v] 41) = W := ⟨_, rfl⟩
    have hBbe : Blk wq2 be 41 [.int .i64 x0, .int .i64 y0, .int .i64 z0v] := by rw [← hwq2, ← hbe]; exact Blk.new _ 41 [.int .i64 x0, .int .i64 y0, .int .i64 z0v]
    have hzbe : wq2.heap.size = be + 1 := by rw [← hwq2, ← hbe]; exact heap_size_alloc _ _
    replace HS := Lib.hid (HS.out.step (w' := wq2) (by rw [← hwq2]; exact Mod.alloc _ _ _))
    replace HS := Lib.hid ((Ev.blk hBbe).and HS.out)
    try rw [hwq2]
    try rw [hbe]
    clear hzbe hBbe hbe hwq2
    have hbbe := (HS.out.now).1
    have qbe_0 := hbbe.cell 0 rfl
    have qbe_1 := hbbe.cell 1 rfl
    have qbe_2 := hbbe.cell 2 rfl
    have lbe := hbbe.lt
    clear hbbe
    go_wp2_with fail
    refine (node_any p B C _ G ((HS.out.now).2.1) x0).mono ?_
    rintro e wq3 ⟨rfl, hmm⟩
    replace HS := Lib.hid (HS.out.step hmm)
    clear hmm
    clear qbe_0 qbe_1 qbe_2 lbe
    have hbbe := (HS.out.now).1
    have qbe_0 := hbbe.cell 0 rfl
    have qbe_1 := hbbe.cell 1 rfl
    have qbe_2 := hbbe.cell 2 rfl
    have lbe := hbbe.lt
    clear hbbe
    rw [show (if 0 ≤ x0 ∧ x0 < (G.N.length : Int) then nAt G x0 else (0, 0)) = ndv G x0 from rfl, Hu0.out, Hu1.out]
    go_upto_region 5 with fail
    obtain ⟨bn, hbn⟩ : ∃ b, wq3.heap.size = b := ⟨_, rfl⟩
    obtain ⟨wq4, hwq4⟩ : ∃ W, World.alloc wq3 (.cells #[.int .i64 u0, .int .i64 u1] 70) = W := ⟨_, rfl⟩
    have hBbn : Blk wq4 bn 70 [.int .i64 u0, .int .i64 u1] := by rw [← hwq4, ← hbn]; exact Blk.new _ 70 [.int .i64 u0, .int .i64 u1]
    have hzbn : wq4.heap.size = bn + 1 := by rw [← hwq4, ← hbn]; exact heap_size_alloc _ _
    replace HS := Lib.hid (HS.out.step (w' := wq4) (by rw [← hwq4]; exact Mod.alloc _ _ _))
    replace HS := Lib.hid ((Ev.blk hBbn).and HS.out)
    try rw [hwq4]
    try rw [hbn]
    clear hzbn hBbn hbn hwq4
    clear qbe_0 qbe_1 qbe_2 lbe
    have hbbe := (HS.out.now).2.1
    have qbe_0 := hbbe.cell 0 rfl
    have qbe_1 := hbbe.cell 1 rfl
    have qbe_2 := hbbe.cell 2 rfl
    have lbe := hbbe.lt
    clear hbbe
    have hbbn := (HS.out.now).1
    have qbn_0 := hbbn.cell 0 rfl
    have qbn_1 := hbbn.cell 1 rfl
    have lbn := hbbn.lt
    clear hbbn
    go_wp2_with fail
    refine (node_any p B C _ G ((HS.out.now).2.2.1) y0).mono ?_
    rintro e wq5 ⟨rfl, hmm⟩
    replace HS := Lib.hid (HS.out.step hmm)
    clear hmm
    clear qbe_0 qbe_1 qbe_2 lbe qbn_0 qbn_1 lbn
    have hbbe := (HS.out.now).2.1
    have qbe_0 := hbbe.cell 0 rfl
    have qbe_1 := hbbe.cell 1 rfl
    have qbe_2 := hbbe.cell 2 rfl
    have lbe := hbbe.lt
    clear hbbe
    have hbbn := (HS.out.now).1
    have qbn_0 := hbbn.cell 0 rfl
    have qbn_1 := hbbn.cell 1 rfl
    have lbn := hbbn.lt
    clear hbbn
    rw [show (if 0 ≤ y0 ∧ y0 < (G.N.length : Int) then nAt G y0 else (0, 0)) = ndv G y0 from rfl, Hv0.out, Hv1.out]
    go_upto_region 6 with fail
    obtain ⟨bm, hbm⟩ : ∃ b, wq5.heap.size = b := ⟨_, rfl⟩
    obtain ⟨wq6, hwq6⟩ : ∃ W, World.alloc wq5 (.cells #[.int .i64 v0, .int .i64 v1] 70) = W := ⟨_, rfl⟩
    have hBbm : Blk wq6 bm 70 [.int .i64 v0, .int .i64 v1] := by rw [← hwq6, ← hbm]; exact Blk.new _ 70 [.int .i64 v0, .int .i64 v1]
    have hzbm : wq6.heap.size = bm + 1 := by rw [← hwq6, ← hbm]; exact heap_size_alloc _ _
    replace HS := Lib.hid (HS.out.step (w' := wq6) (by rw [← hwq6]; exact Mod.alloc _ _ _))
    replace HS := Lib.hid ((Ev.blk hBbm).and HS.out)
    try rw [hwq6]
    try rw [hbm]
    clear hzbm hBbm hbm hwq6
    clear qbe_0 qbe_1 qbe_2 lbe qbn_0 qbn_1 lbn
    have hbbe := (HS.out.now).2.2.1
    have qbe_0 := hbbe.cell 0 rfl
    have qbe_1 := hbbe.cell 1 rfl
    have qbe_2 := hbbe.cell 2 rfl
    have lbe := hbbe.lt
    clear hbbe
    have hbbn := (HS.out.now).2.1
    have qbn_0 := hbbn.cell 0 rfl
    have qbn_1 := hbbn.cell 1 rfl
    have lbn := hbbn.lt
    clear hbbn
    have hbbm := (HS.out.now).1
    have qbm_0 := hbbm.cell 0 rfl
    have qbm_1 := hbbm.cell 1 rfl
    have lbm := hbbm.lt
    clear hbbm
    go_upto_region 6 with fail
    clear qbe_0 qbe_1 qbe_2 lbe qbn_0 qbn_1 lbn qbm_0 qbm_1 lbm
    have HSd := Lib.hid HS.out.drew
    refine wp_region_inv3 (act := ?actgw_r6_0) (Mod (fun _ => False)) (fun i => (gw_r6_0_F bn bm u0 u1 v0 v1).getD i (fun _ _ => True)) (fun i => gw_r6_0_D.getD i []) (by kernel_rfl) (by kernel_rfl) (by kernel_rfl) (by kernel_rfl) (fun _ => Mod.refl _ _)
      (fun _ _ _ h k => h.trans k (fun _ _ e => e) (fun _ _ e => e)) ?hactgw_r6_0 (stable_list ?_) ?_ ?_
    case hactgw_r6_0 => intro vs; simp only [putAll, Nat.zero_add, Nat.reduceAdd, Act.put, List.setIfInBounds_toArray, List.set_cons_succ, List.set_cons_zero]; exact rfl
    · unfold gw_r6_0_F
      exact stable_cons (stable_val _) <| stable_cons (stable_val _) <| stable_cons (stable_val _) <| stable_cons (stable_val _) <| stable_cons (stable_val _) <| stable_cons (stable_val _) <| stable_cons (stable_val _) <| stable_cons (stable_val _) <| stable_cons (stable_val _) <| stable_cons (stable_val _) <| stable_cons (stable_val _) <| stable_cons (stable_val _) <| stable_nil
    · refine opsOkA_cons ?_ ?_
      · intro K vs W hR hD hK
        clear hD
        try dsimp only at hK ⊢
        simp only [Act.put, List.setIfInBounds_toArray, List.set_cons_succ, List.set_cons_zero] at hK
        go_wp2
        exact hK _ _ rfl (Mod.refl _ _)
      refine opsOkA_cons ?_ ?_
      · intro K vs W hR hD hK
        have dq0 : vs 0 = .pointer (some ⟨bm, 0, none⟩) := hD 0 (by decide)
        clear hD
        try dsimp only at hK ⊢
        simp only [Act.put, List.setIfInBounds_toArray, List.set_cons_succ, List.set_cons_zero] at hK
        generalize vs 0 = vq0 at hK dq0 ⊢
        subst vq0
        have q0 := ((HSd.out.at (hR)).1).cell 0 rfl
        go_wp2
        exact hK _ _ rfl (Mod.refl _ _)
      refine opsOkA_cons ?_ ?_
      · intro K vs W hR hD hK
        clear hD
        try dsimp only at hK ⊢
        simp only [Act.put, List.setIfInBounds_toArray, List.set_cons_succ, List.set_cons_zero] at hK
        go_wp2
        exact hK _ _ rfl (Mod.refl _ _)
      refine opsOkA_cons ?_ ?_
      · intro K vs W hR hD hK
        have dq2 : vs 2 = .pointer (some ⟨bn, 0, none⟩) := hD 2 (by decide)
        clear hD
        try dsimp only at hK ⊢
        simp only [Act.put, List.setIfInBounds_toArray, List.set_cons_succ, List.set_cons_zero] at hK
        generalize vs 2 = vq2 at hK dq2 ⊢
        subst vq2
        have q0 := ((HSd.out.at (hR)).2.1).cell 0 rfl
        go_wp2
        exact hK _ _ rfl (Mod.refl _ _)
      refine opsOkA_cons ?_ ?_
      · intro K vs W hR hD hK
        have dq1 : vs 1 = .int .i64 v0 := hD 1 (by decide)
        have dq3 : vs 3 = .int .i64 u0 := hD 3 (by decide)
        clear hD
        try dsimp only at hK ⊢
        simp only [Act.put, List.setIfInBounds_toArray, List.set_cons_succ, List.set_cons_zero] at hK
        generalize vs 1 = vq1 at hK dq1 ⊢
        subst vq1
        generalize vs 3 = vq3 at hK dq3 ⊢
        subst vq3
        go_wp2
        exact hK _ _ rfl (Mod.refl _ _)
      refine opsOkA_cons ?_ ?_
      · intro K vs W hR hD hK
        clear hD
        try dsimp only at hK ⊢
        simp only [Act.put, List.setIfInBounds_toArray, List.set_cons_succ, List.set_cons_zero] at hK
        go_wp2
        exact hK _ _ rfl (Mod.refl _ _)
      refine opsOkA_cons ?_ ?_
      · intro K vs W hR hD hK
        have dq5 : vs 5 = .pointer (some ⟨bm, 1, none⟩) := hD 5 (by decide)
        clear hD
        try dsimp only at hK ⊢
        simp only [Act.put, List.setIfInBounds_toArray, List.set_cons_succ, List.set_cons_zero] at hK
        generalize vs 5 = vq5 at hK dq5 ⊢
        subst vq5
        have q0 := ((HSd.out.at (hR)).1).cell 1 rfl
        go_wp2
        exact hK _ _ rfl (Mod.refl _ _)
      refine opsOkA_cons ?_ ?_
      · intro K vs W hR hD hK
        clear hD
        try dsimp only at hK ⊢
        simp only [Act.put, List.setIfInBounds_toArray, List.set_cons_succ, List.set_cons_zero] at hK
        go_wp2
        exact hK _ _ rfl (Mod.refl _ _)
      refine opsOkA_cons ?_ ?_
      · intro K vs W hR hD hK
        have dq7 : vs 7 = .pointer (some ⟨bn, 1, none⟩) := hD 7 (by decide)
        clear hD
        try dsimp only at hK ⊢
        simp only [Act.put, List.setIfInBounds_toArray, List.set_cons_succ, List.set_cons_zero] at hK
        generalize vs 7 = vq7 at hK dq7 ⊢
        subst vq7
        have q0 := ((HSd.out.at (hR)).2.1).cell 1 rfl
        go_wp2
        exact hK _ _ rfl (Mod.refl _ _)
      refine opsOkA_cons ?_ ?_
      · intro K vs W hR hD hK
        have dq6 : vs 6 = .int .i64 v1 := hD 6 (by decide)
        have dq8 : vs 8 = .int .i64 u1 := hD 8 (by decide)
        clear hD
        try dsimp only at hK ⊢
        simp only [Act.put, List.setIfInBounds_toArray, List.set_cons_succ, List.set_cons_zero] at hK
        generalize vs 6 = vq6 at hK dq6 ⊢
        subst vq6
        generalize vs 8 = vq8 at hK dq8 ⊢
        subst vq8
        go_wp2
        exact hK _ _ rfl (Mod.refl _ _)
      refine opsOkA_cons ?_ ?_
      · intro K vs W hR hD hK
        have dq4 : vs 4 = .int .i64 (v0 - u0) := hD 4 (by decide)
        clear hD
        try dsimp only at hK ⊢
        simp only [Act.put, List.setIfInBounds_toArray, List.set_cons_succ, List.set_cons_zero] at hK
        generalize vs 4 = vq4 at hK dq4 ⊢
        subst vq4
        go_wp2
        exact hK _ _ rfl (Mod.refl _ _)
      refine opsOkA_cons ?_ ?_
      · intro K vs W hR hD hK
        have dq9 : vs 9 = .int .i64 (v1 - u1) := hD 9 (by decide)
        clear hD
        try dsimp only at hK ⊢
        simp only [Act.put, List.setIfInBounds_toArray, List.set_cons_succ, List.set_cons_zero] at hK
        generalize vs 9 = vq9 at hK dq9 ⊢
        subst vq9
        go_wp2
        exact hK _ _ rfl (Mod.refl _ _)
      exact opsOkA_nil
    · intro vs wq7 hR hF
      have dq10 : vs 10 = .int .i64 (v0 - u0) := hF 10 (by decide)
      have dq11 : vs 11 = .int .i64 (v1 - u1) := hF 11 (by decide)
      clear hF
      try dsimp only
      generalize vs 10 = vq10 at dq10 ⊢
      subst dq10
      generalize vs 11 = vq11 at dq11 ⊢
      subst dq11
      replace HS := Lib.hid (HSd.out.step hR)
      clear HSd hR
      have hbbe := (HS.out.now).2.2.1
      have qbe_0 := hbbe.cell 0 rfl
      have qbe_1 := hbbe.cell 1 rfl
      have qbe_2 := hbbe.cell 2 rfl
      have lbe := hbbe.lt
      clear hbbe
      have hbbn := (HS.out.now).2.1
      have qbn_0 := hbbn.cell 0 rfl
      have qbn_1 := hbbn.cell 1 rfl
      have lbn := hbbn.lt
      clear hbbn
      have hbbm := (HS.out.now).1
      have qbm_0 := hbbm.cell 0 rfl
      have qbm_1 := hbbm.cell 1 rfl
      have lbm := hbbm.lt
      clear hbbm
      go_wp2_with fail
      go_ret2
      refine ⟨?_, (HS.out.now).2.2.2.2⟩
      unfold vecX vecY
      rw [if_pos HXE.out, if_pos HXE.out, Hx0.out, Hy0.out, Hu0.out, Hu1.out, Hv0.out, Hv1.out]
      rfl
  case neg =>
    have HXE := Lib.hid hv
    clear hv
    go_enter Try.func57, Try.ntmps57
    go_wp2_with fail
    refine (edge_any p B C _ G ((HS.out.now).1) v).mono ?_
    rintro e wq8 ⟨rfl, hmm⟩
    replace HS := Lib.hid (HS.out.step hmm)
    clear hmm
    rw [if_neg HXE.out, decide_eq_false HXE.out]
    go_wp2_with fail
    go_ret2
    refine ⟨?_, ((HS.out.now).2).thenAlloc _⟩
    unfold vecX vecY
    rw [if_neg HXE.out, if_neg HXE.out]
    rfl

set_option maxHeartbeats 4000000 in
theorem bof_any (p B C : Nat) (G : GD) (hmay : May G) (w : World) (h : GO w p B C G) (va vb : Int) :
    Calls Try.prog 22 #[.pointer (some ⟨p, 0, none⟩), .int .i64 va, .int .i64 vb] w fun e w' => e = .returned (.int .i64 (bendG G va vb)) ∧ Mod (fun _ => False) w w' := by
  have HS : Hid (Ev (Mod (fun _ => False) w) w) := Lib.hid (Ev.mod w)
  replace HS := Lib.hid ((Ev.go h).and HS.out)
  clear h
  go_enter Try.func22, Try.ntmps22
  go_wp2_with fail
  refine (bway_any p B C G hmay _ ((HS.out.now).1) va).mono ?_
  rintro e wq1 ⟨rfl, hmm⟩
  replace HS := Lib.hid (HS.out.step hmm)
  clear hmm
  go_wp2_with fail
  refine (bway_any p B C G hmay _ ((HS.out.now).1) vb).mono ?_
  rintro e wq2 ⟨rfl, hmm⟩
  replace HS := Lib.hid (HS.out.step hmm)
  clear hmm
  go_wp2_with fail
  refine (class_any _ _ _ _ _).mono ?_
  rintro e w' ⟨rfl, rfl⟩
  go_wp2_with fail
  go_ret
  exact ⟨rfl, (HS.out.now).2⟩

set_option maxHeartbeats 4000000 in
theorem gdec_any (t p B C : Nat) (G : GD) (w : World) (h : TO w t p B C G) (v : Int) :
    Calls Try.prog 82 #[.pointer (some ⟨t, 0, none⟩), .int .i64 v] w fun e w' => e = .returned (.bool (decB G v)) ∧ Mod (fun _ => False) w w' := by
  have HS : Hid (Ev (Mod (fun _ => False) w) w) := Lib.hid (Ev.mod w)
  replace HS := Lib.hid ((Ev.to h).and HS.out)
  clear h
  go_enter Try.func82, Try.ntmps82
  go_wp2_with fail
  refine (next_any t p B C G _ ((HS.out.now).1) v).mono ?_
  rintro e wq1 ⟨v', rfl, ⟨an, cn, rfl, hx'⟩, hmm⟩
  replace HS := Lib.hid (HS.out.step hmm)
  clear hmm
  go_wp2_with fail
  go_ret
  exact ⟨rfl, (HS.out.now).2⟩

set_option maxHeartbeats 4000000 in
theorem gwof_any (t p B C : Nat) (G : GD) (w : World) (h : TO w t p B C G) (v : Int) :
    Calls Try.prog 63 #[.pointer (some ⟨t, 0, none⟩), .int .i64 v] w fun e w' => e = .returned (.int .i64 (wtE G v)) ∧ Mod (fun _ => False) w w' := by
  have HS : Hid (Ev (Mod (fun _ => False) w) w) := Lib.hid (Ev.mod w)
  replace HS := Lib.hid ((Ev.to h).and HS.out)
  have qt := h.blk.cell 0 rfl
  have lt := h.blk.lt
  clear h
  obtain ⟨x0, Hx00⟩ : ∃ qz, (edv G v).1 = qz := ⟨_, rfl⟩
  have Hx0 := Lib.hid Hx00
  clear Hx00
  obtain ⟨y0, Hy00⟩ : ∃ qz, (edv G v).2.1 = qz := ⟨_, rfl⟩
  have Hy0 := Lib.hid Hy00
  clear Hy00
  obtain ⟨z0v, Hz0v0⟩ : ∃ qz, (edv G v).2.2 = qz := ⟨_, rfl⟩
  have Hz0v := Lib.hid Hz0v0
  clear Hz0v0
  go_enter Try.func63, Try.ntmps63
  go_wp2_with fail
  refine (edge_any p B C _ G ((HS.out.now).1).go v).mono ?_
  rintro e wq1 ⟨rfl, hmm⟩
  replace HS := Lib.hid (HS.out.step hmm)
  clear hmm
  rw [show (if 0 ≤ v ∧ v < (G.E.length : Int) then eAt G v else (0, 0, 0)) = edv G v from rfl, Hx0.out, Hy0.out, Hz0v.out]
  clear qt lt
  go_upto_region 2 with fail
  obtain ⟨be, hbe⟩ : ∃ b, wq1.heap.size = b := ⟨_, rfl⟩
  obtain ⟨wq2, hwq2⟩ : ∃ W, World.alloc wq1 (.cells #[.int .i64 x0, .int .i64 y0, .int .i64 z0v] 41) = W := ⟨_, rfl⟩
  have hBbe : Blk wq2 be 41 [.int .i64 x0, .int .i64 y0, .int .i64 z0v] := by rw [← hwq2, ← hbe]; exact Blk.new _ 41 [.int .i64 x0, .int .i64 y0, .int .i64 z0v]
  have hzbe : wq2.heap.size = be + 1 := by rw [← hwq2, ← hbe]; exact heap_size_alloc _ _
  replace HS := Lib.hid (HS.out.step (w' := wq2) (by rw [← hwq2]; exact Mod.alloc _ _ _))
  replace HS := Lib.hid ((Ev.blk hBbe).and HS.out)
  try rw [hwq2]
  try rw [hbe]
  clear hzbe hBbe hbe hwq2
  have hbbe := (HS.out.now).1
  have qbe_0 := hbbe.cell 0 rfl
  have qbe_1 := hbbe.cell 1 rfl
  have qbe_2 := hbbe.cell 2 rfl
  have lbe := hbbe.lt
  clear hbbe
  go_wp2_with fail
  go_ret
  exact ⟨by rw [← Hz0v.out]; rfl, (HS.out.now).2.2⟩

set_option maxHeartbeats 16000000 in
theorem gnext_any (t p B C : Nat) (G : GD) (hmay : May G) (w : World) (h : TO w t p B C G) (f00 : Int) (a : Option Addr) (n c : Nat) (xs : List Int) (hn : xs.length = n) (hr : Rd w 1 (.slice a n c) n (xs.map (Value.int .i64))) (hb : n ≤ 100000) (W0 : Int) :
    Calls Try.prog 61 #[.pointer (some ⟨t, 0, none⟩), .int .i64 f00, .slice a n c, .int .i64 W0] w fun e w' => e = .returned (.tuple #[hintV (nextL G W0 f00 xs 0 0).1, .int .i64 ((nextL G W0 f00 xs 0 0).2 : Nat)]) ∧ Mod (fun _ => False) w w' := by
  obtain ⟨iI, hiI, hzI, hsI, hbI⟩ := info_parts GR.infoI
  have HN := Lib.hid hn
  have HMAY := Lib.hid hmay
  clear hn hmay
  have HS : Hid (Ev (Mod (fun _ => False) w) w) := Lib.hid (Ev.mod w)
  replace HS := Lib.hid ((Ev.to h).and HS.out)
  replace HS := Lib.hid ((Ev.rd hr).and HS.out)
  clear h hr
  go_enter Try.func61, Try.ntmps61
  go_upto_region 1 with fail
  obtain ⟨bh, hbh⟩ : ∃ b, w.heap.size = b := ⟨_, rfl⟩
  obtain ⟨wq1, hwq1⟩ : ∃ W, World.alloc w (.cells #[.int .i64 0, .int .i64 0, .int .i64 0, .int .i64 0] 56) = W := ⟨_, rfl⟩
  have hBbh : Blk wq1 bh 56 [.int .i64 0, .int .i64 0, .int .i64 0, .int .i64 0] := by rw [← hwq1, ← hbh]; exact Blk.new _ 56 [.int .i64 0, .int .i64 0, .int .i64 0, .int .i64 0]
  have hzbh : wq1.heap.size = bh + 1 := by rw [← hwq1, ← hbh]; exact heap_size_alloc _ _
  replace HS := Lib.hid (HS.out.step (w' := wq1) (by rw [← hwq1]; exact Mod.alloc _ _ _))
  replace HS := Lib.hid ((Ev.blk hBbh).and HS.out)
  have lbz : w.heap.size ≤ bh := by omega
  try rw [hwq1]
  try rw [hbh]
  clear hzbh hBbh hbh hwq1
  go_wp2_with fail
  replace HS := Lib.hid ((Ev.mod wq1).and HS.out)
  go_loopw [1, 10, 15] (fun f s i wr => ∃ (k : Nat) (f0 far : Int), k ≤ n ∧ i = .int .i64 k ∧ f = .int .i64 f0 ∧ s = .int .i64 far ∧ nextL G W0 f00 xs 0 0 = nextL G W0 f0 (xs.drop k) far k ∧ (0 ≤ far ∧ far ≤ 65535 * (k : Int)) ∧ Mod (fun _ => False) wq1 wr) (fun f s i _ => n - (intOf i).toNat)
  case atStart => exact ⟨0, f00, 0, by omega, rfl, rfl, rfl, rfl, ⟨by omega, by omega⟩, Mod.refl _ _⟩
  case round =>
    obtain ⟨k, f0, far, hk, rfl, rfl, rfl, hs, hfb, hmr⟩ := hrel
    obtain ⟨wo, hwo⟩ : ∃ x : World, x = wr := ⟨_, rfl⟩
    subst hwo
    replace HS := Lib.hid (HS.out.step hmr)
    clear hmr
    have HSUM := Lib.hid hs
    have hf1 := hfb.1
    have hf2 := hfb.2
    clear hs hfb
    by_cases hlt : k < n
    case pos =>
      have hkl : k < xs.length := by rw [HN.out]; exact hlt
      have HA := Lib.hid (nextL_at G W0 f0 xs k far hkl)
      have HO := Lib.hid (nextL_on G W0 f0 xs k far hkl)
      obtain ⟨x, HX0⟩ : ∃ qz, xs[k] = qz := ⟨_, rfl⟩
      have HX := Lib.hid HX0
      clear HX0
      rw [HX.out] at HA HO
      obtain ⟨eb, eo, hpl, e0⟩ := rd1 (HS.out.now).2.2.1 k hkl
      have hix := fun wx => run_indexS (P := Try.prog) wx 22 3 iI 1 Try.underlying22 hiI hsI a n c k hlt ((HS.out.now).2.2.1.some_ (by have := hlt; omega))
      rw [hpl] at hix
      have HIe := Lib.hid hix
      clear hix hpl
      rw [HX.out] at e0
      replace HS := Lib.hid ((Ev.cell e0).and HS.out)
      clear e0
      have qe := (HS.out.now).1
      have hix := HIe.out
      have z0 : decide ((k : Int) < (n : Int)) = true := by simp; omega
      obtain ⟨db, hdb⟩ : ∃ b, decB G f0 = b := ⟨_, rfl⟩
      have HDB := Lib.hid hdb
      clear hdb
      go_wp2_with fail
      refine (gdec_any t p B C G _ ((HS.out.now).2.2.2.2.1) f0).mono ?_
      rintro e wq2 ⟨rfl, hmm⟩
      replace HS := Lib.hid (HS.out.step hmm)
      clear hmm
      rw [HDB.out]
      clear qe hix
      cases db with
      | true =>
        have qt := ((HS.out.now).2.2.2.2.1).blk.cell 0 rfl
        have lt := ((HS.out.now).2.2.2.2.1).blk.lt
        go_wp2_with fail
        refine (bof_any p B C G HMAY.out _ ((HS.out.now).2.2.2.2.1).go f0 x).mono ?_
        rintro e wq3 ⟨rfl, hmm⟩
        replace HS := Lib.hid (HS.out.step hmm)
        clear hmm
        clear qt lt
        have hB := (HS.out.now).2.2.1
        have qb0 := hB.cell 0 rfl
        have qb1 := hB.cell 1 rfl
        have qb2 := hB.cell 2 rfl
        have qb3 := hB.cell 3 rfl
        have fb0 := hB.free 0
        have fb1 := hB.free 1
        have fb2 := hB.free 2
        have fb3 := hB.free 3
        have lb := hB.lt
        clear hB
        go_wp2_with fail
        have b2 := ((((((HS.out.now).2.2.1).set 0 (.int .i64 (bendG G f0 x))).set 1 (.int .i64 x)).set 2 (.int .i64 far)).set 3 (.int .i64 W0))
        have hm2 := ((((Mod.refl (fun k => k = bh) wq3).ofFx (Mod.setCell (F := fun k => k = bh) _ ⟨bh, 0, none⟩ (.int .i64 (bendG G f0 x)) rfl)).ofFx (Mod.setCell (F := fun k => k = bh) _ ⟨bh, 1, none⟩ (.int .i64 x) rfl)).ofFx (Mod.setCell (F := fun k => k = bh) _ ⟨bh, 2, none⟩ (.int .i64 far) rfl)).ofFx (Mod.setCell (F := fun k => k = bh) _ ⟨bh, 3, none⟩ (.int .i64 W0) rfl)
        (try simp only [Exit.inBlock, Exit.then])
        refine bodyPost_ret (results_row_tmp rfl _ _ bh 56 #[.int .i64 (bendG G f0 x), .int .i64 x, .int .i64 far, .int .i64 W0] (0, 0) _ rfl b2 Try.underlying56 rfl (by kernel_rfl)) rfl ?_
        exact ⟨by rw [HSUM.out, HA.out HDB.out]; rfl, ((HS.out.now).2.2.2.2.2).old hm2 (fun i hi => by subst hi; exact lbz)⟩
      | false =>
        have hwl := wtE_le G HMAY.out x
        obtain ⟨wx, HW0⟩ : ∃ qz, wtE G x = qz := ⟨_, rfl⟩
        have HW := Lib.hid HW0
        clear HW0
        rw [HW.out] at hwl
        have hw1 := hwl.1
        have hw2 := hwl.2
        clear hwl
        go_wp2_with fail
        refine (gwof_any t p B C G _ ((HS.out.now).2.2.2.2.1) x).mono ?_
        rintro e wq4 ⟨rfl, hmm⟩
        replace HS := Lib.hid (HS.out.step hmm)
        clear hmm
        rw [HW.out]
        go_wp2_with fail
        go_roundw
        case rel => exact ⟨k + 1, x, far + wx, hlt, by go_num, rfl, by go_num, by rw [HSUM.out, HO.out HDB.out, HW.out], ⟨by omega, by omega⟩, (HS.out.now).2.1⟩
        case measure => simp [intOf]; omega
    case neg =>
      obtain rfl : k = n := by omega
      have z0 : decide ((k : Int) < (k : Int)) = false := by simp
      have hB := (HS.out.now).2.1
      have qb0 := hB.cell 0 rfl
      have qb1 := hB.cell 1 rfl
      have qb2 := hB.cell 2 rfl
      have qb3 := hB.cell 3 rfl
      have fb0 := hB.free 0
      have fb1 := hB.free 1
      have fb2 := hB.free 2
      have fb3 := hB.free 3
      have lb := hB.lt
      clear hB
      go_wp2_with fail
      have b2 := ((((((HS.out.now).2.1).set 0 (.int .i64 9)).set 1 (.int .i64 (-1))).set 2 (.int .i64 far)).set 3 (.int .i64 W0))
      have hm2 := ((((Mod.refl (fun k => k = bh) wo).ofFx (Mod.setCell (F := fun k => k = bh) _ ⟨bh, 0, none⟩ (.int .i64 9) rfl)).ofFx (Mod.setCell (F := fun k => k = bh) _ ⟨bh, 1, none⟩ (.int .i64 (-1)) rfl)).ofFx (Mod.setCell (F := fun k => k = bh) _ ⟨bh, 2, none⟩ (.int .i64 far) rfl)).ofFx (Mod.setCell (F := fun k => k = bh) _ ⟨bh, 3, none⟩ (.int .i64 W0) rfl)
      (try simp only [Exit.inBlock, Exit.then])
      refine bodyPost_ret (results_row_tmp rfl _ _ bh 56 #[.int .i64 9, .int .i64 (-1), .int .i64 far, .int .i64 W0] (0, 0) _ rfl b2 Try.underlying56 rfl (by kernel_rfl)) rfl ?_
      have hend := nextL_end G W0 f0 xs far
      rw [HN.out] at hend
      exact ⟨by rw [HSUM.out, hend]; rfl, ((HS.out.now).2.2.2.2).old hm2 (fun i hi => by subst hi; exact lbz)⟩

set_option maxHeartbeats 16000000 in
theorem ghint_any (t p B C : Nat) (G : GD) (hmay : May G) (w : World) (h : TO w t p B C G) (f : Int) (a : Option Addr) (n c : Nat) (xs : List Int) (hn : xs.length = n) (hr : Rd w 1 (.slice a n c) n (xs.map (Value.int .i64))) (hb : n ≤ 100000) :
    Calls Try.prog 29 #[.pointer (some ⟨t, 0, none⟩), .int .i64 f, .slice a n c] w fun e w' => e = .returned (.tuple #[hintV (if validB G f xs = true then (nextL G (wtN G xs) f xs 0 0).1 else (0, 0, 0, 0)), .bool (validB G f xs)]) ∧ Mod (fun _ => False) w w' := by
  have HN := Lib.hid hn
  have HMAY := Lib.hid hmay
  clear hn hmay
  have HS : Hid (Ev (Mod (fun _ => False) w) w) := Lib.hid (Ev.mod w)
  replace HS := Lib.hid ((Ev.to h).and HS.out)
  replace HS := Lib.hid ((Ev.rd hr).and HS.out)
  clear h hr
  obtain ⟨vb, hvb⟩ : ∃ b, validB G f xs = b := ⟨_, rfl⟩
  rw [hvb]
  have HVB := Lib.hid hvb
  clear hvb
  obtain ⟨W0, hW0⟩ : ∃ x, wtN G xs = x := ⟨_, rfl⟩
  rw [hW0]
  have HW0 := Lib.hid hW0
  clear hW0
  go_enter Try.func29, Try.ntmps29
  go_upto_region 1 with fail
  obtain ⟨bh, hbh⟩ : ∃ b, w.heap.size = b := ⟨_, rfl⟩
  obtain ⟨wq1, hwq1⟩ : ∃ W, World.alloc w (.cells #[.int .i64 0, .int .i64 0, .int .i64 0, .int .i64 0] 56) = W := ⟨_, rfl⟩
  have hBbh : Blk wq1 bh 56 [.int .i64 0, .int .i64 0, .int .i64 0, .int .i64 0] := by rw [← hwq1, ← hbh]; exact Blk.new _ 56 [.int .i64 0, .int .i64 0, .int .i64 0, .int .i64 0]
  have hzbh : wq1.heap.size = bh + 1 := by rw [← hwq1, ← hbh]; exact heap_size_alloc _ _
  replace HS := Lib.hid (HS.out.step (w' := wq1) (by rw [← hwq1]; exact Mod.alloc _ _ _))
  replace HS := Lib.hid ((Ev.blk hBbh).and HS.out)
  have lbz : w.heap.size ≤ bh := by omega
  try rw [hwq1]
  try rw [hbh]
  clear hzbh hBbh hbh hwq1
  go_wp2_with fail
  refine (wvalid_any t p B C G _ ((HS.out.now).2.2.1) f a n c xs HN.out ((HS.out.now).2.1) hb).mono ?_
  rintro e wq2 ⟨rfl, hmm⟩
  replace HS := Lib.hid (HS.out.step hmm)
  clear hmm
  rw [HVB.out]
  cases vb with
  | false =>
    have hB := (HS.out.now).1
    have qb0 := hB.cell 0 rfl
    have qb1 := hB.cell 1 rfl
    have qb2 := hB.cell 2 rfl
    have qb3 := hB.cell 3 rfl
    have fb0 := hB.free 0
    have fb1 := hB.free 1
    have fb2 := hB.free 2
    have fb3 := hB.free 3
    have lb := hB.lt
    clear hB
    go_wp2_with fail
    have b2 := ((((((HS.out.now).1).set 0 (.int .i64 0)).set 1 (.int .i64 0)).set 2 (.int .i64 0)).set 3 (.int .i64 0))
    have hm2 := ((((Mod.refl (fun k => k = bh) wq2).ofFx (Mod.setCell (F := fun k => k = bh) _ ⟨bh, 0, none⟩ (.int .i64 0) rfl)).ofFx (Mod.setCell (F := fun k => k = bh) _ ⟨bh, 1, none⟩ (.int .i64 0) rfl)).ofFx (Mod.setCell (F := fun k => k = bh) _ ⟨bh, 2, none⟩ (.int .i64 0) rfl)).ofFx (Mod.setCell (F := fun k => k = bh) _ ⟨bh, 3, none⟩ (.int .i64 0) rfl)
    (try simp only [Exit.inBlock, Exit.then])
    refine bodyPost_ret (results_row_tmp rfl _ _ bh 56 #[.int .i64 0, .int .i64 0, .int .i64 0, .int .i64 0] (0, 0) _ rfl b2 Try.underlying56 rfl (by kernel_rfl)) rfl ?_
    exact ⟨rfl, ((HS.out.now).2.2.2).old hm2 (fun i hi => by subst hi; exact lbz)⟩
  | true =>
    go_wp2_with fail
    refine (wweight_any t p B C G HMAY.out _ ((HS.out.now).2.2.1) a n c xs HN.out ((HS.out.now).2.1) hb).mono ?_
    rintro e wq3 ⟨rfl, hmm⟩
    replace HS := Lib.hid (HS.out.step hmm)
    clear hmm
    rw [HW0.out]
    obtain ⟨h4, hh4⟩ : ∃ x, (nextL G W0 f xs 0 0).1 = x := ⟨_, rfl⟩
    have HH := Lib.hid hh4
    clear hh4
    go_wp2_with fail
    refine (gnext_any t p B C G HMAY.out _ ((HS.out.now).2.2.1) f a n c xs HN.out ((HS.out.now).2.1) hb W0).mono ?_
    rintro e wq4 ⟨rfl, hmm⟩
    replace HS := Lib.hid (HS.out.step hmm)
    clear hmm
    rw [HH.out]
    unfold hintV
    obtain ⟨c1, c2, c3, c4⟩ := h4
    simp only []
    go_upto_region 5 with fail
    obtain ⟨bk, hbk⟩ : ∃ b, wq4.heap.size = b := ⟨_, rfl⟩
    obtain ⟨wq5, hwq5⟩ : ∃ W, World.alloc wq4 (.cells #[.int .i64 c1, .int .i64 c2, .int .i64 c3, .int .i64 c4] 56) = W := ⟨_, rfl⟩
    have hBbk : Blk wq5 bk 56 [.int .i64 c1, .int .i64 c2, .int .i64 c3, .int .i64 c4] := by rw [← hwq5, ← hbk]; exact Blk.new _ 56 [.int .i64 c1, .int .i64 c2, .int .i64 c3, .int .i64 c4]
    have hzbk : wq5.heap.size = bk + 1 := by rw [← hwq5, ← hbk]; exact heap_size_alloc _ _
    replace HS := Lib.hid (HS.out.step (w' := wq5) (by rw [← hwq5]; exact Mod.alloc _ _ _))
    replace HS := Lib.hid ((Ev.blk hBbk).and HS.out)
    try rw [hwq5]
    try rw [hbk]
    clear hzbk hBbk hbk hwq5
    have hbbk := (HS.out.now).1
    have qbk_0 := hbbk.cell 0 rfl
    have qbk_1 := hbbk.cell 1 rfl
    have qbk_2 := hbbk.cell 2 rfl
    have qbk_3 := hbbk.cell 3 rfl
    have lbk := hbbk.lt
    clear hbbk
    have hB := (HS.out.now).2.1
    have qb0 := hB.cell 0 rfl
    have qb1 := hB.cell 1 rfl
    have qb2 := hB.cell 2 rfl
    have qb3 := hB.cell 3 rfl
    have fb0 := hB.free 0
    have fb1 := hB.free 1
    have fb2 := hB.free 2
    have fb3 := hB.free 3
    have lb := hB.lt
    clear hB
    go_wp2_with fail
    have b2 := ((((((HS.out.now).2.1).set 0 (.int .i64 c1)).set 1 (.int .i64 c2)).set 2 (.int .i64 c3)).set 3 (.int .i64 c4))
    have hm2 := ((((Mod.refl (fun k => k = bh) wq5).ofFx (Mod.setCell (F := fun k => k = bh) _ ⟨bh, 0, none⟩ (.int .i64 c1) rfl)).ofFx (Mod.setCell (F := fun k => k = bh) _ ⟨bh, 1, none⟩ (.int .i64 c2) rfl)).ofFx (Mod.setCell (F := fun k => k = bh) _ ⟨bh, 2, none⟩ (.int .i64 c3) rfl)).ofFx (Mod.setCell (F := fun k => k = bh) _ ⟨bh, 3, none⟩ (.int .i64 c4) rfl)
    (try simp only [Exit.inBlock, Exit.then])
    refine bodyPost_ret (results_row_tmp rfl _ _ bh 56 #[.int .i64 c1, .int .i64 c2, .int .i64 c3, .int .i64 c4] (0, 0) _ rfl b2 Try.underlying56 rfl (by kernel_rfl)) rfl ?_
    exact ⟨by rw [HH.out]; rfl, ((HS.out.now).2.2.2.2).old hm2 (fun i hi => by subst hi; exact lbz)⟩
end Go.Proofs.Ytagmnkobigecnaa
namespace Go.Proofs.Ytagmnkobigecnaa
open Go.RowKit Mile
set_option maxRecDepth 100000
theorem infoHi : (Try.prog.info? 56).map (fun i => (i.zero, i.size, i.bytes)) = some (some (.agg #[.int .i64 0, .int .i64 0, .int .i64 0, .int .i64 0]), 4, 32) := by kernel_rfl
/-- What each operation of the statement leaves. -/
def ga_r7_0_F (bh : Nat) (t : Nat) (g : Nat) (lc : Nat) (kl : Nat) (W1 : Int) (c2 : Int) (c3 : Int) (wg : Int) (la : Option Addr) : List FactP :=
  [(true, fun _ => IsV (.pointer (some ⟨bh, 1, none⟩))),
   (true, fun _ => IsV (.int .i64 c2)),
   (true, fun _ => IsV (.slice la kl lc)),
   (true, fun _ => IsV (.int .i64 (g : Int))),
   (true, fun _ => IsV (.slice (dropA la lc g 1) (kl - g) (lc - g))),
   (true, fun _ => IsV (.int .i64 W1)),
   (true, fun _ => IsV (.pointer (some ⟨bh, 2, none⟩))),
   (true, fun _ => IsV (.int .i64 c3)),
   (true, fun _ => IsV (.int .i64 (W1 - c3))),
   (true, fun _ => IsV (.pointer (some ⟨t, 0, none⟩))),
   (true, fun _ => IsV (.pointer (some ⟨bh, 1, none⟩))),
   (true, fun _ => IsV (.int .i64 c2)),
   (true, fun _ => IsV (.int .i64 wg)),
   (true, fun _ => IsV (.int .i64 ((W1 - c3) - wg))),
   (true, fun _ => IsV (.int .i64 c2)),
   (true, fun _ => IsV (.slice (dropA la lc g 1) (kl - g) (lc - g)))]
def ga_r7_0_D : List (List Nat) := [[], [0], [], [], [2, 3], [], [], [6], [5, 7], [], [], [10], [9, 11], [8, 12], [1], [4]]
def ga_r7_0_C : List Nat := [1000, 1000, 1000, 1000, 1000, 1000, 1000, 1000, 1000, 1000, 1000, 1000, 1000, 1000, 1000, 1000]

set_option maxHeartbeats 32000000 in
theorem gall_any (t p B C : Nat) (G : GD) (hmay : May G) (w : World) (h : TO w t p B C G) (f : Int) (a : Option Addr) (n c : Nat) (xs : List Int) (hn : xs.length = n) (hr : Rd w 1 (.slice a n c) n (xs.map (Value.int .i64))) (hb : n ≤ 100000) :
    Calls Try.prog 32 #[.pointer (some ⟨t, 0, none⟩), .int .i64 f, .slice a n c] w fun e w' => ∃ v, e = .returned v ∧ HRow (if validB G f xs = true then hintsL G (n + 1) f xs (wtN G xs) else []) v w' ∧ Mod (fun _ => False) w w' := by
  obtain ⟨iI, hiI, hzI, hsI, hbI⟩ := info_parts GR.infoI
  obtain ⟨iH, hiH, hzH, hsH, hbH⟩ := info_parts infoHi
  have HN := Lib.hid hn
  have HMAY := Lib.hid hmay
  clear hn hmay
  have HS : Hid (Ev (Mod (fun _ => False) w) w) := Lib.hid (Ev.mod w)
  replace HS := Lib.hid ((Ev.to h).and HS.out)
  replace HS := Lib.hid ((Ev.rd hr).and HS.out)
  clear h hr
  obtain ⟨vb, hvb⟩ : ∃ b, validB G f xs = b := ⟨_, rfl⟩
  rw [hvb]
  have HVB := Lib.hid hvb
  clear hvb
  obtain ⟨W0, hW0⟩ : ∃ x, wtN G xs = x := ⟨_, rfl⟩
  rw [hW0]
  have HW0 := Lib.hid hW0
  clear hW0
  go_enter Try.func32, Try.ntmps32
  go_wp2_with fail
  refine (wvalid_any t p B C G _ ((HS.out.now).2.1) f a n c xs HN.out ((HS.out.now).1) hb).mono ?_
  rintro e wq1 ⟨rfl, hmm⟩
  replace HS := Lib.hid (HS.out.step hmm)
  clear hmm
  rw [HVB.out]
  cases vb with
  | false =>
    go_wp2_with fail
    go_ret
    exact ⟨_, rfl, ⟨none, 0, rfl, Rd.nil _ _⟩, (HS.out.now).2.2⟩
  | true =>
    have hal : allE G xs = true := wlk_all G f xs (by have h := HVB.out; unfold validB at h; rw [Bool.and_eq_true] at h; exact h.2)
    have hwt : wtN G xs = wE G xs := by unfold wtN; rw [if_pos hal, wE_all G xs hal]
    rw [HW0.out] at hwt
    have HWE := Lib.hid hwt
    clear hwt hal
    go_wp2_with fail
    refine (wweight_any t p B C G HMAY.out _ ((HS.out.now).2.1) a n c xs HN.out ((HS.out.now).1) hb).mono ?_
    rintro e wq2 ⟨rfl, hmm⟩
    replace HS := Lib.hid (HS.out.step hmm)
    clear hmm
    rw [HW0.out]
    obtain ⟨h4, g, hhg⟩ : ∃ (h4 : H4) (g : Nat), nextL G W0 f xs 0 0 = (h4, g) := ⟨_, _, rfl⟩
    go_wp2_with fail
    refine (gnext_any t p B C G HMAY.out _ ((HS.out.now).2.1) f a n c xs HN.out ((HS.out.now).1) hb W0).mono ?_
    rintro e wq3 ⟨rfl, hmm⟩
    replace HS := Lib.hid (HS.out.step hmm)
    clear hmm
    rw [hhg]
    unfold hintV
    obtain ⟨c1, c2, c3, c4⟩ := h4
    simp only []
    have HHG := Lib.hid hhg
    clear hhg
    go_upto_region 5 with fail
    obtain ⟨wb, hwb⟩ : ∃ x : World, wq3 = x := ⟨_, rfl⟩
    rw [hwb] at HS ⊢
    clear hwb
    have HSW := HS
    have HRD0 : Hid (∀ W, Mod (fun _ => False) wb W → Rd W 1 (.slice a n c) n (xs.map (Value.int .i64))) := Lib.hid (fun W m => (HSW.out.at m).1)
    obtain ⟨bh, hbh⟩ : ∃ b, wb.heap.size = b := ⟨_, rfl⟩
    obtain ⟨wc, hwc⟩ : ∃ W, World.alloc wb (.cells #[.int .i64 c1, .int .i64 c2, .int .i64 c3, .int .i64 c4] 56) = W := ⟨_, rfl⟩
    have hBH : Blk wc bh 56 [.int .i64 c1, .int .i64 c2, .int .i64 c3, .int .i64 c4] := by rw [← hwc, ← hbh]; exact Blk.new wb 56 [.int .i64 c1, .int .i64 c2, .int .i64 c3, .int .i64 c4]
    have hmc : Mod (fun _ => False) wb wc := by rw [← hwc]; exact Mod.alloc _ _ _
    try rw [hwc]
    try rw [hbh]
    have qb0 := hBH.cell 0 rfl
    have qb1 := hBH.cell 1 rfl
    have qb2 := hBH.cell 2 rfl
    have qb3 := hBH.cell 3 rfl
    have lb := hBH.lt
    clear hwc
    go_wp2_with fail
    obtain ⟨B1, hB1⟩ : ∃ b, wc.heap.size = b := ⟨_, rfl⟩
    have hbB : bh < B1 := by rw [← hB1]; exact lb
    obtain ⟨wl, hwl⟩ : ∃ W, World.alloc wc (.cells #[.int .i64 c1, .int .i64 c2, .int .i64 c3, .int .i64 c4] 56) = W := ⟨_, rfl⟩
    have hown : wl.ownsRow B1 56 4 (.slice (some ⟨B1, 0, none⟩) 1 1) 1 ([(c1, c2, c3, c4)].flatMap c4h) := by rw [← hwl, ← hB1]; exact World.ownsRow_lit (base := wc.heap.size) (e := 56) (size := 4) wc #[.int .i64 c1, .int .i64 c2, .int .i64 c3, .int .i64 c4] 1 (Nat.le_refl _) (by decide) rfl
    have hml : Mod (fun _ => False) wc wl := by rw [← hwl]; exact Mod.alloc _ _ _
    have hsz : B1 ≤ wl.heap.size := by rw [← hB1]; exact hml.size
    rw [hB1]
    try rw [hwl]
    have hbl := hBH.keep hml (fun e => e)
    have hm2 := hmc.of2 hml
    clear hBH qb0 qb1 qb2 qb3 lb hml hwl hmc
    have HBB : Hid (wb.heap.size ≤ bh ∧ wb.heap.size ≤ B1) := Lib.hid ⟨by omega, by omega⟩
    clear hbh hB1
    go_loopw [1, 2, 7, 10, 11] (fun fv lv wv gv av wr => ∃ (d m nd g : Nat) (f0 c1 c2 c3 c4 W1 : Int) (L : List H4) (la : Option Addr) (lc : Nat), d ≤ n ∧ fv = .int .i64 f0 ∧ lv = .slice la (n - d) lc ∧ wv = .int .i64 W1 ∧ gv = .int .i64 (g : Int) ∧ nextL G W1 f0 (xs.drop d) 0 0 = ((c1, c2, c3, c4), g) ∧ W1 = wE G (xs.drop d) ∧ n - d ≤ m ∧ L.length = nd ∧ nd ≤ d + 1 ∧ hintsL G (n + 1) f xs W0 = L ++ (if c1 = 9 then [] else hintsL G m c2 ((xs.drop d).drop g) (W1 - c3 - wtE G c2)) ∧ (∀ W, Mod (fun _ => False) wb W → Rd W 1 (.slice la (n - d) lc) (n - d) ((xs.drop d).map (Value.int .i64))) ∧ Blk wr bh 56 [.int .i64 c1, .int .i64 c2, .int .i64 c3, .int .i64 c4] ∧ World.ownsRow wr B1 56 4 av nd (L.flatMap c4h) ∧ B1 ≤ wr.heap.size ∧ Mod (fun _ => False) wb wr) (fun _ lv _ _ _ _ => match lv with | .slice _ k _ => k | _ => 0)
    case atStart => exact ⟨0, n, 1, g, f, c1, c2, c3, c4, W0, [(c1, c2, c3, c4)], a, c, by omega, rfl, rfl, rfl, rfl, HHG.out, HWE.out, by omega, rfl, by omega, by rw [hintsL_succ G n f xs W0 _ _ HHG.out]; rfl, HRD0.out, hbl, hown, hsz, hm2⟩
    case round =>
      clear hbl hown hsz hm2 HHG HW0 HRD0
      obtain ⟨d, m, nd, g, f0, c1, c2, c3, c4, W1, L, la, lc, hd, rfl, rfl, rfl, rfl, hhg, hwe, hdm, hnd, hndd, hlist, hrl, hbl, hown, hsz, hmr⟩ := hrel
      obtain ⟨wo, hwo⟩ : ∃ x : World, x = wr := ⟨_, rfl⟩
      subst hwo
      obtain ⟨av, cv, rfl⟩ := own_form hown
      replace HS := Lib.hid (HS.out.step hmr)
      have HMB := Lib.hid hmr
      have HHG := Lib.hid hhg
      have HWE2 := Lib.hid hwe
      have HND := Lib.hid hnd
      have HLI := Lib.hid hlist
      have HRF := Lib.hid hrl
      have HBL := Lib.hid hbl
      have HO := Lib.hid hown
      have HSZ := Lib.hid hsz
      clear hmr hhg hwe hnd hlist hrl hbl hown hsz
      have hfin := nextL_fin G W1 f0 (xs.drop d) _ _ HHG.out
      have hdl : (xs.drop d).length = n - d := by rw [List.length_drop, HN.out]
      rw [hdl] at hfin
      simp only [] at hfin
      have qc0 := HBL.out.cell 0 rfl
      have lb := HBL.out.lt
      by_cases h9 : c1 = 9
      case pos =>
        have z0 : (c1 != 9) = false := by simp [h9]
        have hl2 := HLI.out
        rw [if_pos h9, List.append_nil] at hl2
        have HL2 := Lib.hid hl2
        clear hl2 h9 hfin
        go_wp2_with fail
        go_ret
        refine ⟨_, rfl, ⟨av, cv, ?_, ?_⟩, (HS.out.now).2.2⟩
        · show Value.slice av nd cv = _; rw [HL2.out, HND.out]
        · rw [HL2.out, HND.out]; exact Rd.ofOwn HO.out
      case neg =>
        have z0 : (c1 != 9) = true := by simp [h9]
        have hfn := hfin.resolve_left (fun h => h9 h.1)
        obtain ⟨hc0, hc8, hg1, hgn, hc4, fa, fb, hfab, hfb, hfc⟩ := hfn
        clear hfin
        have hl2 := HLI.out
        rw [if_neg h9] at hl2
        have hsum : W1 = c3 + (wtE G c2 + wE G fb) := by rw [HWE2.out, hfab, wE_append, hfc]; rfl
        have hwa := wE_le G HMAY.out fa
        have hwb2 := wE_le G HMAY.out fb
        have hwt := wtE_le G HMAY.out c2
        have hfl : fb.length ≤ n ∧ fa.length ≤ n := by have h := congrArg List.length hfab; rw [hdl, List.length_append, List.length_cons] at h; omega
        have hfbl : fb.length = n - d - g := by rw [← hfb, List.length_drop, hdl]
        rw [← hfc] at hwa
        obtain ⟨wg, HWX0⟩ : ∃ qz, wtE G c2 = qz := ⟨_, rfl⟩
        have HWX := Lib.hid HWX0
        clear HWX0
        rw [HWX.out] at hsum hwt hl2
        have hk1 := hwa.1
        have hk2 := hwa.2
        have hk3 := hwb2.1
        have hk4 := hwb2.2
        have hk5 := hwt.1
        have hk6 := hwt.2
        have hk7 := hfl.1
        have hk8 := hfl.2
        obtain ⟨W2, hW2⟩ : ∃ x, W1 - c3 - wg = x := ⟨_, rfl⟩
        have hwf : W2 = wE G fb := by omega
        rw [hW2] at hl2
        have HW2 := Lib.hid hW2
        obtain ⟨ef, hef⟩ : ∃ x, wE G fb = x := ⟨_, rfl⟩
        rw [hef] at hwf hk3 hk4 hsum
        have HEF := Lib.hid hef
        have HFBL := Lib.hid hfbl
        clear hfc hwa hwb2 hwt hfl hW2 hef h9 hfbl
        obtain ⟨m2, hm2⟩ : ∃ m2, m = m2 + 1 := ⟨m - 1, by omega⟩
        rw [hm2] at hl2
        have hmm2 : n - (d + g) ≤ m2 := by omega
        have HLJ := Lib.hid hl2
        have HFAB := Lib.hid hfab
        have HFB := Lib.hid hfb
        clear hl2 hm2 hfab hfb hdm
        obtain ⟨kl, hkl⟩ : ∃ k, n - d = k := ⟨_, rfl⟩
        rw [hkl] at hgn
        have HKL := Lib.hid hkl
        have hrf := HRF.out
        rw [hkl] at hrf
        rw [hkl]
        have hkn : kl ≤ n := by omega
        have hdk := fun wx => run_dropS (P := Try.prog) wx 22 3 iI 1 Try.underlying22 hiI hsI la kl lc g hgn
        have HDK := Lib.hid hdk
        have hrf2 : ∀ W, Mod (fun _ => False) wb W → Rd W 1 (.slice (dropA la lc g 1) (kl - g) (lc - g)) (kl - g) (fb.map (Value.int .i64)) := fun W mW => by have h := rd_drop (hrf W mW) hgn; rw [HFB.out] at h; exact h
        have HRF2 := Lib.hid hrf2
        clear hdk hrf hrf2 hkl
        clear qc0
        replace HS := Lib.hid ((Ev.blk HBL.out).and HS.out)
        replace HS := Lib.hid (((show Ev (fun W => Rd W 1 (.slice (dropA la lc g 1) (kl - g) (lc - g)) (kl - g) (fb.map (Value.int .i64))) wo from fun W mW => HRF2.out W (HMB.out.of2 mW))).and HS.out)
        clear lb
        replace HS := Lib.hid ((Ev.mod wo).and HS.out)
        have lb := HBL.out.lt
        have qc0 := HBL.out.cell 0 rfl
        have hb1 : 0 ≤ W1 := by omega
        have hb2 : W1 ≤ 20000000000 := by omega
        have hb3 : c3 ≤ 6553500000 := by omega
        have HSUM := Lib.hid hsum
        clear hsum hwf hk2 hk4 hk7 hk8
        go_upto_region 7 with fail
        clear lb qc0
        obtain ⟨B0, hB0⟩ : ∃ n, wo.heap.size = n := ⟨_, rfl⟩
        have HB0 := Lib.hid hB0
        clear hB0
        have HOLD : Hid (∀ W, Mod (fun k => B0 ≤ k) (World.drew wo) W → Mod (fun _ => False) (World.drew wo) W) := Lib.hid fun W h => h.mono (fun i hi e => by have := HB0.out; simp at hi; omega)
        go_upto_region 7 with fail
        have HSd := Lib.hid HS.out.drew
        have HST : ∀ (ix : Nat) (vs : Nat → Value) (vx : Value) (wx wy : World), factP (ga_r7_0_F bh t g lc kl W1 c2 c3 wg la) ix vs vx wx → Mod (fun _ => False) wx wy → factP (ga_r7_0_F bh t g lc kl W1 c2 c3 wg la) ix vs vx wy := by
          refine factP_stays ?_
          unfold ga_r7_0_F
          exact stableP_cons (StableP.of (stable_val _)) <| stableP_cons (StableP.of (stable_val _)) <| stableP_cons (StableP.of (stable_val _)) <| stableP_cons (StableP.of (stable_val _)) <| stableP_cons (StableP.of (stable_val _)) <| stableP_cons (StableP.of (stable_val _)) <| stableP_cons (StableP.of (stable_val _)) <| stableP_cons (StableP.of (stable_val _)) <| stableP_cons (StableP.of (stable_val _)) <| stableP_cons (StableP.of (stable_val _)) <| stableP_cons (StableP.of (stable_val _)) <| stableP_cons (StableP.of (stable_val _)) <| stableP_cons (StableP.of (stable_val _)) <| stableP_cons (StableP.of (stable_val _)) <| stableP_cons (StableP.of (stable_val _)) <| stableP_cons (StableP.of (stable_val _)) <| stableP_nil
        have HSO : ∀ px ∈ (ga_r7_0_F bh t g lc kl W1 c2 c3 wg la), px.1 = true → ∀ (vs : Nat → Value) (vx : Value) (wx wy : World), px.2 vs vx wx → px.2 vs vx wy := by
          unfold ga_r7_0_F
          exact solidP_cons (solid_val _) <| solidP_cons (solid_val _) <| solidP_cons (solid_val _) <| solidP_cons (solid_val _) <| solidP_cons (solid_val _) <| solidP_cons (solid_val _) <| solidP_cons (solid_val _) <| solidP_cons (solid_val _) <| solidP_cons (solid_val _) <| solidP_cons (solid_val _) <| solidP_cons (solid_val _) <| solidP_cons (solid_val _) <| solidP_cons (solid_val _) <| solidP_cons (solid_val _) <| solidP_cons (solid_val _) <| solidP_cons (solid_val _) <| solidP_nil
        have HLO : LocL (fun i => ga_r7_0_D.getD i []) 0 (ga_r7_0_F bh t g lc kl W1 c2 c3 wg la) := by
          unfold ga_r7_0_F
          exact loc_cons (loc_own _) <| loc_cons (loc_own _) <| loc_cons (loc_own _) <| loc_cons (loc_own _) <| loc_cons (loc_own _) <| loc_cons (loc_own _) <| loc_cons (loc_own _) <| loc_cons (loc_own _) <| loc_cons (loc_own _) <| loc_cons (loc_own _) <| loc_cons (loc_own _) <| loc_cons (loc_own _) <| loc_cons (loc_own _) <| loc_cons (loc_own _) <| loc_cons (loc_own _) <| loc_cons (loc_own _) <| loc_nil
        refine wp_region_pair (act := ?actga_r7_0) (Mod (fun k => B0 ≤ k)) (factP (ga_r7_0_F bh t g lc kl W1 c2 c3 wg la)) (fun i => ga_r7_0_C.getD i 1000) (fun i => ga_r7_0_D.getD i []) 16 _ rfl rfl (by kernel_rfl) (by kernel_rfl) (by kernel_rfl) (by kernel_rfl) (by kernel_rfl) (fun _ => Mod.refl _ _)
          (fun _ _ _ h k => h.trans k (fun _ _ e => e) (fun _ _ e => e)) ?hactga_r7_0 (loc_of HLO) ?_ ?_
        case hactga_r7_0 => intro vs; simp only [putAll, Nat.zero_add, Nat.reduceAdd, Act.put, List.setIfInBounds_toArray, List.set_cons_succ, List.set_cons_zero]; exact rfl
        · refine opsOkP_cons ?_ ?_
          · intro K vs W hR hD hN hK
            clear hD
            clear hN
            try dsimp only at hK ⊢
            simp only [Act.put, List.setIfInBounds_toArray, List.set_cons_succ, List.set_cons_zero] at hK
            go_wp2
            exact hK _ _ rfl (fun _ _ h => h) (Mod.refl _ _)
          refine opsOkP_cons ?_ ?_
          · intro K vs W hR hD hN hK
            have dq0 : vs 0 = .pointer (some ⟨bh, 1, none⟩) := hD 0 (by decide)
            clear hD
            clear hN
            try dsimp only at hK ⊢
            simp only [Act.put, List.setIfInBounds_toArray, List.set_cons_succ, List.set_cons_zero] at hK
            generalize vs 0 = vq0 at hK dq0 ⊢
            subst vq0
            have q0 := ((HSd.out.at (HOLD.out W hR)).2.2.1).cell 1 rfl
            go_wp2
            exact hK _ _ rfl (fun _ _ h => h) (Mod.refl _ _)
          refine opsOkP_cons ?_ ?_
          · intro K vs W hR hD hN hK
            clear hD
            have hn15 : vs 15 = .slice la kl lc := (hN 15 (by kernel_rfl)).trans rfl
            clear hN
            try dsimp only at hK ⊢
            simp only [Act.put, List.setIfInBounds_toArray, List.set_cons_succ, List.set_cons_zero] at hK
            rw [hn15] at hK ⊢
            clear hn15
            go_wp2
            exact hK _ _ rfl (fun _ _ h => h) (Mod.refl _ _)
          refine opsOkP_cons ?_ ?_
          · intro K vs W hR hD hN hK
            clear hD
            clear hN
            try dsimp only at hK ⊢
            simp only [Act.put, List.setIfInBounds_toArray, List.set_cons_succ, List.set_cons_zero] at hK
            go_wp2
            exact hK _ _ rfl (fun _ _ h => h) (Mod.refl _ _)
          refine opsOkP_cons ?_ ?_
          · intro K vs W hR hD hN hK
            have dq2 : vs 2 = .slice la kl lc := hD 2 (by decide)
            have dq3 : vs 3 = .int .i64 (g : Int) := hD 3 (by decide)
            clear hD
            clear hN
            try dsimp only at hK ⊢
            simp only [Act.put, List.setIfInBounds_toArray, List.set_cons_succ, List.set_cons_zero] at hK
            generalize vs 2 = vq2 at hK dq2 ⊢
            subst vq2
            generalize vs 3 = vq3 at hK dq3 ⊢
            subst vq3
            have hdk := HDK.out
            go_wp2_with fail
            exact hK _ _ rfl (fun _ _ h => h) (Mod.refl _ _)
          refine opsOkP_cons ?_ ?_
          · intro K vs W hR hD hN hK
            clear hD
            have hn16 : vs 16 = .int .i64 W1 := (hN 16 (by kernel_rfl)).trans rfl
            clear hN
            try dsimp only at hK ⊢
            simp only [Act.put, List.setIfInBounds_toArray, List.set_cons_succ, List.set_cons_zero] at hK
            rw [hn16] at hK ⊢
            clear hn16
            go_wp2
            exact hK _ _ rfl (fun _ _ h => h) (Mod.refl _ _)
          refine opsOkP_cons ?_ ?_
          · intro K vs W hR hD hN hK
            clear hD
            clear hN
            try dsimp only at hK ⊢
            simp only [Act.put, List.setIfInBounds_toArray, List.set_cons_succ, List.set_cons_zero] at hK
            go_wp2
            exact hK _ _ rfl (fun _ _ h => h) (Mod.refl _ _)
          refine opsOkP_cons ?_ ?_
          · intro K vs W hR hD hN hK
            have dq6 : vs 6 = .pointer (some ⟨bh, 2, none⟩) := hD 6 (by decide)
            clear hD
            clear hN
            try dsimp only at hK ⊢
            simp only [Act.put, List.setIfInBounds_toArray, List.set_cons_succ, List.set_cons_zero] at hK
            generalize vs 6 = vq6 at hK dq6 ⊢
            subst vq6
            have q0 := ((HSd.out.at (HOLD.out W hR)).2.2.1).cell 2 rfl
            go_wp2
            exact hK _ _ rfl (fun _ _ h => h) (Mod.refl _ _)
          refine opsOkP_cons ?_ ?_
          · intro K vs W hR hD hN hK
            have dq5 : vs 5 = .int .i64 W1 := hD 5 (by decide)
            have dq7 : vs 7 = .int .i64 c3 := hD 7 (by decide)
            clear hD
            clear hN
            try dsimp only at hK ⊢
            simp only [Act.put, List.setIfInBounds_toArray, List.set_cons_succ, List.set_cons_zero] at hK
            generalize vs 5 = vq5 at hK dq5 ⊢
            subst vq5
            generalize vs 7 = vq7 at hK dq7 ⊢
            subst vq7
            go_wp2
            exact hK _ _ rfl (fun _ _ h => h) (Mod.refl _ _)
          refine opsOkP_cons ?_ ?_
          · intro K vs W hR hD hN hK
            clear hD
            clear hN
            try dsimp only at hK ⊢
            simp only [Act.put, List.setIfInBounds_toArray, List.set_cons_succ, List.set_cons_zero] at hK
            go_wp2
            exact hK _ _ rfl (fun _ _ h => h) (Mod.refl _ _)
          refine opsOkP_cons ?_ ?_
          · intro K vs W hR hD hN hK
            clear hD
            clear hN
            try dsimp only at hK ⊢
            simp only [Act.put, List.setIfInBounds_toArray, List.set_cons_succ, List.set_cons_zero] at hK
            go_wp2
            exact hK _ _ rfl (fun _ _ h => h) (Mod.refl _ _)
          refine opsOkP_cons ?_ ?_
          · intro K vs W hR hD hN hK
            have dq10 : vs 10 = .pointer (some ⟨bh, 1, none⟩) := hD 10 (by decide)
            clear hD
            clear hN
            try dsimp only at hK ⊢
            simp only [Act.put, List.setIfInBounds_toArray, List.set_cons_succ, List.set_cons_zero] at hK
            generalize vs 10 = vq10 at hK dq10 ⊢
            subst vq10
            have q0 := ((HSd.out.at (HOLD.out W hR)).2.2.1).cell 1 rfl
            go_wp2
            exact hK _ _ rfl (fun _ _ h => h) (Mod.refl _ _)
          refine opsOkP_cons ?_ ?_
          · intro K vs W hR hD hN hK
            have dq9 : vs 9 = .pointer (some ⟨t, 0, none⟩) := hD 9 (by decide)
            have dq11 : vs 11 = .int .i64 c2 := hD 11 (by decide)
            clear hD
            clear hN
            try dsimp only at hK ⊢
            simp only [Act.put, List.setIfInBounds_toArray, List.set_cons_succ, List.set_cons_zero] at hK
            generalize vs 9 = vq9 at hK dq9 ⊢
            subst vq9
            generalize vs 11 = vq11 at hK dq11 ⊢
            subst vq11
            go_wp2_with (go_at_call 63; refine (gwof_any t p B C G W ((HSd.out.at (HOLD.out W hR)).2.2.2.2.1) c2).mono ?_; rintro e' w' ⟨rfl, hm'⟩; rw [HWX.out])
            exact hK _ _ rfl (fun j _ h => HST j vs _ _ _ h hm') (hm'.mono (fun _ _ e => e.elim))
          refine opsOkP_cons ?_ ?_
          · intro K vs W hR hD hN hK
            have dq8 : vs 8 = .int .i64 (W1 - c3) := hD 8 (by decide)
            have dq12 : vs 12 = .int .i64 wg := hD 12 (by decide)
            clear hD
            clear hN
            try dsimp only at hK ⊢
            simp only [Act.put, List.setIfInBounds_toArray, List.set_cons_succ, List.set_cons_zero] at hK
            generalize vs 8 = vq8 at hK dq8 ⊢
            subst vq8
            generalize vs 12 = vq12 at hK dq12 ⊢
            subst vq12
            go_wp2
            exact hK _ _ rfl (fun _ _ h => h) (Mod.refl _ _)
          refine opsOkP_cons ?_ ?_
          · intro K vs W hR hD hN hK
            have dq1 : vs 1 = .int .i64 c2 := hD 1 (by decide)
            clear hD
            clear hN
            try dsimp only at hK ⊢
            simp only [Act.put, List.setIfInBounds_toArray, List.set_cons_succ, List.set_cons_zero] at hK
            generalize vs 1 = vq1 at hK dq1 ⊢
            subst vq1
            go_wp2
            exact hK _ _ rfl (fun _ _ h => h) (Mod.refl _ _)
          refine opsOkP_cons ?_ ?_
          · intro K vs W hR hD hN hK
            have dq4 : vs 4 = .slice (dropA la lc g 1) (kl - g) (lc - g) := hD 4 (by decide)
            clear hD
            clear hN
            try dsimp only at hK ⊢
            simp only [Act.put, List.setIfInBounds_toArray, List.set_cons_succ, List.set_cons_zero] at hK
            generalize vs 4 = vq4 at hK dq4 ⊢
            subst vq4
            go_wp2
            exact hK _ _ rfl (fun _ _ h => h) (Mod.refl _ _)
          exact opsOkP_nil
        · intro vs wq4 hR hF
          have dq13 : vs 13 = .int .i64 ((W1 - c3) - wg) := hF 13 (by decide) (by decide)
          have dq14 : vs 14 = .int .i64 c2 := hF 14 (by decide) (by decide)
          have dq15 : vs 15 = .slice (dropA la lc g 1) (kl - g) (lc - g) := hF 15 (by decide) (by decide)
          clear hF
          try dsimp only
          generalize vs 13 = vq13 at dq13 ⊢
          subst vq13
          generalize vs 14 = vq14 at dq14 ⊢
          subst vq14
          generalize vs 15 = vq15 at dq15 ⊢
          subst vq15
          have hmw : Mod (fun _ => False) wo wq4 := (Mod.drew _ _).of2 (HOLD.out _ hR)
          replace HS := Lib.hid (HS.out.step hmw)
          clear hmw HSd
          go_wp2_with fail
          rw [show W1 - c3 - wg = W2 from HW2.out]
          obtain ⟨h4, g2, hhg⟩ : ∃ (h4 : H4) (g : Nat), nextL G W2 c2 fb 0 0 = (h4, g) := ⟨_, _, rfl⟩
          refine (gnext_any t p B C G HMAY.out _ ((HS.out.now).2.2.2.2.1) c2 _ (kl - g) _ fb (by rw [HFBL.out, HKL.out]) ((HS.out.now).2.1) (by omega) W2).mono ?_
          rintro e wq5 ⟨rfl, hmm⟩
          replace HS := Lib.hid (HS.out.step hmm)
          clear hmm
          rw [hhg]
          unfold hintV
          obtain ⟨e1, e2, e3, e4⟩ := h4
          simp only []
          have HHH := Lib.hid hhg
          clear hhg
          have hB := (HS.out.now).2.2.1
          have HBM := Lib.hid hB
          have qb0 := hB.cell 0 rfl
          have qb1 := hB.cell 1 rfl
          have qb2 := hB.cell 2 rfl
          have qb3 := hB.cell 3 rfl
          have fb0 := hB.free 0
          have fb1 := hB.free 1
          have fb2 := hB.free 2
          have fb3 := hB.free 3
          have lb := hB.lt
          clear hB
          have hmod1 := (HS.out.now).1
          have hown1 := Own.keep HO.out hmod1 (fun _ _ e => e)
          have HO1 := Lib.hid hown1
          have HSZ1 : Hid (B1 ≤ wq5.heap.size) := Lib.hid (Nat.le_trans HSZ.out hmod1.size)
          have HMB1 := Lib.hid (HMB.out.of2 hmod1)
          clear hown1 hmod1
          go_upto_region 9 with fail
          obtain ⟨ws, hws⟩ : ∃ W, World.setCell (World.setCell (World.setCell (World.setCell (wq5) ⟨bh, 0, none⟩ (.int .i64 e1)) ⟨bh, 1, none⟩ (.int .i64 e2)) ⟨bh, 2, none⟩ (.int .i64 e3)) ⟨bh, 3, none⟩ (.int .i64 e4) = W := ⟨_, rfl⟩
          have hbs : Blk ws bh 56 [.int .i64 e1, .int .i64 e2, .int .i64 e3, .int .i64 e4] := by rw [← hws]; exact ((((HBM.out.set 0 (.int .i64 e1)).set 1 (.int .i64 e2)).set 2 (.int .i64 e3)).set 3 (.int .i64 e4))
          have hms : Mod (fun k => k = bh) wq5 ws := by rw [← hws]; exact ((((Mod.refl (fun k => k = bh) wq5).ofFx (Mod.setCell (F := fun k => k = bh) _ ⟨bh, 0, none⟩ (.int .i64 e1) rfl)).ofFx (Mod.setCell (F := fun k => k = bh) _ ⟨bh, 1, none⟩ (.int .i64 e2) rfl)).ofFx (Mod.setCell (F := fun k => k = bh) _ ⟨bh, 2, none⟩ (.int .i64 e3) rfl)).ofFx (Mod.setCell (F := fun k => k = bh) _ ⟨bh, 3, none⟩ (.int .i64 e4) rfl)
          rw [hws]
          clear hws qb0 fb0 qb1 fb1 qb2 fb2 qb3 fb3
          have HOs := Lib.hid (Own.keep HO1.out hms (fun k hk e => by have := (HO1.out.lt k hk).1; omega))
          have HSZs : Hid (B1 ≤ ws.heap.size) := Lib.hid (Nat.le_trans HSZ1.out hms.size)
          have hmbs : Mod (fun _ => False) wb ws := HMB1.out.old hms (fun i hi => by rw [hi]; exact HBB.out.1)
          have HMS := Lib.hid hmbs
          clear hmbs
          have HBS := Lib.hid hbs
          have q0 := hbs.cell 0 rfl
          have q1 := hbs.cell 1 rfl
          have q2 := hbs.cell 2 rfl
          have q3 := hbs.cell 3 rfl
          have lb2 := hbs.lt
          clear hbs hms lb
          go_wp2_with ((at_builtin; refine wpList_append_any rfl (.tmp 58) (.tmp 60) 61 rfl 56 iH (.agg #[.int .i64 0, .int .i64 0, .int .i64 0, .int .i64 0]) 4 32 Try.underlying61 hiH hzH hsH hbH rfl (by decide) _ nd _ rfl (World.ownsRow.alloc (Own.base HOs.out (Nat.zero_le _)) _) _ 1 (c4h (e1, e2, e3, e4)) rfl (Rd.litN _ 4 _ _ _ 1 rfl rfl (by decide)) (by intro u hu; simp [c4h] at hu; rcases hu with rfl | rfl | rfl | rfl <;> rfl) (by unfold maxLen; omega) (by omega) ?_; intro v4 w4 hap; obtain ⟨a4, c4x, rfl⟩ := hap.form; have ho4 := hap.own; have lo4 := hap.low (B := B1) (by have h1 := HSZs.out; simp; omega) (fun q hq => (HOs.out.lt q hq).1); have HO4 := Lib.hid (Own.rebase ho4 lo4); have hmq : Mod (fun q => B1 ≤ q) ws w4 := (Mod.alloc (fun q => B1 ≤ q) ws _).trans (hap.mod.mono (fun q _ e => (HOs.out.lt q e).1)) (fun _ _ e => e) (fun _ _ e => e); have HMQ := Lib.hid hmq; clear hap ho4 lo4 hmq))
          have hfb2 : xs.drop (d + g) = fb := by rw [← HFB.out, List.drop_drop]
          have hkg : kl - g = n - (d + g) := by have := HKL.out; omega
          have HK2 := Lib.hid hfb2
          have HKG := Lib.hid hkg
          clear hfb2 hkg
          go_roundw
          case rel =>
            refine ⟨d + g, m2, nd + 1, g2, c2, e1, e2, e3, e4, W2, L ++ [(e1, e2, e3, e4)], dropA la lc g 1, lc - g, by have := HKL.out; omega, rfl, by rw [HKG.out], rfl, rfl, ?_, ?_, hmm2, by rw [List.length_append, HND.out]; rfl, by omega, ?_, ?_, ?_, ?_, ?_, ?_⟩
            · rw [HK2.out]; exact HHH.out
            · rw [HK2.out, HEF.out]; have h1 := HSUM.out; have h2 := HW2.out; omega
            · rw [HLJ.out, HFB.out, hintsL_succ G m2 c2 fb W2 _ _ HHH.out, HK2.out, List.append_assoc]
            · intro W mW; rw [HK2.out, ← HKG.out]; exact HRF2.out W mW
            · exact HBS.out.keep HMQ.out (by omega)
            · rw [List.flatMap_append]; exact HO4.out
            · exact Nat.le_trans HSZs.out HMQ.out.size
            · exact HMS.out.old HMQ.out (fun i hi => Nat.le_trans HBB.out.2 hi)
          case measure => show kl - g < kl; omega
end Go.Proofs.Ytagmnkobigecnaa
namespace Go.Proofs.Ytagmnkobigecnaa
open Go.RowKit Mile
set_option maxRecDepth 100000
theorem t21len : 1 ≤ (townG [3, 3, 5]).E.length := by decide +kernel
/-- An element of a row of hints. -/
theorem rd4h {w : World} {n c : Nat} {a : Option Addr} {S : List H4} (h : Rd w 4 (.slice a n c) n (S.flatMap c4h)) (i : Nat) (hi : i < S.length) :
    ∃ b o, elemA a i 4 = ⟨b, o, none⟩ ∧ w.cell? ⟨b, o, none⟩ = some (.int .i64 S[i].1) ∧ w.cell? ⟨b, o + 1, none⟩ = some (.int .i64 S[i].2.1) ∧ w.cell? ⟨b, o + 2, none⟩ = some (.int .i64 S[i].2.2.1) ∧ w.cell? ⟨b, o + 3, none⟩ = some (.int .i64 S[i].2.2.2) := rd4 h i hi
set_option maxHeartbeats 4000000 in
theorem wvalid_nil (w : World) (v : Int) : Calls Try.prog 59 #[.pointer none, .int .i64 v, .slice none 0 0] w fun e w' => e = .returned (.bool false) ∧ Mod (fun _ => False) w w' := by
  have key : Calls Try.prog 80 #[.pointer none, .int .i64 v, .slice none 0 0] w fun e w' => e = .returned (.tuple #[.int .i64 0, .bool false]) ∧ Mod (fun _ => False) w w' := by
    go_enter Try.func80, Try.ntmps80
    go_wp2_with fail
    go_loopw [8, 15] (fun s i wr => s = .int .i64 v ∧ i = .int .i64 0 ∧ Mod (fun _ => False) w wr) (fun _ _ _ => 0)
    case atStart => exact ⟨rfl, rfl, Mod.refl _ _⟩
    case round =>
      obtain ⟨rfl, rfl, hm⟩ := hrel
      go_wp2_with fail
      refine (wedge_nil wr v).mono ?_
      rintro e w2 ⟨rfl, hm2⟩
      have HM := Lib.hid (hm.of2 hm2)
      clear hm hm2
      go_wp2_with fail
      go_ret2
      exact ⟨rfl, HM.out.thenAlloc _⟩
  go_enter Try.func59, Try.ntmps59
  go_wp2_with fail
  refine key.mono ?_
  rintro e w2 ⟨rfl, hm2⟩
  have HM := Lib.hid hm2
  clear hm2
  go_wp2_with fail
  go_ret
  exact ⟨rfl, HM.out⟩
set_option maxHeartbeats 4000000 in
theorem gall_nil (w : World) (v : Int) : Calls Try.prog 32 #[.pointer none, .int .i64 v, .slice none 0 0] w fun e w' => e = .returned (.slice none 0 0) ∧ Mod (fun _ => False) w w' := by
  go_enter Try.func32, Try.ntmps32
  go_wp2_with fail
  refine (wvalid_nil w v).mono ?_
  rintro e w2 ⟨rfl, hm2⟩
  have HM := Lib.hid hm2
  clear hm2
  go_wp2_with fail
  go_ret
  exact ⟨rfl, HM.out⟩
/-- What each operation of the statement leaves. -/
def aw_r7_0_F (cl : Nat) (al : Option Addr) (eb : Nat) (eo : Nat) : List (Value → World → Prop) :=
  [IsV (.bool true),
   IsV (.bool true),
   IsV (.agg #[.int .i64 9, .int .i64 (-1), .int .i64 0, .int .i64 0]),
   IsV (.agg #[.int .i64 9, .int .i64 (-1), .int .i64 0, .int .i64 0]),
   IsV (.bool true),
   IsV (.bool true),
   IsV (.bool true),
   IsV (.bool false),
   IsV (.bool true),
   IsV (.bool true),
   IsV (.bool true),
   IsV (.slice al 1 cl),
   IsV (.int .i64 (1 : Int)),
   IsV (.bool true),
   IsV (.bool true),
   IsV (.bool true),
   IsV (.slice al 1 cl),
   IsV (.pointer (some ⟨eb, eo, none⟩)),
   IsV (.agg #[.int .i64 9, .int .i64 (-1), .int .i64 0, .int .i64 0]),
   IsV (.agg #[.int .i64 9, .int .i64 (-1), .int .i64 0, .int .i64 0]),
   IsV (.bool true),
   IsV (.bool true),
   IsV (.bool true),
   IsV (.slice none 0 0),
   IsV (.int .i64 0),
   IsV (.bool true),
   IsV (.bool true),
   IsV (.bool true)]
def aw_r7_0_D : List (List Nat) := [[], [0], [1], [1], [1, 2, 3], [1, 4], [5], [6], [6, 7], [6, 8], [9], [10], [10, 11], [10, 12], [10, 13], [14], [15], [15, 16], [15, 17], [15], [15, 18, 19], [15, 20], [21], [22], [22, 23], [22, 24], [22, 25], [26]]

set_option maxHeartbeats 16000000 in
theorem awake21_any (w : World) : Calls Try.prog 26 #[] w fun e w' => e = .returned (.bool true) ∧ Mod (fun _ => False) w w' := by
  obtain ⟨iH, hiH, hzH, hsH, hbH⟩ := info_parts infoHi
  have HS : Hid (Ev (Mod (fun _ => False) w) w) := Lib.hid (Ev.mod w)
  go_enter Try.func26, Try.ntmps26
  go_wp2_with fail
  refine (made21_any _ _ 3 _ [3, 3, 5] rfl (Rd.lit _ _ _ _ 3 rfl rfl (by decide))).mono ?_
  rintro e wq0 ⟨a1, n1, d1, a2, n2, d2, a3, n3, d3, t, p, B, C, rfl, hg, hto, hm⟩
  replace HS := Lib.hid (HS.out.step ((Mod.alloc (fun _ => False) _ _).of2 hm))
  replace HS := Lib.hid ((Ev.gv hg).and HS.out)
  replace HS := Lib.hid ((Ev.to hto).and HS.out)
  clear hm hg hto
  have hmay := Lib.hid (town_may [3, 3, 5])
  have hl2 := t21len
  obtain ⟨G, hG⟩ : ∃ G, townG [3, 3, 5] = G := ⟨_, rfl⟩
  rw [hG] at hmay hl2
  rw [hG] at HS
  clear hG
  go_upto_region 2 with fail
  obtain ⟨bg, hbg⟩ : ∃ b, wq0.heap.size = b := ⟨_, rfl⟩
  obtain ⟨wq1, hwq1⟩ : ∃ W, World.alloc wq0 (.cells #[.slice a1 n1 d1, .slice a2 n2 d2, .slice a3 n3 d3] 28) = W := ⟨_, rfl⟩
  have hBbg : Blk wq1 bg 28 [.slice a1 n1 d1, .slice a2 n2 d2, .slice a3 n3 d3] := by rw [← hwq1, ← hbg]; exact Blk.new _ 28 [.slice a1 n1 d1, .slice a2 n2 d2, .slice a3 n3 d3]
  have hzbg : wq1.heap.size = bg + 1 := by rw [← hwq1, ← hbg]; exact heap_size_alloc _ _
  replace HS := Lib.hid (HS.out.step (w' := wq1) (by rw [← hwq1]; exact Mod.alloc _ _ _))
  replace HS := Lib.hid ((Ev.blk hBbg).and HS.out)
  try rw [hwq1]
  try rw [hbg]
  clear hzbg hBbg hbg hwq1
  have VD : Hid (validB G 0 [] = true) := Lib.hid (by unfold validB edB; rw [decide_eq_true ⟨by omega, by omega⟩]; rfl)
  have VDN : Hid (validB G (-1) [] = false) := Lib.hid (by unfold validB edB; rw [decide_eq_false (fun h => by omega)]; rfl)
  go_wp2_with fail
  refine (ghint_any t p B C G hmay.out _ ((HS.out.now).2.1) 0 none 0 0 [] rfl (Rd.nil _ _) (by omega)).mono ?_
  rintro e wq2 ⟨rfl, hmm⟩
  replace HS := Lib.hid (HS.out.step hmm)
  clear hmm
  rw [VD.out, show hintV (if true = true then (nextL G (wtN G []) 0 [] 0 0).1 else (0, 0, 0, 0)) = .agg #[.int .i64 9, .int .i64 (-1), .int .i64 0, .int .i64 0] from rfl]
  go_upto_region 5 with fail
  obtain ⟨bh, hbh⟩ : ∃ b, wq2.heap.size = b := ⟨_, rfl⟩
  obtain ⟨wq3, hwq3⟩ : ∃ W, World.alloc wq2 (.cells #[.int .i64 9, .int .i64 (-1), .int .i64 0, .int .i64 0] 56) = W := ⟨_, rfl⟩
  have hBbh : Blk wq3 bh 56 [.int .i64 9, .int .i64 (-1), .int .i64 0, .int .i64 0] := by rw [← hwq3, ← hbh]; exact Blk.new _ 56 [.int .i64 9, .int .i64 (-1), .int .i64 0, .int .i64 0]
  have hzbh : wq3.heap.size = bh + 1 := by rw [← hwq3, ← hbh]; exact heap_size_alloc _ _
  replace HS := Lib.hid (HS.out.step (w' := wq3) (by rw [← hwq3]; exact Mod.alloc _ _ _))
  replace HS := Lib.hid ((Ev.blk hBbh).and HS.out)
  try rw [hwq3]
  try rw [hbh]
  clear hzbh hBbh hbh hwq3
  have hbbh := (HS.out.now).1
  have qbh_0 := hbbh.cell 0 rfl
  have qbh_1 := hbbh.cell 1 rfl
  have qbh_2 := hbbh.cell 2 rfl
  have qbh_3 := hbbh.cell 3 rfl
  have lbh := hbbh.lt
  clear hbbh
  go_wp2_with fail
  refine (ghint_any t p B C G hmay.out _ ((HS.out.now).2.2.1) (-1) none 0 0 [] rfl (Rd.nil _ _) (by omega)).mono ?_
  rintro e wq4 ⟨rfl, hmm⟩
  replace HS := Lib.hid (HS.out.step hmm)
  clear hmm
  clear qbh_0 qbh_1 qbh_2 qbh_3 lbh
  have hbbh := (HS.out.now).1
  have qbh_0 := hbbh.cell 0 rfl
  have qbh_1 := hbbh.cell 1 rfl
  have qbh_2 := hbbh.cell 2 rfl
  have qbh_3 := hbbh.cell 3 rfl
  have lbh := hbbh.lt
  clear hbbh
  rw [VDN.out, show hintV (if false = true then (nextL G (wtN G []) (-1) [] 0 0).1 else (0, 0, 0, 0)) = .agg #[.int .i64 0, .int .i64 0, .int .i64 0, .int .i64 0] from rfl]
  go_upto_region 6 with fail
  obtain ⟨bk, hbk⟩ : ∃ b, wq4.heap.size = b := ⟨_, rfl⟩
  obtain ⟨wq5, hwq5⟩ : ∃ W, World.alloc wq4 (.cells #[.int .i64 0, .int .i64 0, .int .i64 0, .int .i64 0] 56) = W := ⟨_, rfl⟩
  have hBbk : Blk wq5 bk 56 [.int .i64 0, .int .i64 0, .int .i64 0, .int .i64 0] := by rw [← hwq5, ← hbk]; exact Blk.new _ 56 [.int .i64 0, .int .i64 0, .int .i64 0, .int .i64 0]
  have hzbk : wq5.heap.size = bk + 1 := by rw [← hwq5, ← hbk]; exact heap_size_alloc _ _
  replace HS := Lib.hid (HS.out.step (w' := wq5) (by rw [← hwq5]; exact Mod.alloc _ _ _))
  replace HS := Lib.hid ((Ev.blk hBbk).and HS.out)
  try rw [hwq5]
  try rw [hbk]
  clear hzbk hBbk hbk hwq5
  clear qbh_0 qbh_1 qbh_2 qbh_3 lbh
  have hbbh := (HS.out.now).2.1
  have qbh_0 := hbbh.cell 0 rfl
  have qbh_1 := hbbh.cell 1 rfl
  have qbh_2 := hbbh.cell 2 rfl
  have qbh_3 := hbbh.cell 3 rfl
  have lbh := hbbh.lt
  clear hbbh
  go_wp2_with fail
  clear qbh_0 qbh_1 qbh_2 qbh_3 lbh
  refine (gall_any t p B C G hmay.out _ ((HS.out.now).2.2.2.1) 0 none 0 0 [] rfl (Rd.nil _ _) (by omega)).mono ?_
  rintro e wq6 ⟨v, rfl, hrow, hmm⟩
  rw [VD.out, show (if true = true then hintsL G (0 + 1) 0 [] (wtN G []) else []) = [((9 : Int), (-1 : Int), (0 : Int), (0 : Int))] from rfl] at hrow
  obtain ⟨al, cl, rfl, hrl⟩ := hrow
  have hrl2 : Rd wq6 4 (.slice al 1 cl) 1 ([((9 : Int), (-1 : Int), (0 : Int), (0 : Int))].flatMap c4h) := hrl
  rw [show ([((9 : Int), (-1 : Int), (0 : Int), (0 : Int))] : List H4).length = 1 from rfl]
  replace HS := Lib.hid (HS.out.step hmm)
  replace HS := Lib.hid ((Ev.rd hrl2).and HS.out)
  clear hmm hrl hrl2
  skip
  have hbbh := (HS.out.now).2.2.1
  have qbh_0 := hbbh.cell 0 rfl
  have qbh_1 := hbbh.cell 1 rfl
  have qbh_2 := hbbh.cell 2 rfl
  have qbh_3 := hbbh.cell 3 rfl
  have lbh := hbbh.lt
  clear hbbh
  obtain ⟨eb, eo, hpl, e0, e1, e2, e3⟩ := rd4h ((HS.out.now).1) 0 (by decide)
  have hix := fun wx => run_indexS (P := Try.prog) wx 61 56 iH 4 Try.underlying61 hiH hsH al 1 cl 0 (by omega) (((HS.out.now).1).some_ (by omega))
  rw [hpl] at hix
  have HIe := Lib.hid hix
  clear hix hpl
  replace HS := Lib.hid ((Ev.cell (v := .int .i64 9) e0).and HS.out)
  clear e0
  replace HS := Lib.hid ((Ev.cell (v := .int .i64 (-1)) e1).and HS.out)
  clear e1
  replace HS := Lib.hid ((Ev.cell (v := .int .i64 0) e2).and HS.out)
  clear e2
  replace HS := Lib.hid ((Ev.cell (v := .int .i64 0) e3).and HS.out)
  clear e3
  go_upto_region 7 with fail
  clear qbh_0 qbh_1 qbh_2 qbh_3 lbh
  have HSd := Lib.hid HS.out.drew
  refine wp_region_inv3 (act := ?actaw_r7_0) (Mod (fun _ => False)) (fun i => (aw_r7_0_F cl al eb eo).getD i (fun _ _ => True)) (fun i => aw_r7_0_D.getD i []) (by kernel_rfl) (by kernel_rfl) (by kernel_rfl) (by kernel_rfl) (fun _ => Mod.refl _ _)
    (fun _ _ _ h k => h.trans k (fun _ _ e => e) (fun _ _ e => e)) ?hactaw_r7_0 (stable_list ?_) ?_ ?_
  case hactaw_r7_0 => intro vs; simp only [putAll, Nat.zero_add, Nat.reduceAdd, Act.put, List.setIfInBounds_toArray, List.set_cons_succ, List.set_cons_zero]; exact rfl
  · unfold aw_r7_0_F
    exact stable_cons (stable_val _) <| stable_cons (stable_val _) <| stable_cons (stable_val _) <| stable_cons (stable_val _) <| stable_cons (stable_val _) <| stable_cons (stable_val _) <| stable_cons (stable_val _) <| stable_cons (stable_val _) <| stable_cons (stable_val _) <| stable_cons (stable_val _) <| stable_cons (stable_val _) <| stable_cons (stable_val _) <| stable_cons (stable_val _) <| stable_cons (stable_val _) <| stable_cons (stable_val _) <| stable_cons (stable_val _) <| stable_cons (stable_val _) <| stable_cons (stable_val _) <| stable_cons (stable_val _) <| stable_cons (stable_val _) <| stable_cons (stable_val _) <| stable_cons (stable_val _) <| stable_cons (stable_val _) <| stable_cons (stable_val _) <| stable_cons (stable_val _) <| stable_cons (stable_val _) <| stable_cons (stable_val _) <| stable_cons (stable_val _) <| stable_nil
  · refine opsOkA_cons ?_ ?_
    · intro K vs W hR hD hK
      clear hD
      try dsimp only at hK ⊢
      simp only [Act.put, List.setIfInBounds_toArray, List.set_cons_succ, List.set_cons_zero] at hK
      go_wp2
      exact hK _ _ rfl (Mod.refl _ _)
    refine opsOkA_cons ?_ ?_
    · intro K vs W hR hD hK
      have dq0 : vs 0 = .bool true := hD 0 (by decide)
      clear hD
      try dsimp only at hK ⊢
      simp only [Act.put, List.setIfInBounds_toArray, List.set_cons_succ, List.set_cons_zero] at hK
      generalize vs 0 = vq0 at hK dq0 ⊢
      subst vq0
      go_wp2
      exact hK _ _ rfl (Mod.refl _ _)
    refine opsOkA_cons ?_ ?_
    · intro K vs W hR hD hK
      have dq1 : vs 1 = .bool true := hD 1 (by decide)
      clear hD
      try dsimp only at hK ⊢
      simp only [Act.put, List.setIfInBounds_toArray, List.set_cons_succ, List.set_cons_zero] at hK
      generalize vs 1 = vq1 at hK dq1 ⊢
      subst vq1
      have hbx := (HSd.out.at (hR)).2.2.2.2.2.2.1
      have q0 := hbx.cell 0 rfl
      have q1 := hbx.cell 1 rfl
      have q2 := hbx.cell 2 rfl
      have q3 := hbx.cell 3 rfl
      go_wp2
      exact hK _ _ rfl (Mod.refl _ _)
    refine opsOkA_cons ?_ ?_
    · intro K vs W hR hD hK
      have dq1 : vs 1 = .bool true := hD 1 (by decide)
      clear hD
      try dsimp only at hK ⊢
      simp only [Act.put, List.setIfInBounds_toArray, List.set_cons_succ, List.set_cons_zero] at hK
      generalize vs 1 = vq1 at hK dq1 ⊢
      subst vq1
      go_wp2
      exact hK _ _ rfl (Mod.refl _ _)
    refine opsOkA_cons ?_ ?_
    · intro K vs W hR hD hK
      have dq1 : vs 1 = .bool true := hD 1 (by decide)
      have dq2 : vs 2 = .agg #[.int .i64 9, .int .i64 (-1), .int .i64 0, .int .i64 0] := hD 2 (by decide)
      have dq3 : vs 3 = .agg #[.int .i64 9, .int .i64 (-1), .int .i64 0, .int .i64 0] := hD 3 (by decide)
      clear hD
      try dsimp only at hK ⊢
      simp only [Act.put, List.setIfInBounds_toArray, List.set_cons_succ, List.set_cons_zero] at hK
      generalize vs 1 = vq1 at hK dq1 ⊢
      subst vq1
      generalize vs 2 = vq2 at hK dq2 ⊢
      subst vq2
      generalize vs 3 = vq3 at hK dq3 ⊢
      subst vq3
      go_wp2
      exact hK _ _ rfl (Mod.refl _ _)
    refine opsOkA_cons ?_ ?_
    · intro K vs W hR hD hK
      have dq1 : vs 1 = .bool true := hD 1 (by decide)
      have dq4 : vs 4 = .bool true := hD 4 (by decide)
      clear hD
      try dsimp only at hK ⊢
      simp only [Act.put, List.setIfInBounds_toArray, List.set_cons_succ, List.set_cons_zero] at hK
      generalize vs 1 = vq1 at hK dq1 ⊢
      subst vq1
      generalize vs 4 = vq4 at hK dq4 ⊢
      subst vq4
      go_wp2
      exact hK _ _ rfl (Mod.refl _ _)
    refine opsOkA_cons ?_ ?_
    · intro K vs W hR hD hK
      have dq5 : vs 5 = .bool true := hD 5 (by decide)
      clear hD
      try dsimp only at hK ⊢
      simp only [Act.put, List.setIfInBounds_toArray, List.set_cons_succ, List.set_cons_zero] at hK
      generalize vs 5 = vq5 at hK dq5 ⊢
      subst vq5
      go_wp2
      exact hK _ _ rfl (Mod.refl _ _)
    refine opsOkA_cons ?_ ?_
    · intro K vs W hR hD hK
      have dq6 : vs 6 = .bool true := hD 6 (by decide)
      clear hD
      try dsimp only at hK ⊢
      simp only [Act.put, List.setIfInBounds_toArray, List.set_cons_succ, List.set_cons_zero] at hK
      generalize vs 6 = vq6 at hK dq6 ⊢
      subst vq6
      go_wp2
      exact hK _ _ rfl (Mod.refl _ _)
    refine opsOkA_cons ?_ ?_
    · intro K vs W hR hD hK
      have dq6 : vs 6 = .bool true := hD 6 (by decide)
      have dq7 : vs 7 = .bool false := hD 7 (by decide)
      clear hD
      try dsimp only at hK ⊢
      simp only [Act.put, List.setIfInBounds_toArray, List.set_cons_succ, List.set_cons_zero] at hK
      generalize vs 6 = vq6 at hK dq6 ⊢
      subst vq6
      generalize vs 7 = vq7 at hK dq7 ⊢
      subst vq7
      go_wp2
      exact hK _ _ rfl (Mod.refl _ _)
    refine opsOkA_cons ?_ ?_
    · intro K vs W hR hD hK
      have dq6 : vs 6 = .bool true := hD 6 (by decide)
      have dq8 : vs 8 = .bool true := hD 8 (by decide)
      clear hD
      try dsimp only at hK ⊢
      simp only [Act.put, List.setIfInBounds_toArray, List.set_cons_succ, List.set_cons_zero] at hK
      generalize vs 6 = vq6 at hK dq6 ⊢
      subst vq6
      generalize vs 8 = vq8 at hK dq8 ⊢
      subst vq8
      go_wp2
      exact hK _ _ rfl (Mod.refl _ _)
    refine opsOkA_cons ?_ ?_
    · intro K vs W hR hD hK
      have dq9 : vs 9 = .bool true := hD 9 (by decide)
      clear hD
      try dsimp only at hK ⊢
      simp only [Act.put, List.setIfInBounds_toArray, List.set_cons_succ, List.set_cons_zero] at hK
      generalize vs 9 = vq9 at hK dq9 ⊢
      subst vq9
      go_wp2
      exact hK _ _ rfl (Mod.refl _ _)
    refine opsOkA_cons ?_ ?_
    · intro K vs W hR hD hK
      have dq10 : vs 10 = .bool true := hD 10 (by decide)
      clear hD
      try dsimp only at hK ⊢
      simp only [Act.put, List.setIfInBounds_toArray, List.set_cons_succ, List.set_cons_zero] at hK
      generalize vs 10 = vq10 at hK dq10 ⊢
      subst vq10
      go_wp2
      exact hK _ _ rfl (Mod.refl _ _)
    refine opsOkA_cons ?_ ?_
    · intro K vs W hR hD hK
      have dq10 : vs 10 = .bool true := hD 10 (by decide)
      have dq11 : vs 11 = .slice al 1 cl := hD 11 (by decide)
      clear hD
      try dsimp only at hK ⊢
      simp only [Act.put, List.setIfInBounds_toArray, List.set_cons_succ, List.set_cons_zero] at hK
      generalize vs 10 = vq10 at hK dq10 ⊢
      subst vq10
      generalize vs 11 = vq11 at hK dq11 ⊢
      subst vq11
      go_wp2_with fail
      exact hK _ _ rfl (Mod.refl _ _)
    refine opsOkA_cons ?_ ?_
    · intro K vs W hR hD hK
      have dq10 : vs 10 = .bool true := hD 10 (by decide)
      have dq12 : vs 12 = .int .i64 (1 : Int) := hD 12 (by decide)
      clear hD
      try dsimp only at hK ⊢
      simp only [Act.put, List.setIfInBounds_toArray, List.set_cons_succ, List.set_cons_zero] at hK
      generalize vs 10 = vq10 at hK dq10 ⊢
      subst vq10
      generalize vs 12 = vq12 at hK dq12 ⊢
      subst vq12
      go_wp2
      exact hK _ _ rfl (Mod.refl _ _)
    refine opsOkA_cons ?_ ?_
    · intro K vs W hR hD hK
      have dq10 : vs 10 = .bool true := hD 10 (by decide)
      have dq13 : vs 13 = .bool true := hD 13 (by decide)
      clear hD
      try dsimp only at hK ⊢
      simp only [Act.put, List.setIfInBounds_toArray, List.set_cons_succ, List.set_cons_zero] at hK
      generalize vs 10 = vq10 at hK dq10 ⊢
      subst vq10
      generalize vs 13 = vq13 at hK dq13 ⊢
      subst vq13
      go_wp2
      exact hK _ _ rfl (Mod.refl _ _)
    refine opsOkA_cons ?_ ?_
    · intro K vs W hR hD hK
      have dq14 : vs 14 = .bool true := hD 14 (by decide)
      clear hD
      try dsimp only at hK ⊢
      simp only [Act.put, List.setIfInBounds_toArray, List.set_cons_succ, List.set_cons_zero] at hK
      generalize vs 14 = vq14 at hK dq14 ⊢
      subst vq14
      go_wp2
      exact hK _ _ rfl (Mod.refl _ _)
    refine opsOkA_cons ?_ ?_
    · intro K vs W hR hD hK
      have dq15 : vs 15 = .bool true := hD 15 (by decide)
      clear hD
      try dsimp only at hK ⊢
      simp only [Act.put, List.setIfInBounds_toArray, List.set_cons_succ, List.set_cons_zero] at hK
      generalize vs 15 = vq15 at hK dq15 ⊢
      subst vq15
      go_wp2
      exact hK _ _ rfl (Mod.refl _ _)
    refine opsOkA_cons ?_ ?_
    · intro K vs W hR hD hK
      have dq15 : vs 15 = .bool true := hD 15 (by decide)
      have dq16 : vs 16 = .slice al 1 cl := hD 16 (by decide)
      clear hD
      try dsimp only at hK ⊢
      simp only [Act.put, List.setIfInBounds_toArray, List.set_cons_succ, List.set_cons_zero] at hK
      generalize vs 15 = vq15 at hK dq15 ⊢
      subst vq15
      generalize vs 16 = vq16 at hK dq16 ⊢
      subst vq16
      have hix : ∀ wx : World, (Instr.indexAt 61 (.slice al 1 cl) (.int .i64 0)).run Try.prog wx = .ok (.pointer (some ⟨eb, eo, none⟩)) wx := HIe.out
      go_wp2_with fail
      exact hK _ _ rfl (Mod.refl _ _)
    refine opsOkA_cons ?_ ?_
    · intro K vs W hR hD hK
      have dq15 : vs 15 = .bool true := hD 15 (by decide)
      have dq17 : vs 17 = .pointer (some ⟨eb, eo, none⟩) := hD 17 (by decide)
      clear hD
      try dsimp only at hK ⊢
      simp only [Act.put, List.setIfInBounds_toArray, List.set_cons_succ, List.set_cons_zero] at hK
      generalize vs 15 = vq15 at hK dq15 ⊢
      subst vq15
      generalize vs 17 = vq17 at hK dq17 ⊢
      subst vq17
      have q0 := (HSd.out.at (hR)).2.2.2.1
      have q1 := (HSd.out.at (hR)).2.2.1
      have q2 := (HSd.out.at (hR)).2.1
      have q3 := (HSd.out.at (hR)).1
      go_wp2
      exact hK _ _ rfl (Mod.refl _ _)
    refine opsOkA_cons ?_ ?_
    · intro K vs W hR hD hK
      have dq15 : vs 15 = .bool true := hD 15 (by decide)
      clear hD
      try dsimp only at hK ⊢
      simp only [Act.put, List.setIfInBounds_toArray, List.set_cons_succ, List.set_cons_zero] at hK
      generalize vs 15 = vq15 at hK dq15 ⊢
      subst vq15
      have hbx := (HSd.out.at (hR)).2.2.2.2.2.2.1
      have q0 := hbx.cell 0 rfl
      have q1 := hbx.cell 1 rfl
      have q2 := hbx.cell 2 rfl
      have q3 := hbx.cell 3 rfl
      go_wp2
      exact hK _ _ rfl (Mod.refl _ _)
    refine opsOkA_cons ?_ ?_
    · intro K vs W hR hD hK
      have dq15 : vs 15 = .bool true := hD 15 (by decide)
      have dq18 : vs 18 = .agg #[.int .i64 9, .int .i64 (-1), .int .i64 0, .int .i64 0] := hD 18 (by decide)
      have dq19 : vs 19 = .agg #[.int .i64 9, .int .i64 (-1), .int .i64 0, .int .i64 0] := hD 19 (by decide)
      clear hD
      try dsimp only at hK ⊢
      simp only [Act.put, List.setIfInBounds_toArray, List.set_cons_succ, List.set_cons_zero] at hK
      generalize vs 15 = vq15 at hK dq15 ⊢
      subst vq15
      generalize vs 18 = vq18 at hK dq18 ⊢
      subst vq18
      generalize vs 19 = vq19 at hK dq19 ⊢
      subst vq19
      go_wp2
      exact hK _ _ rfl (Mod.refl _ _)
    refine opsOkA_cons ?_ ?_
    · intro K vs W hR hD hK
      have dq15 : vs 15 = .bool true := hD 15 (by decide)
      have dq20 : vs 20 = .bool true := hD 20 (by decide)
      clear hD
      try dsimp only at hK ⊢
      simp only [Act.put, List.setIfInBounds_toArray, List.set_cons_succ, List.set_cons_zero] at hK
      generalize vs 15 = vq15 at hK dq15 ⊢
      subst vq15
      generalize vs 20 = vq20 at hK dq20 ⊢
      subst vq20
      go_wp2
      exact hK _ _ rfl (Mod.refl _ _)
    refine opsOkA_cons ?_ ?_
    · intro K vs W hR hD hK
      have dq21 : vs 21 = .bool true := hD 21 (by decide)
      clear hD
      try dsimp only at hK ⊢
      simp only [Act.put, List.setIfInBounds_toArray, List.set_cons_succ, List.set_cons_zero] at hK
      generalize vs 21 = vq21 at hK dq21 ⊢
      subst vq21
      go_wp2
      exact hK _ _ rfl (Mod.refl _ _)
    refine opsOkA_cons ?_ ?_
    · intro K vs W hR hD hK
      have dq22 : vs 22 = .bool true := hD 22 (by decide)
      clear hD
      try dsimp only at hK ⊢
      simp only [Act.put, List.setIfInBounds_toArray, List.set_cons_succ, List.set_cons_zero] at hK
      generalize vs 22 = vq22 at hK dq22 ⊢
      subst vq22
      go_wp2_with (go_at_call 32; refine (gall_nil W 0).mono ?_; rintro e' w' ⟨rfl, hm'⟩)
      exact hK _ _ rfl hm'
    refine opsOkA_cons ?_ ?_
    · intro K vs W hR hD hK
      have dq22 : vs 22 = .bool true := hD 22 (by decide)
      have dq23 : vs 23 = .slice none 0 0 := hD 23 (by decide)
      clear hD
      try dsimp only at hK ⊢
      simp only [Act.put, List.setIfInBounds_toArray, List.set_cons_succ, List.set_cons_zero] at hK
      generalize vs 22 = vq22 at hK dq22 ⊢
      subst vq22
      generalize vs 23 = vq23 at hK dq23 ⊢
      subst vq23
      go_wp2_with fail
      exact hK _ _ rfl (Mod.refl _ _)
    refine opsOkA_cons ?_ ?_
    · intro K vs W hR hD hK
      have dq22 : vs 22 = .bool true := hD 22 (by decide)
      have dq24 : vs 24 = .int .i64 0 := hD 24 (by decide)
      clear hD
      try dsimp only at hK ⊢
      simp only [Act.put, List.setIfInBounds_toArray, List.set_cons_succ, List.set_cons_zero] at hK
      generalize vs 22 = vq22 at hK dq22 ⊢
      subst vq22
      generalize vs 24 = vq24 at hK dq24 ⊢
      subst vq24
      go_wp2
      exact hK _ _ rfl (Mod.refl _ _)
    refine opsOkA_cons ?_ ?_
    · intro K vs W hR hD hK
      have dq22 : vs 22 = .bool true := hD 22 (by decide)
      have dq25 : vs 25 = .bool true := hD 25 (by decide)
      clear hD
      try dsimp only at hK ⊢
      simp only [Act.put, List.setIfInBounds_toArray, List.set_cons_succ, List.set_cons_zero] at hK
      generalize vs 22 = vq22 at hK dq22 ⊢
      subst vq22
      generalize vs 25 = vq25 at hK dq25 ⊢
      subst vq25
      go_wp2
      exact hK _ _ rfl (Mod.refl _ _)
    refine opsOkA_cons ?_ ?_
    · intro K vs W hR hD hK
      have dq26 : vs 26 = .bool true := hD 26 (by decide)
      clear hD
      try dsimp only at hK ⊢
      simp only [Act.put, List.setIfInBounds_toArray, List.set_cons_succ, List.set_cons_zero] at hK
      generalize vs 26 = vq26 at hK dq26 ⊢
      subst vq26
      go_wp2
      exact hK _ _ rfl (Mod.refl _ _)
    exact opsOkA_nil
  · intro vs wq7 hR hF
    have dq27 : vs 27 = .bool true := hF 27 (by decide)
    clear hF
    try dsimp only
    generalize vs 27 = vq27 at dq27 ⊢
    subst dq27
    replace HS := Lib.hid (HSd.out.step hR)
    clear HSd hR
    have hbbh := (HS.out.now).2.2.2.2.2.2.1
    have qbh_0 := hbbh.cell 0 rfl
    have qbh_1 := hbbh.cell 1 rfl
    have qbh_2 := hbbh.cell 2 rfl
    have qbh_3 := hbbh.cell 3 rfl
    have lbh := hbbh.lt
    clear hbbh
    go_wp2_with fail
    go_ret
    exact ⟨rfl, (HS.out.now).2.2.2.2.2.2.2.2.2.2⟩
end Go.Proofs.Ytagmnkobigecnaa
