/- rank's Begin and around, by contract. -/
import Derived.Test.YtjjedebjbgpimaaGreatKRkC
import Derived.Deep.DeepCutAuto
import Derived.Deep.CutBlock
namespace Go.Proofs.YtjjedebjbgpimaaGreat
open Go.RowKit Mile
set_option maxRecDepth 100000
attribute [local go_sem] Oper.semAt_some
theorem made_near (n : Nat) : (madeCells #[Value.slice none 0 0, Value.map none] (n * 2)).toList = nearC (fun _ => .slice none 0 0) (fun _ => none) n := by
 unfold madeCells
 rw [Array.toList_map, Array.toList_range]
 induction n with
 | zero => rfl
 | succ n ih =>
  rw [show (n + 1) * 2 = n * 2 + 1 + 1 by omega, List.range_succ, List.range_succ, List.map_append, List.map_append, ih, nearC_succ, List.append_assoc]
  congr 1
  simp
theorem RM.setL {w w' : World} {p q tp n : Nat} {L : List Ar} {D : Nat → Int → List Int} {al : Nat → Value} {ml : Nat → Option Nat} {le : Nat → Int → Option Value} (h : RM w p q tp n L D al ml le) {i u : Nat} (hi : i < n) (hu : u < n) {x : Value} {R : List Stp} (hx : RowS w x R) (hs : RowOf n L i (u : Int) (D i (u : Int)) 30 R) (hov : ∃ R, RowS w (al i) R ∧ ∃ s ∈ R, s.1 = (u : Int))
  {b' : Nat} (hb' : ml i = some b' ∨ (ml i = none ∧ w.heap.size ≤ b')) (hrow : Blk w' q 153 (nearC al (upN ml i (some b')) n)) (hv : VMap Tryz.prog 3 w' b' (fun j => if j = (u : Int) then some x else le i j)) (hm : Mod (fun k => k = q ∨ ml i = some k) w w') :
  RM w' p q tp n L D al (upN ml i (some b')) (upN le i (fun j => if j = (u : Int) then some x else le i j)) := by
 have hq := BlT.blk h.row
 have hnot : ∀ {k : Nat} {T : TypeId}, BlT w k T → ml i ≠ some k := fun hk e => vmap_not (h.mv i hi _ e) hk rfl
 have hr : ∀ {v : Value} {R : List Stp}, RowS w v R → RowS w' v R := fun hv => hv.keep hm (fun k hk e => e.elim (fun e => BlT.ne (hv.ty hk) hq (by decide) e) (fun e => hnot (hv.ty hk) e))
 refine ⟨h.n512, h.blk.keep hm (fun e => e.elim h.pq (fun e => hnot (BlT.blk h.blk) e)), hrow, fun j hj => (h.av j hj).imp id (fun ⟨R, h1, h2⟩ => ⟨R, hr h1, h2⟩), fun j hj b hb => ?_, fun j hj hb => ?_, fun j hj v y hy => ?_, fun j hj v y hy => ?_, fun j k hj hk b hb1 hb2 => ?_⟩
 ·
  by_cases e : j = i
  ·
   subst e
   rw [upN_at] at hb ⊢
   rw [← Option.some.inj hb]
   exact hv
  ·
   rw [upN_ne _ _ e] at hb ⊢
   refine (h.mv j hj b hb).keep hm (fun e2 => e2.elim (fun e2 => vmap_not (h.mv j hj b hb) hq e2) (fun e2 => e (h.one j i hj hi b hb e2)))
 ·
  by_cases e : j = i
  ·
   subst e; rw [upN_at] at hb; cases hb
  ·
   rw [upN_ne _ _ e] at hb ⊢; exact h.ml0 j hj hb
 ·
  by_cases e : j = i
  ·
   subst e
   rw [upN_at] at hy
   by_cases e2 : v = (u : Int)
   ·
    rw [if_pos e2] at hy
    rw [← Option.some.inj hy]
    exact ⟨u, R, e2, hu, hr hx, hs⟩
   ·
    rw [if_neg e2] at hy
    obtain ⟨u2, R2, h1, h2, h3, h4⟩ := h.lv j hj v y hy
    exact ⟨u2, R2, h1, h2, hr h3, h4⟩
  ·
   rw [upN_ne _ _ e] at hy
   obtain ⟨u2, R2, h1, h2, h3, h4⟩ := h.lv j hj v y hy
   exact ⟨u2, R2, h1, h2, hr h3, h4⟩
 ·
  by_cases e : j = i
  ·
   subst e
   rw [upN_at] at hy
   by_cases e2 : v = (u : Int)
   ·
    obtain ⟨R2, h1, h2⟩ := hov
    rw [e2]
    exact ⟨R2, hr h1, h2⟩
   ·
    rw [if_neg e2] at hy
    obtain ⟨R2, h1, h2⟩ := h.ov j hj v y hy
    exact ⟨R2, hr h1, h2⟩
  ·
   rw [upN_ne _ _ e] at hy
   obtain ⟨R2, h1, h2⟩ := h.ov j hj v y hy
   exact ⟨R2, hr h1, h2⟩
 ·
  have hnew : ∀ j, j < n → j ≠ i → ml j ≠ some b' := fun j hj hji e => by
   rcases hb' with e2 | ⟨e2, e3⟩
   ·
    exact hji (h.one j i hj hi b' e e2)
   ·
    have := (h.mv j hj b' e).lt; omega
  by_cases e1 : j = i
  ·
   by_cases e2 : k = i
   ·
    omega
   ·
    subst e1
    rw [upN_at] at hb1; rw [upN_ne _ _ e2] at hb2
    rw [← Option.some.inj hb1] at hb2
    exact absurd hb2 (hnew k hk e2)
  ·
   by_cases e2 : k = i
   ·
    subst e2
    rw [upN_at] at hb2; rw [upN_ne _ _ e1] at hb1
    rw [← Option.some.inj hb2] at hb1
    exact absurd hb1 (hnew j hj e1)
   ·
    rw [upN_ne _ _ e1] at hb1; rw [upN_ne _ _ e2] at hb2
    exact h.one j k hj hk b hb1 hb2
theorem RM.look {w : World} {p q tp n : Nat} {L : List Ar} {D : Nat → Int → List Int} {al : Nat → Value} {ml : Nat → Option Nat} {le : Nat → Int → Option Value} (h : RM w p q tp n L D al ml le) {i : Nat} (hi : i < n) (v : Int) (hv : -1000000000000000 ≤ v ∧ v ≤ 1000000000000000) :
  (Instr.lookup 151 (.map (ml i)) (.int .i64 v) true).run Tryz.prog w = .ok (.tuple #[(le i v).getD (.slice none 0 0), .bool (le i v).isSome]) w := by
 cases e : ml i with
 | none =>
  rw [h.ml0 i hi e]
  exact vlook_none Tryz.underlying151 Tryz.underlying3 (by kernel_rfl) v (i64_small v hv)
 | some b => exact (h.mv i hi b e).look Tryz.underlying151 Tryz.underlying3 (by kernel_rfl) v (i64_small v hv)
def BegP (tp n : Nat) (L : List Ar) (D : Nat → Int → List Int) (w : World) (e : Ending) (w' : World) : Prop := ∃ p F, e = .returned (.pointer (some ⟨p, 0, none⟩)) ∧ RO w' p tp n L D F ∧ (∀ k, F k → w.heap.size ≤ k) ∧ Mod (fun _ => False) w w'
set_option maxHeartbeats 4000000 in
theorem begin_any {w : World} {tp n : Nat} {L : List Ar} {FN : Nat → Prop} (hN : NT w tp n L FN) (D : Nat → Int → List Int) : Calls Tryz.prog 55 #[.pointer (some ⟨tp, 0, none⟩)] w (BegP tp n L D w) := by
 obtain ⟨iN, hiN, hzN, hsN, hbN⟩ := info_parts infoNr
 have h512 := hN.n512
 have hmk : ∀ wx, (Instr.makeSlice 112 (.int .i64 (n : Int)) (.int .i64 (n : Int))).run Tryz.prog wx = .ok (.slice (some ⟨wx.heap.size, 0, none⟩) n n) (wx.alloc (.cells (madeCells #[Value.slice none 0 0, Value.map none] (n * 2)) 153)) := fun wx => by
  have h := run_make (P := Tryz.prog) (w := wx) 112 153 iN (.agg #[.slice none 0 0, .map none]) Tryz.underlying112 hiN hzN .i64 .i64 (n : Int) (n : Int) (by omega) (Int.le_refl _) (by rw [hbN]; omega) (by omega)
  rw [hsN, show (Value.agg #[.slice none 0 0, .map none]).cells = #[Value.slice none 0 0, Value.map none] from rfl] at h
  simpa using h
 have HL := Lib.hid (nt_len hN)
 obtain ⟨w1, hw1⟩ : ∃ y, w.alloc (.cells (madeCells #[Value.slice none 0 0, Value.map none] (n * 2)) 153) = y := ⟨_, rfl⟩
 have hm1 : Mod (fun _ => False) w w1 := by rw [← hw1]; exact Mod.alloc _ _ _
 have hz1 : w1.heap.size = w.heap.size + 1 := by rw [← hw1]; exact heap_size_alloc _ _
 have hb1 : Blk w1 w.heap.size 153 (nearC (fun _ => .slice none 0 0) (fun _ => none) n) := by
  rw [← hw1, ← made_near n]
  have := Blk.new w 153 (madeCells #[Value.slice none 0 0, Value.map none] (n * 2)).toList
  simpa using this
 obtain ⟨w2, hw2⟩ : ∃ y, w1.alloc (.cells #[.pointer (some ⟨tp, 0, none⟩), .slice (some ⟨w.heap.size, 0, none⟩) n n] 114) = y := ⟨_, rfl⟩
 have hm2 : Mod (fun _ => False) w1 w2 := by rw [← hw2]; exact Mod.alloc _ _ _
 have hb2 : Blk w2 w1.heap.size 114 [.pointer (some ⟨tp, 0, none⟩), .slice (some ⟨w.heap.size, 0, none⟩) n n] := by rw [← hw2]; exact Blk.new w1 114 _
 have hRM : RM w2 w1.heap.size w.heap.size tp n L D (fun _ => .slice none 0 0) (fun _ => none) (fun _ _ => none) :=
  ⟨h512, hb2, hb1.keep hm2 (fun e => e), fun _ _ => .inl rfl, fun _ _ _ h => (by cases h), fun _ _ _ => rfl, fun _ _ _ _ h => (by cases h), fun _ _ _ _ h => (by cases h), fun _ _ _ _ _ h => (by cases h)⟩
 have hFB : ∀ k, rmF w1.heap.size w.heap.size n (fun _ => .slice none 0 0) (fun _ => none) (fun _ _ => none) k → w.heap.size ≤ k := fun k hk => by
  rcases hk with rfl | rfl | ⟨i, _, hk⟩ | ⟨i, _, hk⟩ | ⟨i, _, v, x, hx, _⟩
  ·
   omega
  ·
   exact Nat.le_refl _
  ·
   cases hk
  ·
   cases hk
  ·
   cases hx
 have hfin : BegP tp n L D w (.returned (.pointer (some ⟨w1.heap.size, 0, none⟩))) w2 := ⟨w1.heap.size, rmF w1.heap.size w.heap.size n (fun _ => .slice none 0 0) (fun _ => none) (fun _ _ => none), rfl, ⟨_, _, _, _, hRM, rfl⟩, hFB, hm1.of2 hm2⟩
 have HF := Lib.hid hfin
 clear hN hb1 hm1 hm2 hb2 hRM hfin hz1 hFB
 go_enter Tryz.func55, Tryz.ntmps55
 go_wp2_with fail
 refine HL.out.mono ?_
 rintro e w' ⟨rfl, rfl⟩
 go_wp2_with fail
 go_ret
 (try rw [hw1])
 (try rw [hw2])
 exact HF.out
def AroP (p tp n : Nat) (L : List Ar) (D : Nat → Int → List Int) (F : Nat → Prop) (fr v : Nat) (w : World) (e : Ending) (w' : World) : Prop :=
 ∃ a c R, e = .returned (.slice a R.length c) ∧ AOk n (D fr (v : Int)) v R ∧ R.length ≤ 31 ∧ Rd w' 3 (.slice a R.length c) R.length (R.flatMap c3s) ∧ RQ p tp n L D F w w'
theorem elemA_lit2 (b j : Nat) : elemA (some ⟨b, 0, none⟩) j 2 = ⟨b, j * 2, none⟩ := by simp [elemA, Addr.add_lit]
theorem stops_len {n : Nat} {L : List Ar} {fr : Nat} {wo : Int} {d : List Int} {st : Nat} {R : List Stp} (h : RowOf n L fr wo d st R) : R.length ≤ st := by
 obtain ⟨T, us, _, hR, rfl⟩ := h
 unfold stpsOf
 rw [List.length_map]
 exact hR.2.2.2.1
theorem any_at {R : List Stp} {v : Int} (h : R.any (fun x => x.1 == v) = true) : ∃ x ∈ R, x.1 = v := by
 obtain ⟨x, h1, h2⟩ := List.any_eq_true.1 h
 exact ⟨x, h1, by simpa using h2⟩
theorem any_no {R : List Stp} {v : Int} (h : R.any (fun x => x.1 == v) = false) : ∀ x ∈ R, x.1 ≠ v := fun x hx e => by
 have := List.any_eq_false.1 h x hx
 simp [e] at this
theorem any_novia {R : List Stp} {v : Int} (h : R.any (fun x => x.2.2 == v) = false) : ∀ x ∈ R, x.2.2 ≠ v := fun x hx e => by
 have := List.any_eq_false.1 h x hx
 simp [e] at this
theorem any_via {n : Nat} {L : List Ar} {fr v : Nat} {wo : Int} {d : List Int} {st : Nat} {R : List Stp} (h : RowOf n L fr wo d st R) (ha : R.any (fun x => x.2.2 == (v : Int)) = true) : ∃ s ∈ R, s.1 = (v : Int) := by
 obtain ⟨x, h1, h2⟩ := List.any_eq_true.1 ha
 exact h.via h1 (by simpa using h2)
theorem take_c3s (R : List Stp) (k : Nat) : (R.flatMap c3s).take (k * 3) = (R.take k).flatMap c3s := by
 induction R generalizing k with
 | nil => simp
 | cons x R ih =>
  cases k with
  | zero => simp
  | succ k =>
   rw [List.flatMap_cons, List.take_succ_cons, List.flatMap_cons, ← ih k, show (k + 1) * 3 = (c3s x).length + k * 3 by simp [c3s]; omega, List.take_length_add_append]
theorem rd_take3 {w : World} {len cap n m : Nat} {a : Option Addr} {xs : List Value} (h : Rd w 3 (.slice a len cap) len xs) (hn : n ≤ len) (hm : m = 30 ∧ n = 30 ∨ n = len ∧ len ≤ m) : Rd w 3 (.slice a n cap) n (xs.take (m * 3)) := by
 have h1 := h.take hn
 rcases hm with ⟨rfl, rfl⟩ | ⟨rfl, h3⟩
 ·
  exact h1
 ·
  rw [List.take_of_length_le (by have := h.1; omega)] at h1 ⊢
  exact h1
theorem stops_ne {n : Nat} {L : List Ar} {fr : Nat} {d : List Int} {R : List Stp} (hf : Fix (netW n L (fr : Int) (-1)) d) (hfr : fr < n) (h : RowOf n L fr (-1) d 31 R) : R ≠ [] := by
 obtain ⟨T, us, _, hR, rfl⟩ := h
 intro e
 have hT : T = [] := by
  unfold stpsOf at e
  exact List.map_eq_nil_iff.1 e
 subst hT
 rcases hR.2.2.2.2 with hc | hc
 ·
  simp at hc
 ·
  have h0 := hf.st fr ⟨rfl, by omega⟩ hfr
  have := hc fr (by omega)
  cases this
set_option maxHeartbeats 16000000 in
theorem around_any {w : World} {p tp n : Nat} {L : List Ar} {D : Nat → Int → List Int} {F FN : Nat → Prop} (h : RO w p tp n L D F) (hN : NT w tp n L FN) (hap : ∀ k, FN k → ¬ F k) (hw : ∀ a ∈ L, a.w ≤ 1099511627776) (hD : DOk n L D) (fr v : Nat) (hfr : fr < n) (hv : v < n) :
  Calls Tryz.prog 116 #[.pointer (some ⟨p, 0, none⟩), .int .i64 (fr : Int), .int .i64 (v : Int)] w (AroP p tp n L D F fr v w) := by
 obtain ⟨q, al, ml, le, hRM, rfl⟩ := h
 obtain ⟨iN, hiN, hzN, hsN, hbN⟩ := info_parts infoNr
 have h512 := hRM.n512
 have HWT := Lib.hid hw
 have HD := Lib.hid hD
 have HAP := Lib.hid hap
 have hix := fun wx => run_indexS (P := Tryz.prog) wx 112 153 iN 2 Tryz.underlying112 hiN hsN (some ⟨q, 0, none⟩) n n fr hfr (by simp)
 rw [elemA_lit2] at hix
 have heq := fun (wx : World) a n c => Lib.run_eql_slice_nil (P := Tryz.prog) wx 145 148 a n c 0 0 Tryz.underlying145
 have b0 := hRM.blk.cell 0 rfl
 have b1 := hRM.blk.cell 1 rfl
 have hNW := hN
 have hall := hRM.av fr hfr
 clear hap hw hD hN
 rcases hall with hnil | hav
 ·
  have bA := hRM.row.cell (fr * 2) (nearC_at al ml n fr hfr).1
  rw [hnil] at bA
  have hWA := Lib.hid (waround hNW HWT.out fr hfr (-1) 31 _ (HD.out fr (-1)))
  have HRM0 := Lib.hid hRM
  have HNW0 := Lib.hid hNW
  clear hRM hNW
  go_enter Tryz.func116, Tryz.ntmps116
  go_wp2_with fail
  refine hWA.out.mono ?_
  rintro e w2 ⟨a2, c2, R2, rfl, hs2, ho2, hm2⟩
  replace hs2 := hs2.row h512 (HD.out fr (-1))
  have hx2 : RowS w2 (.slice a2 R2.length c2) R2 := ⟨a2, c2, rfl, own_base ho2 (fun _ _ => Nat.zero_le _)⟩
  have hrm2 := HRM0.out.later hm2
  have hqf := hrm2.row.free (fr * 2)
  have hqc := hrm2.row.cell (fr * 2) (nearC_at al ml n fr hfr).1
  have hRM := hrm2.setA hfr hnil hx2 (stops_ne (HD.out fr (-1)) hfr hs2) hs2
  have hNW := (HNW0.out.later hm2).keep (Mod.setCell (F := fun k => k = q) w2 ⟨q, fr * 2, none⟩ (.slice a2 R2.length c2) rfl) (fun k hk e => HAP.out k hk (.inr (.inl e)))
  have hav := hRM.av fr hfr
  rw [upN_at] at hav
  replace hav := hav.resolve_left (fun e => by
   have h1 := stops_ne (HD.out fr (-1)) hfr hs2
   have h2 : R2.length = 0 := by injection e
   exact h1 (List.eq_nil_of_length_eq_zero h2))
  obtain ⟨al1, hal1⟩ : ∃ y, upN al fr (.slice a2 R2.length c2) = y := ⟨_, rfl⟩
  have hval : al1 fr = .slice a2 R2.length c2 := by rw [← hal1, upN_at]
  rw [hal1] at hRM
  have hnewF : ∀ k, rmF p q n al1 ml le k → rmF p q n al ml le k ∨ w.heap.size ≤ k := fun k hk => by
   rcases hk with hk | hk | hk | ⟨i, hi, hk⟩ | hk
   ·
    exact .inl (.inl hk)
   ·
    exact .inl (.inr (.inl hk))
   ·
    exact .inl (.inr (.inr (.inl hk)))
   ·
    by_cases e : i = fr
    ·
     subst e
     rw [hval] at hk
     exact .inr (ho2.lt k hk).1
    ·
     rw [← hal1, upN_ne _ _ e] at hk
     exact .inl (.inr (.inr (.inr (.inl ⟨i, hi, hk⟩))))
   ·
    exact .inl (.inr (.inr (.inr (.inr hk))))
  have hsetm : Mod (fun k => k = q) w2 (w2.setCell ⟨q, fr * 2, none⟩ (.slice a2 R2.length c2)) := Mod.setCell _ _ _ rfl
  have hmod : Mod (rmF p q n al ml le) w (w2.setCell ⟨q, fr * 2, none⟩ (.slice a2 R2.length c2)) := hm2.trans hsetm (fun _ _ e => e.elim) (fun k _ e => .inr (.inl e))
  obtain ⟨w3, hw3⟩ : ∃ y, w2.setCell ⟨q, fr * 2, none⟩ (.slice a2 R2.length c2) = y := ⟨_, rfl⟩
  rw [hw3] at hRM hNW hmod hav
  rw [← hval] at hav
  have HNF := Lib.hid (And.intro hnewF hmod)
  have e0 := hRM.blk.cell 0 rfl
  clear hs2 ho2 hm2 hx2 hrm2 hnewF hmod hWA HNW0 HRM0 hal1 hval hsetm b0 b1 bA
  obtain ⟨R0, hrow0, hne0, hst0⟩ := hav
  obtain ⟨a0, c0, hal0, hown0⟩ := id hrow0
  have hpos : 0 < R0.length := Nat.pos_of_ne_zero (fun e => hne0 (List.eq_nil_of_length_eq_zero e))
  obtain ⟨ad0, rfl⟩ : ∃ ad, a0 = some ad := by
   have h9 := hown0
   rw [hal0] at h9
   cases a0 with
   | none => exact absurd rfl ((Rd.ofOwn h9).some_ hpos)
   | some ad => exact ⟨ad, rfl⟩
  clear hpos
  have hl31 := stops_len hst0
  have hlk := hRM.look hfr (v : Int) (by omega)
  have cA := hRM.row.cell (fr * 2) (nearC_at al1 ml n fr hfr).1
  have cM := hRM.row.cell (fr * 2 + 1) (nearC_at al1 ml n fr hfr).2
  rw [hal0] at cA hown0
  obtain ⟨n0, hn0⟩ : ∃ y, R0.length = y := ⟨_, rfl⟩
  rw [hn0] at cA hown0 hl31 hal0
  have hOV := Lib.hid (rover_any (v : Int) w3 q (fr * 2) (some ad0) n0 c0 R0 hn0 (Rd.ofOwn hown0) (by omega) cA)
  have HR0 := Lib.hid (And.intro hrow0 (And.intro hst0 (And.intro hown0 (And.intro hn0 hal0))))
  have HRM := Lib.hid hRM
  have HNW := Lib.hid hNW
  have hr0 : Rd w3 3 (.slice (some ad0) n0 c0) n0 (R0.flatMap c3s) := Rd.ofOwn hown0
  obtain ⟨rr, hrr⟩ : ∃ y, R0.any (fun x => x.2.2 == (v : Int)) = y := ⟨_, rfl⟩
  rw [hrr] at hOV
  cases hle : le fr (v : Int) with
  | some x =>
   rw [hle] at hlk
   simp only [Option.getD_some, Option.isSome_some] at hlk
   obtain ⟨u, R, huv, hun, hrx, hsx⟩ := hRM.lv fr hfr _ x hle
   obtain rfl : v = u := by omega
   obtain ⟨a, c, rfl, hox⟩ := hrx
   have HX := Lib.hid (And.intro hsx hox)
   clear hRM hNW hrow0 hst0 hown0 hn0 hal0 hOV hr0 hrr hsx hox
   go_wp2_with fail
   go_ret
   exact ⟨a, c, R, rfl, aok_less h512 (HD.out fr (v : Int)) HX.out.1, by have := stops_len HX.out.1; omega, Rd.ofOwn HX.out.2, ⟨_, ⟨q, al1, ml, le, HRM.out, rfl⟩, HNF.out.1, HNF.out.2⟩⟩
  | none =>
   rw [hle] at hlk
   simp only [Option.getD_none, Option.isSome_none] at hlk
   have HRR := Lib.hid hrr
   clear hRM hNW hrow0 hst0 hown0 hn0 hal0 hr0 hrr
   go_wp2_with fail
   refine hOV.out.mono ?_
   rintro e w5 ⟨rfl, hm5⟩
   have HRM5 := Lib.hid (HRM.out.later hm5)
   have HM5 := Lib.hid hm5
   have d0 := HRM5.out.blk.cell 0 rfl
   have dA := HRM5.out.row.cell (fr * 2) (nearC_at al1 ml n fr hfr).1
   rw [HR0.out.2.2.2.2] at dA
   have HN5 := Lib.hid (HNW.out.later hm5)
   have hOW := Own.keep HR0.out.2.2.1 hm5 (fun _ _ e => e)
   have HO5 := Lib.hid hOW
   clear hm5 hOW cA cM hlk
   cases rr with
   | true =>
    go_wp2_with fail
    refine (waround HN5.out HWT.out fr hfr (v : Int) 30 _ (HD.out fr (v : Int))).mono ?_
    rintro e w6 ⟨a6, c6, R6, rfl, hs6, ho6, hm6⟩
    replace hs6 := hs6.row h512 (HD.out fr (v : Int))
    have hrm6 := HRM5.out.later hm6
    have hx6 : RowS w6 (.slice a6 R6.length c6) R6 := ⟨a6, c6, rfl, own_base ho6 (fun _ _ => Nat.zero_le _)⟩
    have hlv := Lib.hid (leave_any w6 q (fr * 2) _ hrm6.row (ml fr) (nearC_at al1 ml n fr hfr).2 (le fr) (hrm6.ml0 fr hfr) (fun b hb => hrm6.mv fr hfr b hb) (v : Int) (by omega) (.slice a6 R6.length c6) ((List.range n).map Int.ofNat) (fun k hk => by
     cases e : le fr k with
     | none => exact absurd e hk
     | some y =>
      obtain ⟨u, _, h1, h2, _⟩ := hrm6.lv fr hfr k y e
      exact List.mem_map.2 ⟨u, List.mem_range.2 h2, h1.symm⟩) (by simp; omega))
    have H6 := Lib.hid (And.intro hs6 (And.intro ho6 (And.intro hm6 (And.intro hrm6 hx6))))
    clear hs6 ho6 hm6 hrm6 hx6 d0 dA
    go_wp2_with fail
    refine hlv.out.mono ?_
    rintro e w7 ⟨b7, hb7, rfl, hk7, hv7, hm7⟩
    have H7 := Lib.hid (And.intro hb7 (And.intro hk7 (And.intro hv7 hm7)))
    clear hb7 hk7 hv7 hm7 hlv
    go_wp2_with fail
    go_ret
    obtain ⟨hs6, ho6, hm6, hrm6, hx6⟩ := H6.out
    obtain ⟨hb7, hk7, hv7, hm7⟩ := H7.out
    rw [nearC_setM al1 ml (some b7) n fr hfr] at hk7
    have hov6 := any_via HR0.out.2.1 HRR.out
    have hrm7 := hrm6.setL hfr hv hx6 hs6 ⟨R0, HR0.out.1.keep (HM5.out.of2 hm6) (fun _ _ e => e), hov6⟩ hb7 hk7 hv7 hm7
    have hz5 := HM5.out.size
    have hz6 := hm6.size
    refine ⟨a6, c6, R6, rfl, aok_less h512 (HD.out fr (v : Int)) hs6, by have := stops_len hs6; omega, (Rd.ofOwn ho6).keep hm7 (fun k hk e => e.elim (fun e => BlT.ne (hx6.ty hk) (BlT.blk hrm6.row) (by decide) e) (fun e => vmap_not (hrm6.mv fr hfr _ e) (hx6.ty hk) rfl)), ⟨_, ⟨q, al1, _, _, hrm7, rfl⟩, fun k hk => ?_, ?_⟩⟩
    ·
     have hnew : ∀ k, rmF p q n al1 ml le k → rmF p q n al ml le k ∨ w.heap.size ≤ k := HNF.out.1
     have hzW := HNF.out.2.size
     rcases hk with hk | hk | ⟨i, hi, hk⟩ | ⟨i, hi, hk⟩ | ⟨i, hi, y, x, hx, hk⟩
     ·
      exact hnew k (.inl hk)
     ·
      exact hnew k (.inr (.inl hk))
     ·
      by_cases e : i = fr
      ·
       subst e
       rw [upN_at] at hk
       obtain rfl := Option.some.inj hk
       rcases hb7 with e | ⟨_, e⟩
       ·
        exact hnew b7 (.inr (.inr (.inl ⟨i, hi, e⟩)))
       ·
        right; omega
      ·
       rw [upN_ne _ _ e] at hk
       exact hnew k (.inr (.inr (.inl ⟨i, hi, hk⟩)))
     ·
      exact hnew k (.inr (.inr (.inr (.inl ⟨i, hi, hk⟩))))
     ·
      by_cases e : i = fr
      ·
       subst e
       rw [upN_at] at hx
       by_cases e2 : y = (v : Int)
       ·
        rw [if_pos e2] at hx
        rw [← Option.some.inj hx] at hk
        have := (ho6.lt k hk).1
        right; omega
       ·
        rw [if_neg e2] at hx
        exact hnew k (.inr (.inr (.inr (.inr ⟨i, hi, y, x, hx, hk⟩))))
      ·
       rw [upN_ne _ _ e] at hx
       exact hnew k (.inr (.inr (.inr (.inr ⟨i, hi, y, x, hx, hk⟩))))
    ·
     exact ((HNF.out.2).trans (H := rmF p q n al ml le) (HM5.out.of2 hm6) (fun _ _ e => e) (fun _ _ e => e.elim)).trans hm7 (fun _ _ e => e) (fun k _ e => e.elim (fun e => .inr (.inl e)) (fun e => .inr (.inr (.inl ⟨fr, hfr, e⟩))))
   | false =>
    have hHA := Lib.hid (rhas_any (v : Int) w5 (some ad0) n0 c0 R0 HR0.out.2.2.2.1 (Rd.ofOwn HO5.out) (by omega))
    obtain ⟨r2, hr2⟩ : ∃ y, R0.any (fun x => x.1 == (v : Int)) = y := ⟨_, rfl⟩
    rw [hr2] at hHA
    have HR2 := Lib.hid hr2
    clear hr2
    go_wp2_with fail
    refine hHA.out.mono ?_
    rintro e w6 ⟨rfl, hm6⟩
    have HM6 := Lib.hid (HM5.out.of2 hm6)
    replace dA := hm6.cell dA (fun e => e)
    clear hm6 d0
    have hqr := Rd.keep (Rd.ofOwn HO5.out) (Mod.refl (fun _ => False) w5) (fun _ _ e => e)
    clear hqr
    cases r2 with
    | true =>
     go_wp2_with fail
     go_ret
     refine ⟨some ad0, c0, R0, by rw [HR0.out.2.2.2.1]; rfl, aok_all h512 (HD.out fr (-1)) (HD.out fr (v : Int)) HR0.out.2.1 (any_novia HRR.out) (any_at HR2.out), by have := HR0.out.2.2.2.1; omega, ?_, ⟨_, ⟨q, al1, ml, le, HRM.out.later HM6.out, rfl⟩, HNF.out.1, HNF.out.2.trans HM6.out (fun _ _ e => e) (fun _ _ e => e.elim)⟩⟩
     rw [HR0.out.2.2.2.1]
     exact Rd.keep (Rd.ofOwn HR0.out.2.2.1) HM6.out (fun _ _ e => e)
    | false =>
     obtain ⟨iS, hiS, hzS, hsS, hbS⟩ := info_parts infoStA
     have hn0c : n0 ≤ c0 := rd_cap (Rd.ofOwn HO5.out)
     have htk := fun wx => run_takeS (P := Tryz.prog) wx 145 148 iS Tryz.underlying145 hiS (some ad0) n0 c0 (min n0 30) (by omega)
     have hmin : ((min n0 30 : Nat) : Int) = min (n0 : Int) 30 := by omega
     by_cases h30 : n0 ≤ 30
     ·
      have hm2 : min n0 30 = n0 := by omega
      rw [hm2] at htk
      have z1 : ¬ (30 : Int) < (n0 : Int) := by omega
      clear hmin hm2
      go_upto_region 11 with fail
      go_quiet (fail)
      go_wp2_with fail
      all_goals go_ret
      have HM7 := Lib.hid (HM6.out.of2 (Mod.drewN (fun _ => False) w6 nq))
      have hlt : (R0.take 30).length = n0 := by rw [List.length_take, HR0.out.2.2.2.1]; omega
      refine ⟨some ad0, c0, R0.take 30, by rw [hlt]; rfl, aok_take h512 (HD.out fr (-1)) (HD.out fr (v : Int)) HR0.out.2.1 (any_novia HRR.out) (any_no HR2.out), by omega, ?_, ⟨_, ⟨q, al1, ml, le, HRM.out.later HM7.out, rfl⟩, HNF.out.1, HNF.out.2.trans HM7.out (fun _ _ e => e) (fun _ _ e => e.elim)⟩⟩
      rw [hlt, ← take_c3s]
      exact rd_take3 (Rd.keep (Rd.ofOwn HR0.out.2.2.1) HM7.out (fun _ _ e => e)) (by omega) (by omega)
     ·
      have hm2 : min n0 30 = 30 := by omega
      rw [hm2] at htk
      clear hmin hm2
      go_upto_region 11 with fail
      go_quiet (fail)
      go_wp2_with fail
      all_goals go_ret
      have HM7 := Lib.hid (HM6.out.of2 (Mod.drewN (fun _ => False) w6 nq))
      have hlt : (R0.take 30).length = 30 := by rw [List.length_take, HR0.out.2.2.2.1]; omega
      refine ⟨some ad0, c0, R0.take 30, by rw [hlt]; rfl, aok_take h512 (HD.out fr (-1)) (HD.out fr (v : Int)) HR0.out.2.1 (any_novia HRR.out) (any_no HR2.out), by omega, ?_, ⟨_, ⟨q, al1, ml, le, HRM.out.later HM7.out, rfl⟩, HNF.out.1, HNF.out.2.trans HM7.out (fun _ _ e => e) (fun _ _ e => e.elim)⟩⟩
      rw [hlt, ← take_c3s]
      exact rd_take3 (Rd.keep (Rd.ofOwn HR0.out.2.2.1) HM7.out (fun _ _ e => e)) (by omega) (by omega)
 ·
  have HRM0 := Lib.hid hRM
  go_enter Tryz.func116, Tryz.ntmps116
  obtain ⟨R0, hrow0, hne0, hst0⟩ := hav
  obtain ⟨a0, c0, hal0, hown0⟩ := id hrow0
  have hpos : 0 < R0.length := Nat.pos_of_ne_zero (fun e => hne0 (List.eq_nil_of_length_eq_zero e))
  obtain ⟨ad0, rfl⟩ : ∃ ad, a0 = some ad := by
   have h9 := hown0
   rw [hal0] at h9
   cases a0 with
   | none => exact absurd rfl ((Rd.ofOwn h9).some_ hpos)
   | some ad => exact ⟨ad, rfl⟩
  clear hpos
  have hl31 := stops_len hst0
  have hlk := hRM.look hfr (v : Int) (by omega)
  have cA := hRM.row.cell (fr * 2) (nearC_at al ml n fr hfr).1
  have cM := hRM.row.cell (fr * 2 + 1) (nearC_at al ml n fr hfr).2
  rw [hal0] at cA hown0
  obtain ⟨n0, hn0⟩ : ∃ y, R0.length = y := ⟨_, rfl⟩
  rw [hn0] at cA hown0 hl31 hal0
  have hOV := Lib.hid (rover_any (v : Int) w q (fr * 2) (some ad0) n0 c0 R0 hn0 (Rd.ofOwn hown0) (by omega) cA)
  have HR0 := Lib.hid (And.intro hrow0 (And.intro hst0 (And.intro hown0 (And.intro hn0 hal0))))
  have HRM := Lib.hid hRM
  have HNW := Lib.hid hNW
  have hr0 : Rd w 3 (.slice (some ad0) n0 c0) n0 (R0.flatMap c3s) := Rd.ofOwn hown0
  obtain ⟨rr, hrr⟩ : ∃ y, R0.any (fun x => x.2.2 == (v : Int)) = y := ⟨_, rfl⟩
  rw [hrr] at hOV
  cases hle : le fr (v : Int) with
  | some x =>
   rw [hle] at hlk
   simp only [Option.getD_some, Option.isSome_some] at hlk
   obtain ⟨u, R, huv, hun, hrx, hsx⟩ := hRM.lv fr hfr _ x hle
   obtain rfl : v = u := by omega
   obtain ⟨a, c, rfl, hox⟩ := hrx
   have HX := Lib.hid (And.intro hsx hox)
   clear hRM hNW hrow0 hst0 hown0 hn0 hal0 hOV hr0 hrr hsx hox
   go_wp2_with fail
   go_ret
   exact ⟨a, c, R, rfl, aok_less h512 (HD.out fr (v : Int)) HX.out.1, by have := stops_len HX.out.1; omega, Rd.ofOwn HX.out.2, ⟨_, ⟨q, al, ml, le, HRM.out, rfl⟩, fun _ e => .inl e, Mod.refl _ _⟩⟩
  | none =>
   rw [hle] at hlk
   simp only [Option.getD_none, Option.isSome_none] at hlk
   have HRR := Lib.hid hrr
   clear hRM hNW hrow0 hst0 hown0 hn0 hal0 hr0 hrr
   go_wp2_with fail
   refine hOV.out.mono ?_
   rintro e w5 ⟨rfl, hm5⟩
   have HRM5 := Lib.hid (HRM.out.later hm5)
   have HM5 := Lib.hid hm5
   have d0 := HRM5.out.blk.cell 0 rfl
   have dA := HRM5.out.row.cell (fr * 2) (nearC_at al ml n fr hfr).1
   rw [HR0.out.2.2.2.2] at dA
   have HN5 := Lib.hid (HNW.out.later hm5)
   have hOW := Own.keep HR0.out.2.2.1 hm5 (fun _ _ e => e)
   have HO5 := Lib.hid hOW
   clear hm5 hOW cA cM hlk
   cases rr with
   | true =>
    go_wp2_with fail
    refine (waround HN5.out HWT.out fr hfr (v : Int) 30 _ (HD.out fr (v : Int))).mono ?_
    rintro e w6 ⟨a6, c6, R6, rfl, hs6, ho6, hm6⟩
    replace hs6 := hs6.row h512 (HD.out fr (v : Int))
    have hrm6 := HRM5.out.later hm6
    have hx6 : RowS w6 (.slice a6 R6.length c6) R6 := ⟨a6, c6, rfl, own_base ho6 (fun _ _ => Nat.zero_le _)⟩
    have hlv := Lib.hid (leave_any w6 q (fr * 2) _ hrm6.row (ml fr) (nearC_at al ml n fr hfr).2 (le fr) (hrm6.ml0 fr hfr) (fun b hb => hrm6.mv fr hfr b hb) (v : Int) (by omega) (.slice a6 R6.length c6) ((List.range n).map Int.ofNat) (fun k hk => by
     cases e : le fr k with
     | none => exact absurd e hk
     | some y =>
      obtain ⟨u, _, h1, h2, _⟩ := hrm6.lv fr hfr k y e
      exact List.mem_map.2 ⟨u, List.mem_range.2 h2, h1.symm⟩) (by simp; omega))
    have H6 := Lib.hid (And.intro hs6 (And.intro ho6 (And.intro hm6 (And.intro hrm6 hx6))))
    clear hs6 ho6 hm6 hrm6 hx6 d0 dA
    go_wp2_with fail
    refine hlv.out.mono ?_
    rintro e w7 ⟨b7, hb7, rfl, hk7, hv7, hm7⟩
    have H7 := Lib.hid (And.intro hb7 (And.intro hk7 (And.intro hv7 hm7)))
    clear hb7 hk7 hv7 hm7 hlv
    go_wp2_with fail
    go_ret
    obtain ⟨hs6, ho6, hm6, hrm6, hx6⟩ := H6.out
    obtain ⟨hb7, hk7, hv7, hm7⟩ := H7.out
    rw [nearC_setM al ml (some b7) n fr hfr] at hk7
    have hov6 := any_via HR0.out.2.1 HRR.out
    have hrm7 := hrm6.setL hfr hv hx6 hs6 ⟨R0, HR0.out.1.keep (HM5.out.of2 hm6) (fun _ _ e => e), hov6⟩ hb7 hk7 hv7 hm7
    have hz5 := HM5.out.size
    have hz6 := hm6.size
    refine ⟨a6, c6, R6, rfl, aok_less h512 (HD.out fr (v : Int)) hs6, by have := stops_len hs6; omega, (Rd.ofOwn ho6).keep hm7 (fun k hk e => e.elim (fun e => BlT.ne (hx6.ty hk) (BlT.blk hrm6.row) (by decide) e) (fun e => vmap_not (hrm6.mv fr hfr _ e) (hx6.ty hk) rfl)), ⟨_, ⟨q, al, _, _, hrm7, rfl⟩, fun k hk => ?_, ?_⟩⟩
    ·
     have hnew : ∀ k, rmF p q n al ml le k → rmF p q n al ml le k ∨ w.heap.size ≤ k := fun _ e => .inl e
     have hzW := Nat.le_refl w.heap.size
     rcases hk with hk | hk | ⟨i, hi, hk⟩ | ⟨i, hi, hk⟩ | ⟨i, hi, y, x, hx, hk⟩
     ·
      exact hnew k (.inl hk)
     ·
      exact hnew k (.inr (.inl hk))
     ·
      by_cases e : i = fr
      ·
       subst e
       rw [upN_at] at hk
       obtain rfl := Option.some.inj hk
       rcases hb7 with e | ⟨_, e⟩
       ·
        exact hnew b7 (.inr (.inr (.inl ⟨i, hi, e⟩)))
       ·
        right; omega
      ·
       rw [upN_ne _ _ e] at hk
       exact hnew k (.inr (.inr (.inl ⟨i, hi, hk⟩)))
     ·
      exact hnew k (.inr (.inr (.inr (.inl ⟨i, hi, hk⟩))))
     ·
      by_cases e : i = fr
      ·
       subst e
       rw [upN_at] at hx
       by_cases e2 : y = (v : Int)
       ·
        rw [if_pos e2] at hx
        rw [← Option.some.inj hx] at hk
        have := (ho6.lt k hk).1
        right; omega
       ·
        rw [if_neg e2] at hx
        exact hnew k (.inr (.inr (.inr (.inr ⟨i, hi, y, x, hx, hk⟩))))
      ·
       rw [upN_ne _ _ e] at hx
       exact hnew k (.inr (.inr (.inr (.inr ⟨i, hi, y, x, hx, hk⟩))))
    ·
     exact ((Mod.refl (rmF p q n al ml le) w).trans (H := rmF p q n al ml le) (HM5.out.of2 hm6) (fun _ _ e => e) (fun _ _ e => e.elim)).trans hm7 (fun _ _ e => e) (fun k _ e => e.elim (fun e => .inr (.inl e)) (fun e => .inr (.inr (.inl ⟨fr, hfr, e⟩))))
   | false =>
    have hHA := Lib.hid (rhas_any (v : Int) w5 (some ad0) n0 c0 R0 HR0.out.2.2.2.1 (Rd.ofOwn HO5.out) (by omega))
    obtain ⟨r2, hr2⟩ : ∃ y, R0.any (fun x => x.1 == (v : Int)) = y := ⟨_, rfl⟩
    rw [hr2] at hHA
    have HR2 := Lib.hid hr2
    clear hr2
    go_wp2_with fail
    refine hHA.out.mono ?_
    rintro e w6 ⟨rfl, hm6⟩
    have HM6 := Lib.hid (HM5.out.of2 hm6)
    replace dA := hm6.cell dA (fun e => e)
    clear hm6 d0
    have hqr := Rd.keep (Rd.ofOwn HO5.out) (Mod.refl (fun _ => False) w5) (fun _ _ e => e)
    clear hqr
    cases r2 with
    | true =>
     go_wp2_with fail
     go_ret
     refine ⟨some ad0, c0, R0, by rw [HR0.out.2.2.2.1]; rfl, aok_all h512 (HD.out fr (-1)) (HD.out fr (v : Int)) HR0.out.2.1 (any_novia HRR.out) (any_at HR2.out), by have := HR0.out.2.2.2.1; omega, ?_, ⟨_, ⟨q, al, ml, le, HRM.out.later HM6.out, rfl⟩, fun _ e => .inl e, HM6.out.mono (fun _ _ e => e.elim)⟩⟩
     rw [HR0.out.2.2.2.1]
     exact Rd.keep (Rd.ofOwn HR0.out.2.2.1) HM6.out (fun _ _ e => e)
    | false =>
     obtain ⟨iS, hiS, hzS, hsS, hbS⟩ := info_parts infoStA
     have hn0c : n0 ≤ c0 := rd_cap (Rd.ofOwn HO5.out)
     have htk := fun wx => run_takeS (P := Tryz.prog) wx 145 148 iS Tryz.underlying145 hiS (some ad0) n0 c0 (min n0 30) (by omega)
     have hmin : ((min n0 30 : Nat) : Int) = min (n0 : Int) 30 := by omega
     by_cases h30 : n0 ≤ 30
     ·
      have hm2 : min n0 30 = n0 := by omega
      rw [hm2] at htk
      have z1 : ¬ (30 : Int) < (n0 : Int) := by omega
      clear hmin hm2
      go_upto_region 11 with fail
      go_quiet (fail)
      go_wp2_with fail
      all_goals go_ret
      have HM7 := Lib.hid (HM6.out.of2 (Mod.drewN (fun _ => False) w6 nq))
      have hlt : (R0.take 30).length = n0 := by rw [List.length_take, HR0.out.2.2.2.1]; omega
      refine ⟨some ad0, c0, R0.take 30, by rw [hlt]; rfl, aok_take h512 (HD.out fr (-1)) (HD.out fr (v : Int)) HR0.out.2.1 (any_novia HRR.out) (any_no HR2.out), by omega, ?_, ⟨_, ⟨q, al, ml, le, HRM.out.later HM7.out, rfl⟩, fun _ e => .inl e, HM7.out.mono (fun _ _ e => e.elim)⟩⟩
      rw [hlt, ← take_c3s]
      exact rd_take3 (Rd.keep (Rd.ofOwn HR0.out.2.2.1) HM7.out (fun _ _ e => e)) (by omega) (by omega)
     ·
      have hm2 : min n0 30 = 30 := by omega
      rw [hm2] at htk
      clear hmin hm2
      go_upto_region 11 with fail
      go_quiet (fail)
      go_wp2_with fail
      all_goals go_ret
      have HM7 := Lib.hid (HM6.out.of2 (Mod.drewN (fun _ => False) w6 nq))
      have hlt : (R0.take 30).length = 30 := by rw [List.length_take, HR0.out.2.2.2.1]; omega
      refine ⟨some ad0, c0, R0.take 30, by rw [hlt]; rfl, aok_take h512 (HD.out fr (-1)) (HD.out fr (v : Int)) HR0.out.2.1 (any_novia HRR.out) (any_no HR2.out), by omega, ?_, ⟨_, ⟨q, al, ml, le, HRM.out.later HM7.out, rfl⟩, fun _ e => .inl e, HM7.out.mono (fun _ _ e => e.elim)⟩⟩
      rw [hlt, ← take_c3s]
      exact rd_take3 (Rd.keep (Rd.ofOwn HR0.out.2.2.1) HM7.out (fun _ _ e => e)) (by omega) (by omega)
end Go.Proofs.YtjjedebjbgpimaaGreat
namespace Go.Proofs.YtjjedebjbgpimaaGreat
open Go.RowKit Mile
set_option maxRecDepth 100000
attribute [local go_sem] Oper.semAt_some
theorem RO.not {w : World} {p tp n : Nat} {L : List Ar} {D : Nat → Int → List Int} {F : Nat → Prop} (h : RO w p tp n L D F) {k : Nat} {T : TypeId} (hk : BlT w k T) (h1 : T ≠ 114) (h2 : T ≠ 153) (h3 : T ≠ 148) : ¬ F k := by
 obtain ⟨q, al, ml, le, hM, rfl⟩ := h
 rintro (e | e | ⟨i, hi, e⟩ | ⟨i, hi, e⟩ | ⟨i, hi, v, x, hx, e⟩)
 ·
  exact BlT.ne hk (BlT.blk hM.blk) h1 e
 ·
  exact BlT.ne hk (BlT.blk hM.row) h2 e
 ·
  exact vmap_not (hM.mv i hi k e) hk rfl
 ·
  exact BlT.ne hk (hM.aty hi e) h3 rfl
 ·
  exact BlT.ne hk (hM.lty hi hx e) h3 rfl
theorem foundB_iff {d : List Int} {t : Nat} {mo : Int} : foundB d (t : Int) mo 30 = true ↔ 0 ≤ dAt d t ∧ dAt d t ≤ mo ∧ rankN d t < 30 := by
 unfold foundB
 rw [decide_eq_true_iff, Int.toNat_natCast]
 omega
theorem AOk.far {n v : Nat} {d : List Int} {R : List Stp} (h : AOk n d v R) {t : Nat} (ht : t ≠ v) (mo : Int) :
  (sumF R (t : Int) = none ∧ foundB d (t : Int) mo 30 = false) ∨ ∃ s, sumF R (t : Int) = some s ∧ decide (mo < s) = !(foundB d (t : Int) mo 30) := by
 cases e : sumF R (t : Int) with
 | none =>
  left
  refine ⟨rfl, ?_⟩
  cases e2 : foundB d (t : Int) mo 30 with
  | false => rfl
  | true =>
   have h2 := foundB_iff.1 e2
   have h3 := (sumF_some R h.nod (t : Int) (dAt d t)).2 ((h.is t ht _).2 ⟨h2.1, h2.2.2, rfl⟩)
   rw [e] at h3; cases h3
 | some s =>
  right
  have h2 := (h.is t ht s).1 ((sumF_some R h.nod (t : Int) s).1 e)
  refine ⟨s, rfl, ?_⟩
  cases e2 : foundB d (t : Int) mo 30 with
  | false =>
   refine decide_eq_true (Classical.byContradiction fun hn => ?_)
   have h4 : foundB d (t : Int) mo 30 = true := foundB_iff.2 ⟨h2.1, by omega, h2.2.1⟩
   rw [e2] at h4; cases h4
  | true =>
   have h3 := foundB_iff.1 e2
   exact decide_eq_false (by omega)
theorem AOk.wf {n v : Nat} {d : List Int} {R : List Stp} (h : AOk n d v R) (h512 : n ≤ 512) : ∀ x ∈ R, (-1000000000000000 ≤ x.1 ∧ x.1 ≤ 1000000000000000) ∧ (-1000000000000000 ≤ x.2.1 ∧ x.2.1 ≤ 1000000000000000) := fun x hx => by
 have := h.fit x hx
 omega
def sc1 (D : Nat → Int → List Int) (v : Int) (a : Ar) (O : List Ar) : List Ar := (O.filter fun b => !(ovB D v a b)).map fun b => ⟨a.f, b.t, a.w + b.w, v⟩
theorem sc1_step (D : Nat → Int → List Int) (v : Int) (a : Ar) (O : List Ar) (b : Ar) : sc1 D v a (O ++ [b]) = sc1 D v a O ++ if ovB D v a b then [] else [⟨a.f, b.t, a.w + b.w, v⟩] := by
 unfold sc1
 rw [List.filter_append, List.map_append]
 cases e : ovB D v a b <;> simp [e]
theorem sc1_len (D : Nat → Int → List Int) (v : Int) (a : Ar) (O : List Ar) : (sc1 D v a O).length ≤ O.length := by
 unfold sc1
 rw [List.length_map]
 exact List.length_filter_le _ _
def scI (D : Nat → Int → List Int) (L : List Ar) (v : Int) (I : List Ar) : List Ar := I.flatMap fun a => sc1 D v a (outL L v)
theorem scI_step (D : Nat → Int → List Int) (L : List Ar) (v : Int) (I : List Ar) (a : Ar) : scI D L v (I ++ [a]) = scI D L v I ++ sc1 D v a (outL L v) := by
 unfold scI
 rw [List.flatMap_append, List.flatMap_cons, List.flatMap_nil, List.append_nil]
theorem scI_len (D : Nat → Int → List Int) (L : List Ar) (v : Int) (I : List Ar) : (scI D L v I).length ≤ I.length * (outL L v).length := by
 unfold scI
 induction I with
 | nil => simp
 | cons a I ih =>
  rw [List.flatMap_cons, List.length_append, List.length_cons, Nat.add_mul, Nat.one_mul]
  have := sc1_len D v a (outL L v)
  omega
theorem inL_len {n : Nat} {L : List Ar} (h : NetOk n L) (v : Int) : (inL L v).length ≤ n := by
 have := inF_len h v
 unfold inF at this
 rwa [List.length_map] at this
def ScP (p tp n : Nat) (L : List Ar) (D : Nat → Int → List Int) (F : Nat → Prop) (v : Nat) (w : World) (e : Ending) (w' : World) : Prop :=
 ∃ a c, e = .returned (.slice a (scR D L (v : Int)).length c) ∧ w'.ownsRow w.heap.size 50 4 (.slice a (scR D L (v : Int)).length c) (scR D L (v : Int)).length ((scR D L (v : Int)).flatMap c4) ∧ RQ p tp n L D F w w'
structure ScS (w0 : World) (p tp n : Nat) (L : List Ar) (D : Nat → Int → List Int) (F : Nat → Prop) (R : List Ar) (v : Value) (W : World) : Prop where
 ro : ∃ F', RO W p tp n L D F' ∧ ∀ k, F' k → F k ∨ w0.heap.size ≤ k
 ow : ∃ a c, v = .slice a R.length c ∧ W.ownsRow w0.heap.size 50 4 v R.length (R.flatMap c4)
 md : Mod F w0 W
theorem ScS.later {w0 W W' : World} {p tp n : Nat} {L : List Ar} {D : Nat → Int → List Int} {F : Nat → Prop} {R : List Ar} {v : Value} (h : ScS w0 p tp n L D F R v W) (hm : Mod (fun _ => False) W W') : ScS w0 p tp n L D F R v W' := by
 obtain ⟨⟨F', h1, h2⟩, ⟨a, c, h4, h5⟩, h6⟩ := h
 exact ⟨⟨F', h1.later hm, h2⟩, ⟨a, c, h4, Own.keep h5 hm (fun _ _ e => e)⟩, h6.trans hm (fun _ _ e => e) (fun _ _ e => e.elim)⟩
theorem ScS.around {w0 W W' : World} {p tp n : Nat} {L : List Ar} {D : Nat → Int → List Int} {F F' : Nat → Prop} {R : List Ar} {v : Value} (h : ScS w0 p tp n L D F R v W) (hro : RO W p tp n L D F') (hF : ∀ k, F' k → F k ∨ w0.heap.size ≤ k) (hq : RQ p tp n L D F' W W') : ScS w0 p tp n L D F R v W' := by
 obtain ⟨_, ⟨a, c, h4, h5⟩, h6⟩ := h
 obtain ⟨F2, h7, h8, h9⟩ := hq
 have hz := h6.size
 exact ⟨⟨F2, h7, fun k hk => (h8 k hk).elim (hF k) (fun e => .inr (by omega))⟩, ⟨a, c, h4, Own.keep h5 h9 (fun k hk e => hro.not (BlT.own h5 hk) (by decide) (by decide) (by decide) e)⟩, h6.trans h9 (fun _ _ e => e) (fun k hk e => (hF k e).elim id (fun e2 => by omega))⟩
theorem ScS.grown {w0 W W' : World} {p tp n : Nat} {L : List Ar} {D : Nat → Int → List Int} {F : Nat → Prop} {R R' : List Ar} {v v' : Value} (h : ScS w0 p tp n L D F R v W) (hap : Appended W W' 50 4 v v' R'.length (R'.flatMap c4)) : ScS w0 p tp n L D F R' v' W' := by
 obtain ⟨⟨F', h1, h2⟩, ⟨a, c, h4, h5⟩, h6⟩ := h
 have hz := h6.size
 obtain ⟨a', c', h7⟩ := hap.form
 refine ⟨⟨F', h1.keep hap.mod (fun k hk e => h1.not (BlT.own h5 e) (by decide) (by decide) (by decide) hk), h2⟩, ⟨a', c', h7, own_base hap.own (fun k hk => (hap.row k hk).elim (fun e => (h5.lt k e).1) (fun e => by omega))⟩, h6.trans hap.mod (fun _ _ e => e) (fun k hk e => by have := (h5.lt k e).1; omega)⟩
set_option maxHeartbeats 16000000 in
theorem rest_sc {w : World} {p tp n : Nat} {L : List Ar} {D : Nat → Int → List Int} {F FN : Nat → Prop} (h : RO w p tp n L D F) (hN : NT w tp n L FN) (hap : ∀ k, FN k → ¬ F k) (hw : ∀ a ∈ L, a.w ≤ 1099511627776) (hD : DOk n L D) (v : Nat) (hv : v < n) :
  Calls Tryz.prog 91 #[.pointer (some ⟨p, 0, none⟩), .int .i64 (v : Int)] w (ScP p tp n L D F v w) := by
 obtain ⟨iA, hiA, hzA, hsA, hbA⟩ := info_parts Nt.infoA
 have h512 := h.n512
 obtain ⟨hFp, q, b0, b1⟩ := h.cells
 have hok := hN.ok
 have hIl := inL_len hok (v : Int)
 have hOl := outL_len hok (v : Int)
 have hNO := Lib.hid (nt_out hN (v : Int))
 have HRO := Lib.hid h
 have HNT := Lib.hid hN
 have HAP := Lib.hid hap
 have HWT := Lib.hid hw
 have HD := Lib.hid hD
 have HOK := Lib.hid hok
 clear h hN hap hw hD hok
 go_enter Tryz.func91, Tryz.ntmps91
 go_wp2_with fail
 refine hNO.out.mono ?_
 rintro e w1 ⟨oa, oc, rfl, ho1, hm1⟩
 have hNI := Lib.hid (nt_in (HNT.out.later hm1) (v : Int))
 replace b0 := hm1.cell b0 (fun e => e)
 have HO1 := Lib.hid ho1
 have HM1 := Lib.hid hm1
 clear ho1 hm1 b1 hNO
 go_wp2_with fail
 refine hNI.out.mono ?_
 rintro e w0 ⟨ia, ic, rfl, hi0, hm0⟩
 have hRO0 := (HRO.out.later HM1.out).later hm0
 have hrdI : Rd w0 4 (.slice ia (inL L (v : Int)).length ic) (inL L (v : Int)).length ((inL L (v : Int)).flatMap c4) := Rd.ofOwn hi0
 have hrdO : Rd w0 4 (.slice oa (outL L (v : Int)).length oc) (outL L (v : Int)).length ((outL L (v : Int)).flatMap c4) := (Rd.ofOwn HO1.out).keep hm0 (fun _ _ e => e)
 have hS0 : ScS w0 p tp n L D F (scI D L (v : Int) []) (.slice none 0 0) w0 := ⟨⟨F, hRO0, fun _ e => .inl e⟩, ⟨none, 0, rfl, World.ownsRow_nil _ _ _ _⟩, Mod.refl _ _⟩
 have hnI : ∀ k, (Value.slice ia (inL L (v : Int)).length ic).ownBlock = some k → ¬ F k := fun k hk e => by have := (hi0.lt k hk).1; have := HRO.out.lt k e; have := HM1.out.size; omega
 have hnO : ∀ k, (Value.slice oa (outL L (v : Int)).length oc).ownBlock = some k → ¬ F k := fun k hk e => by have := (HO1.out.lt k hk).1; have := HRO.out.lt k e; omega
 have HNT0 := Lib.hid ((HNT.out.later HM1.out).later hm0)
 have HS0 := Lib.hid hS0
 have HIR := Lib.hid (And.intro hrdI (And.intro hrdO (And.intro hnI hnO)))
 have HMW := Lib.hid (HM1.out.of2 hm0)
 obtain ⟨I, hI⟩ : ∃ y, inL L (v : Int) = y := ⟨_, rfl⟩
 obtain ⟨O, hO⟩ : ∃ y, outL L (v : Int) = y := ⟨_, rfl⟩
 rw [hI, hO] at HIR
 rw [hI] at hIl ⊢
 rw [hO] at hOl ⊢
 obtain ⟨ni, hni⟩ : ∃ y, I.length = y := ⟨_, rfl⟩
 obtain ⟨no, hno⟩ : ∃ y, O.length = y := ⟨_, rfl⟩
 rw [hni, hno] at HIR
 rw [hni] at hIl ⊢
 rw [hno] at hOl ⊢
 have HIO := Lib.hid (And.intro hI (And.intro hO (And.intro hni hno)))
 have HLE := Lib.hid (And.intro hIl hOl)
 clear hrdI hrdO hS0 hnI hnO hI hO hni hno hi0 hm0 hRO0 hNI b0 hIl hOl hFp
 go_wp2_with fail
 go_loopw [28, 5] (fun i al wr => ∃ k : Nat, k ≤ ni ∧ i = .int .i64 k ∧ ScS w0 p tp n L D F (scI D L (v : Int) (I.take k)) al wr) (fun i _ _ => ni - (intOf i).toNat)
 case atStart => exact ⟨0, by omega, rfl, HS0.out⟩
 case round =>
  obtain ⟨k, hk, rfl, hs⟩ := hrel
  obtain ⟨wo, hwo⟩ : ∃ x : World, x = wr := ⟨_, rfl⟩
  subst hwo
  obtain ⟨al, hal0⟩ : ∃ y : Value, y = u5 := ⟨_, rfl⟩
  subst hal0
  have HS := Lib.hid hs
  clear hs
  by_cases hlt : k < ni
  case neg =>
   have z0 : decide ((k : Int) < (ni : Int)) = false := by simp; omega
   obtain ⟨⟨F', h1, h2⟩, ⟨a, c, rfl, h5⟩, h6⟩ := HS.out
   have HE := Lib.hid (And.intro h1 (And.intro h2 (And.intro h5 h6)))
   clear h1 h2 h5 h6
   go_wp2_with fail
   go_ret
   obtain ⟨h1, h2, h5, h6⟩ := HE.out
   have e1 : scI D L (v : Int) (I.take k) = scR D L (v : Int) := by
    rw [List.take_of_length_le (by have := HIO.out.2.2.1; omega), ← HIO.out.1]; rfl
   rw [e1] at h5 ⊢
   have hz := HMW.out.size
   exact ⟨a, c, rfl, own_base h5 (fun k hk => by have := (h5.lt k hk).1; omega), F', h1, fun k hk => (h2 k hk).imp id (fun e => by omega), HMW.out.trans h6 (fun _ _ e => e.elim) (fun _ _ e => e)⟩
  case pos =>
   have z0 : decide ((k : Int) < (ni : Int)) = true := by simp; omega
   have hkl : k < I.length := by rw [HIO.out.2.2.1]; exact hlt
   have HRI : Hid (Rd wo 4 (.slice ia ni ic) ni (I.flatMap c4)) := Lib.hid (HIR.out.1.keep HS.out.md (fun j hj e => HIR.out.2.2.1 j hj e))
   obtain ⟨eb, eo, hpe, e0, e1, e2, e3⟩ := rd4 HRI.out k hkl
   have hix := fun wx => run_indexS (P := Tryz.prog) wx 34 50 iA 4 Tryz.underlying34 hiA hsA ia ni ic k hlt (HRI.out.some_ (by omega))
   rw [hpe] at hix
   obtain ⟨a, ha⟩ : ∃ a, I[k] = a := ⟨_, rfl⟩
   rw [ha] at e0 e1 e2 e3
   have hak : I.take (k + 1) = I.take k ++ [a] := by rw [List.take_succ_eq_append_getElem hkl, ha]
   have haL : a ∈ L := by
    have : a ∈ I := by rw [← ha]; exact List.getElem_mem hkl
    rw [← HIO.out.1] at this
    exact (List.mem_filter.1 this).1
   have hmay := HOK.out.may a haL
   unfold mayA at hmay
   have haw := HWT.out a haL
   obtain ⟨fa, hfa⟩ := Int.eq_ofNat_of_zero_le hmay.1
   have hfn : fa < n := by omega
   have haw1 := hmay.2.2.2.2.2.1
   obtain ⟨af, at_, aw, am⟩ := a
   simp only at e0 e1 e2 e3 hfa haw haw1
   subst hfa
   obtain ⟨g, hg⟩ : ∃ y, wo.heap.size = y := ⟨_, rfl⟩
   obtain ⟨wa, hwa⟩ : ∃ y, wo.alloc (.cells #[.int .i64 (fa : Int), .int .i64 at_, .int .i64 aw, .int .i64 am] 50) = y := ⟨_, rfl⟩
   have hma : Mod (fun _ => False) wo wa := by rw [← hwa]; exact Mod.alloc _ _ _
   have hga : Blk wa g 50 [.int .i64 (fa : Int), .int .i64 at_, .int .i64 aw, .int .i64 am] := by rw [← hwa, ← hg]; exact Blk.new wo 50 [.int .i64 (fa : Int), .int .i64 at_, .int .i64 aw, .int .i64 am]
   have g0 := hga.cell 0 rfl
   obtain ⟨F', hro, hF⟩ := (HS.out.later hma).ro
   have hnt : NT wa tp n L FN := HNT0.out.keep (HS.out.md.trans hma (H := F) (fun _ _ e => e) (fun _ _ e => e.elim)) (fun k hk e => HAP.out k hk e)
   have hnap : ∀ k, FN k → ¬ F' k := fun k hk e => (hF k e).elim (HAP.out k hk) (fun e2 => by have := HNT0.out.lt k hk; omega)
   have hAR := Lib.hid (around_any hro hnt hnap HWT.out HD.out fa v hfn hv)
   have HA := Lib.hid (And.intro hga (And.intro hro (And.intro hF (And.intro hma (And.intro hak haL)))))
   have HG : Hid (w0.heap.size ≤ g ∧ wo.heap.size = g) := Lib.hid ⟨by have := HS.out.md.size; omega, hg⟩
   clear hga hro hF hma hnt hnap hmay hfn hpe ha hak haL hkl
   go_wp2_with fail
   (try rw [hwa])
   (try rw [hg])
   refine hAR.out.mono ?_
   rintro e w3 ⟨ra, rc, R, rfl, hok3, hR31, hrd3, hq3⟩
   have hS3 := (HS.out.later HA.out.2.2.2.1).around HA.out.2.1 HA.out.2.2.1 hq3
   have hsu := Lib.hid (sums_any w3 ra R.length rc R rfl hrd3 (by omega) (hok3.wf h512))
   have HS3 := Lib.hid hS3
   have hg3 : Blk w3 g 50 [.int .i64 (fa : Int), .int .i64 at_, .int .i64 aw, .int .i64 am] := by
    obtain ⟨_, _, _, h9⟩ := hq3
    exact HA.out.1.keep h9 (fun e => HA.out.2.1.not (BlT.blk HA.out.1) (by decide) (by decide) (by decide) e)
   have HOK3 := Lib.hid hok3
   have HG3 := Lib.hid hg3
   clear hS3 hok3 hrd3 hq3 hg3 g0 hwa hg hAR e0 e1 e2 e3 hix
   go_wp2_with fail
   refine hsu.out.mono ?_
   rintro e w4 ⟨mb, rfl, hmb, hmap, hm4⟩
   have HS4 := Lib.hid (HS3.out.later hm4)
   have HG4 := Lib.hid (HG3.out.keep hm4 (fun e => e))
   have HMP := Lib.hid (And.intro hmap hmb)
   clear hmap hmb hm4 hsu
   go_wp2_with fail
   have HB0 : Hid (∀ x, al.ownBlock = some x → w0.heap.size ≤ x ∧ x < g) := Lib.hid (fun x hx => by
    obtain ⟨_, ⟨_, _, _, h5⟩, _⟩ := HS.out
    have := h5.lt x hx; have := HG.out.2; omega)
   have HZ34 : Hid (g < w4.heap.size ∧ g < mb) := Lib.hid (by
    have := HG3.out.lt; have := HMP.out.2; have := HG4.out.lt; omega)
   go_loopw [40, 5] (fun i al2 wr => ∃ j : Nat, j ≤ no ∧ i = .int .i64 j ∧ ScS w0 p tp n L D F (scI D L (v : Int) (I.take k) ++ sc1 D (v : Int) ⟨(fa : Int), at_, aw, am⟩ (O.take j)) al2 wr ∧ Mod (fun x => al.ownBlock = some x) w4 wr ∧ ∀ x, al2.ownBlock = some x → al.ownBlock = some x ∨ w4.heap.size ≤ x) (fun i _ _ => no - (intOf i).toNat)
   case atStart => exact ⟨0, by omega, rfl, by rw [List.take_zero]; unfold sc1; simpa using HS4.out, Mod.refl _ _, fun x hx => .inl hx⟩
   case round =>
    obtain ⟨j, hj, rfl, hs, hmd, hbl⟩ := hrel
    obtain ⟨wi, hwi⟩ : ∃ x : World, x = wr := ⟨_, rfl⟩
    subst hwi
    have HSI := Lib.hid hs
    have HMI := Lib.hid (And.intro hmd hbl)
    clear hs hmd hbl
    by_cases hjt : j < no
    case neg =>
     have z1 : decide ((j : Int) < (no : Int)) = false := by simp; omega
     have hjn : no ≤ j := by omega
     have hb9 := HLE.out.1
     go_wp2_with fail
     go_roundw
     case rel =>
      refine ⟨k + 1, hlt, by go_num, ?_⟩
      have h9 := HSI.out
      rw [List.take_of_length_le (l := O) (i := j) (by rw [HIO.out.2.2.2]; exact hjn), ← HIO.out.2.1, ← scI_step, ← HA.out.2.2.2.2.1] at h9
      exact h9
     case measure => simp [intOf]; omega
    case pos =>
     have z1 : decide ((j : Int) < (no : Int)) = true := by simp; omega
     have hjl : j < O.length := by rw [HIO.out.2.2.2]; exact hjt
     have HRI : Hid (Rd wi 4 (.slice oa no oc) no (O.flatMap c4)) := Lib.hid (HIR.out.2.1.keep HSI.out.md (fun j hj e => HIR.out.2.2.2 j hj e))
     obtain ⟨eb, eo, hpe, e0, e1, e2, e3⟩ := rd4 HRI.out j hjl
     have hix := fun wx => run_indexS (P := Tryz.prog) wx 34 50 iA 4 Tryz.underlying34 hiA hsA oa no oc j hjt (HRI.out.some_ (by omega))
     rw [hpe] at hix
     obtain ⟨b, hb⟩ : ∃ b, O[j] = b := ⟨_, rfl⟩
     rw [hb] at e0 e1 e2 e3
     have hbk : O.take (j + 1) = O.take j ++ [b] := by rw [List.take_succ_eq_append_getElem hjl, hb]
     have hbO : b ∈ outL L (v : Int) := by rw [HIO.out.2.1, ← hb]; exact List.getElem_mem hjl
     have hbL : b ∈ L := (List.mem_filter.1 hbO).1
     have hbf : b.f = (v : Int) := of_decide_eq_true (List.mem_filter.1 hbO).2
     have hmay := HOK.out.may b hbL
     unfold mayA at hmay
     have hbw := HWT.out b hbL
     obtain ⟨tb, htb⟩ := Int.eq_ofNat_of_zero_le hmay.2.2.1
     have hbw1 := hmay.2.2.2.2.2.1
     have htv : tb ≠ v := by omega
     obtain ⟨bf, bt, bw, bm⟩ := b
     simp only at e0 e1 e2 e3 htb hbw hbw1 hmay
     subst htb
     have hsum : IntKind.i64.wrap (aw + bw) = aw + bw := IntWalk.i64_in _ (by omega)
     obtain ⟨g2, hg2⟩ : ∃ y, wi.heap.size = y := ⟨_, rfl⟩
     obtain ⟨wb, hwb⟩ : ∃ y, wi.alloc (.cells #[.int .i64 bf, .int .i64 (tb : Int), .int .i64 bw, .int .i64 bm] 50) = y := ⟨_, rfl⟩
     have hmb : Mod (fun _ => False) wi wb := by rw [← hwb]; exact Mod.alloc _ _ _
     have hgb : Blk wb g2 50 [.int .i64 bf, .int .i64 (tb : Int), .int .i64 bw, .int .i64 bm] := by rw [← hwb, ← hg2]; exact Blk.new wi 50 [.int .i64 bf, .int .i64 (tb : Int), .int .i64 bw, .int .i64 bm]
     have hgw := (HG4.out.keep HMI.out.1 (fun e => by have := (HB0.out g e).2; omega)).keep hmb (fun e => e)
     have hmpw := (HMP.out.1.keep HMI.out.1 (fun e => by have := (HB0.out mb e).2; have := HZ34.out; omega)).keep hmb (fun e => e)
     have hlk := hmpw.look (t := 136) Tryz.underlying136 Tryz.underlying3 Tryz.underlying3 (by kernel_rfl) (tb : Int) (i64_small _ (by omega))
     have q0 := hgw.cell 0 rfl
     have q2 := hgw.cell 2 rfl
     have p1 := hgb.cell 1 rfl
     have p2 := hgb.cell 2 rfl
     obtain ⟨nr, hnr⟩ : ∃ y, (scI D L (v : Int) (I.take k) ++ sc1 D (v : Int) ⟨(fa : Int), at_, aw, am⟩ (O.take j)).length = y := ⟨_, rfl⟩
     have hnr9 : nr ≤ 300000 := by
      rw [← hnr, List.length_append]
      have h1 := scI_len D L (v : Int) (I.take k)
      have h2 := sc1_len D (v : Int) ⟨(fa : Int), at_, aw, am⟩ (O.take j)
      have h3 : (I.take k).length ≤ 512 := by rw [List.length_take]; have := HIO.out.2.2.1; have := HLE.out; omega
      have h4 : (outL L (v : Int)).length ≤ 512 := by rw [HIO.out.2.1, HIO.out.2.2.2]; have := HLE.out; omega
      have h5 := Nat.mul_le_mul h3 h4
      have h6 : (O.take j).length ≤ 512 := by rw [List.length_take]; have := HIO.out.2.2.2; have := HLE.out; omega
      omega
     obtain ⟨f, hfo⟩ : ∃ f, foundB (D fa (v : Int)) (tb : Int) (aw + bw) 30 = f := ⟨_, rfl⟩
     have hov : ovB D (v : Int) ⟨(fa : Int), at_, aw, am⟩ ⟨bf, (tb : Int), bw, bm⟩ = f := by
      unfold ovB
      rw [Int.toNat_natCast]
      exact hfo
     have hfar := HOK3.out.far htv (aw + bw)
     rw [hfo] at hfar
     have hsib := HSI.out.later hmb
     obtain ⟨_, ⟨ra2, rc2, hal2, how2⟩, _⟩ := id hsib
     rw [hnr] at hal2 how2
     have HAL2 := Lib.hid hal2
     obtain ⟨al2, hal3⟩ : ∃ y : Value, y = u5 := ⟨_, rfl⟩
     have HMI2 := Lib.hid (by have h := HMI.out; rw [← hal3] at h; exact h)
     rw [← hal3] at hsib hal2 how2
     rw [← hal3]
     rw [hal2] at hsib how2 ⊢
     have HAL3 := Lib.hid hal2
     have HW := Lib.hid (And.intro hsib (And.intro how2 (And.intro hnr (And.intro hnr9 (And.intro hbk hov)))))
     have HMB := Lib.hid hmb
     have HGB := Lib.hid (And.intro hgw hgb)
     have hz2 : wb.heap.size = g2 + 1 := by rw [← hwb, ← hg2]; exact heap_size_alloc _ _
     have HZ2 := Lib.hid (And.intro hz2 hg2)
     clear hal2 hal3 hsib hz2 hmpw hmb hgb hgw how2 hbL hbO hmay hbk hb hpe hjl hov hfo htv hbf hnr hnr9
     have hb9 := HLE.out.2
     rcases hfar with ⟨hn, hff⟩ | ⟨s, hn, hff⟩
     ·
      rw [hn] at hlk
      simp only [Option.getD_none, Option.isSome_none] at hlk
      subst hff
      obtain ⟨wc, hwc⟩ : ∃ y, wb.alloc (.cells #[.int .i64 (fa : Int), .int .i64 (tb : Int), .int .i64 (aw + bw), .int .i64 (v : Int)] 50) = y := ⟨_, rfl⟩
      have hmc : Mod (fun _ => False) wb wc := by rw [← hwc]; exact Mod.alloc _ _ _
      have hlit : Rd wc 4 (.slice (some ⟨wb.heap.size, 0, none⟩) 1 1) 1 [.int .i64 (fa : Int), .int .i64 (tb : Int), .int .i64 (aw + bw), .int .i64 (v : Int)] := by rw [← hwc]; exact Rd.litN 50 4 [.int .i64 (fa : Int), .int .i64 (tb : Int), .int .i64 (aw + bw), .int .i64 (v : Int)] _ _ 1 rfl rfl (by omega)
      have HOW := Lib.hid (own_base (b2 := 0) (Own.keep HW.out.2.1 hmc (fun _ _ e => e)) (fun _ _ => Nat.zero_le _))
      have HLIT := Lib.hid hlit
      have HMC := Lib.hid hmc
      have hnr9 := HW.out.2.2.2.1
      clear hmc hlit
      go_wp2_with (at_builtin; refine wpList_append_any rfl (.tmp 63) (.tmp 71) 34 rfl 50 iA (.agg #[.int .i64 0, .int .i64 0, .int .i64 0, .int .i64 0]) 4 32 Tryz.underlying34 hiA hzA hsA hbA rfl (by decide) (.slice ra2 nr rc2) nr _ rfl HOW.out _ 1 _ rfl HLIT.out (fun u hu => by simp at hu; rcases hu with rfl | rfl | rfl | rfl <;> rfl) (by unfold maxLen; omega) (by omega) ?_; intro v9 w9 hap9; have HAP9 := Lib.hid hap9; clear hap9)
      go_roundw
      case rel =>
       have hlen : (scI D L (v : Int) (I.take k) ++ sc1 D (v : Int) ⟨(fa : Int), at_, aw, am⟩ (O.take (j + 1))).length = nr + 1 := by
        rw [HW.out.2.2.2.2.1, sc1_step, HW.out.2.2.2.2.2, ← List.append_assoc, List.length_append, HW.out.2.2.1]; rfl
       have hfl : (scI D L (v : Int) (I.take k) ++ sc1 D (v : Int) ⟨(fa : Int), at_, aw, am⟩ (O.take (j + 1))).flatMap c4 = (scI D L (v : Int) (I.take k) ++ sc1 D (v : Int) ⟨(fa : Int), at_, aw, am⟩ (O.take j)).flatMap c4 ++ [.int .i64 (fa : Int), .int .i64 (tb : Int), .int .i64 (aw + bw), .int .i64 (v : Int)] := by
        rw [HW.out.2.2.2.2.1, sc1_step, HW.out.2.2.2.2.2, ← List.append_assoc, List.flatMap_append]; rfl
       have hg9 : Appended wc w9 50 4 (.slice ra2 nr rc2) v9 (scI D L (v : Int) (I.take k) ++ sc1 D (v : Int) ⟨(fa : Int), at_, aw, am⟩ (O.take (j + 1))).length ((scI D L (v : Int) (I.take k) ++ sc1 D (v : Int) ⟨(fa : Int), at_, aw, am⟩ (O.take (j + 1))).flatMap c4) := by rw [hlen, hfl]; exact HAP9.out
       have hmi := HMI2.out
       have ham : al2 = .slice ra2 nr rc2 := HAL3.out
       rw [ham] at hmi
       have hz9 := HZ2.out
       have hzc := HMC.out.size
       have hz4 := hmi.1.size
       exact ⟨j + 1, hjt, by go_num, (HW.out.1.later HMC.out).grown hg9, (hmi.1.trans (HMB.out.of2 HMC.out) (H := fun x => al.ownBlock = some x) (fun _ _ e => e) (fun _ _ e => e.elim)).trans HAP9.out.mod (fun _ _ e => e) (fun x hx e => (hmi.2 x e).elim id (fun e2 => by omega)), fun x hx => (HAP9.out.row x hx).elim (hmi.2 x) (fun e => .inr (by omega))⟩
      case measure => simp [intOf]; omega
     ·
      rw [hn] at hlk
      simp only [Option.getD_some, Option.isSome_some] at hlk
      cases f with
      | true =>
       have z2 : decide (aw + bw < s) = false := by simpa using hff
       go_wp2_with fail
       go_roundw
       case rel =>
        have hmi := HMI2.out
        have ham : al2 = .slice ra2 nr rc2 := HAL3.out
        rw [ham] at hmi
        refine ⟨j + 1, hjt, by go_num, ?_, hmi.1.trans HMB.out (fun _ _ e => e) (fun _ _ e => e.elim), hmi.2⟩
        rw [HW.out.2.2.2.2.1, sc1_step, HW.out.2.2.2.2.2]
        simpa using HW.out.1
       case measure => simp [intOf]; omega
      | false =>
       have z2 : decide (aw + bw < s) = true := by simpa using hff
       obtain ⟨wc, hwc⟩ : ∃ y, wb.alloc (.cells #[.int .i64 (fa : Int), .int .i64 (tb : Int), .int .i64 (aw + bw), .int .i64 (v : Int)] 50) = y := ⟨_, rfl⟩
       have hmc : Mod (fun _ => False) wb wc := by rw [← hwc]; exact Mod.alloc _ _ _
       have hlit : Rd wc 4 (.slice (some ⟨wb.heap.size, 0, none⟩) 1 1) 1 [.int .i64 (fa : Int), .int .i64 (tb : Int), .int .i64 (aw + bw), .int .i64 (v : Int)] := by rw [← hwc]; exact Rd.litN 50 4 [.int .i64 (fa : Int), .int .i64 (tb : Int), .int .i64 (aw + bw), .int .i64 (v : Int)] _ _ 1 rfl rfl (by omega)
       have HOW := Lib.hid (own_base (b2 := 0) (Own.keep HW.out.2.1 hmc (fun _ _ e => e)) (fun _ _ => Nat.zero_le _))
       have HLIT := Lib.hid hlit
       have HMC := Lib.hid hmc
       have hnr9 := HW.out.2.2.2.1
       clear hmc hlit
       go_wp2_with (at_builtin; refine wpList_append_any rfl (.tmp 63) (.tmp 71) 34 rfl 50 iA (.agg #[.int .i64 0, .int .i64 0, .int .i64 0, .int .i64 0]) 4 32 Tryz.underlying34 hiA hzA hsA hbA rfl (by decide) (.slice ra2 nr rc2) nr _ rfl HOW.out _ 1 _ rfl HLIT.out (fun u hu => by simp at hu; rcases hu with rfl | rfl | rfl | rfl <;> rfl) (by unfold maxLen; omega) (by omega) ?_; intro v9 w9 hap9; have HAP9 := Lib.hid hap9; clear hap9)
       go_roundw
       case rel =>
        have hlen : (scI D L (v : Int) (I.take k) ++ sc1 D (v : Int) ⟨(fa : Int), at_, aw, am⟩ (O.take (j + 1))).length = nr + 1 := by
         rw [HW.out.2.2.2.2.1, sc1_step, HW.out.2.2.2.2.2, ← List.append_assoc, List.length_append, HW.out.2.2.1]; rfl
        have hfl : (scI D L (v : Int) (I.take k) ++ sc1 D (v : Int) ⟨(fa : Int), at_, aw, am⟩ (O.take (j + 1))).flatMap c4 = (scI D L (v : Int) (I.take k) ++ sc1 D (v : Int) ⟨(fa : Int), at_, aw, am⟩ (O.take j)).flatMap c4 ++ [.int .i64 (fa : Int), .int .i64 (tb : Int), .int .i64 (aw + bw), .int .i64 (v : Int)] := by
         rw [HW.out.2.2.2.2.1, sc1_step, HW.out.2.2.2.2.2, ← List.append_assoc, List.flatMap_append]; rfl
        have hg9 : Appended wc w9 50 4 (.slice ra2 nr rc2) v9 (scI D L (v : Int) (I.take k) ++ sc1 D (v : Int) ⟨(fa : Int), at_, aw, am⟩ (O.take (j + 1))).length ((scI D L (v : Int) (I.take k) ++ sc1 D (v : Int) ⟨(fa : Int), at_, aw, am⟩ (O.take (j + 1))).flatMap c4) := by rw [hlen, hfl]; exact HAP9.out
        have hmi := HMI2.out
        have ham : al2 = .slice ra2 nr rc2 := HAL3.out
        rw [ham] at hmi
        have hz9 := HZ2.out
        have hzc := HMC.out.size
        have hz4 := hmi.1.size
        exact ⟨j + 1, hjt, by go_num, (HW.out.1.later HMC.out).grown hg9, (hmi.1.trans (HMB.out.of2 HMC.out) (H := fun x => al.ownBlock = some x) (fun _ _ e => e) (fun _ _ e => e.elim)).trans HAP9.out.mod (fun _ _ e => e) (fun x hx e => (hmi.2 x e).elim id (fun e2 => by omega)), fun x hx => (HAP9.out.row x hx).elim (hmi.2 x) (fun e => .inr (by omega))⟩
       case measure => simp [intOf]; omega
end Go.Proofs.YtjjedebjbgpimaaGreat
namespace Go.Proofs.YtjjedebjbgpimaaGreat
open Go.RowKit Mile
set_option maxRecDepth 100000
attribute [local go_sem] Oper.semAt_some
def onV (O : List Ar) : Nat → Int := O.foldl (fun f b u => if (u : Int) = b.t then b.w else f u) (fun _ => 0)
theorem onV_step (O : List Ar) (b : Ar) : onV (O ++ [b]) = fun u : Nat => if (u : Int) = b.t then b.w else onV O u := by
 unfold onV
 rw [List.foldl_append]
 rfl
theorem onV_upN (O : List Ar) (b : Ar) (t : Nat) (ht : b.t = (t : Int)) : upN (onV O) t b.w = onV (O ++ [b]) := by
 rw [onV_step]
 funext u
 unfold upN
 by_cases e : u = t
 ·
  rw [if_pos e, if_pos (by omega)]
 ·
  rw [if_neg e, if_neg (by omega)]
theorem onV_of (O : List Ar) (hr : O.Pairwise fun a b => a.t < b.t) : ∀ b ∈ O, ∀ u : Nat, b.t = (u : Int) → onV O u = b.w := by
 revert hr
 refine list_snoc (P := fun O => (O.Pairwise fun a b : Ar => a.t < b.t) → ∀ b ∈ O, ∀ u : Nat, b.t = (u : Int) → onV O u = b.w) (fun _ b hb => (by cases hb)) (fun O x ih hr b hb u hu => ?_) O
 obtain ⟨h1, _, h3⟩ := List.pairwise_append.1 hr
 rw [onV_step]
 simp only
 rcases List.mem_append.1 hb with hb | hb
 ·
  have := h3 b hb x (by simp)
  rw [if_neg (by omega)]
  exact ih h1 b hb u hu
 ·
  rw [List.mem_singleton] at hb
  subst hb
  rw [if_pos hu.symm]
theorem onV_no (O : List Ar) : ∀ u : Nat, (∀ b ∈ O, b.t ≠ (u : Int)) → onV O u = 0 := by
 refine list_snoc (P := fun O => ∀ u : Nat, (∀ b ∈ O, b.t ≠ (u : Int)) → onV O u = 0) (fun u _ => rfl) (fun O x ih u h => ?_) O
 rw [onV_step]
 simp only
 rw [if_neg (fun e => h x (by simp) e.symm)]
 exact ih u (fun b hb => h b (List.mem_append_left _ hb))
theorem onV_bound (O : List Ar) (hw : ∀ b ∈ O, 0 ≤ b.w ∧ b.w ≤ 1099511627776) (u : Nat) : 0 ≤ onV O u ∧ onV O u ≤ 1099511627776 := by
 revert hw
 refine list_snoc (P := fun O => (∀ b ∈ O, 0 ≤ b.w ∧ b.w ≤ 1099511627776) → 0 ≤ onV O u ∧ onV O u ≤ 1099511627776) (fun _ => ⟨Int.le_refl _, by show (0 : Int) ≤ 1099511627776; omega⟩) (fun O x ih hw => ?_) O
 rw [onV_step]
 simp only
 split
 ·
  exact hw x (by simp)
 ·
  exact ih (fun b hb => hw b (List.mem_append_left _ hb))
def hitB (O : List Ar) (aw : Int) (x : Stp) : Bool := decide (0 < onV O x.1.toNat) && decide (x.2.1 ≤ aw + onV O x.1.toNat)
theorem hit_len {n v : Nat} {d : List Int} {R : List Stp} (h : AOk n d v R) {O : List Ar} (hr : O.Pairwise fun a b => a.t < b.t) (hO : ∀ b ∈ O, 0 ≤ b.t ∧ b.t ≠ (v : Int) ∧ 1 ≤ b.w) (aw : Int) :
  (R.filter (hitB O aw)).length = (O.filter fun b => foundB d b.t (aw + b.w) 30).length := by
 have hl1 : (R.filter (hitB O aw)).length = ((R.filter (hitB O aw)).map (·.1)).length := by rw [List.length_map]
 have hl2 : (O.filter fun b => foundB d b.t (aw + b.w) 30).length = ((O.filter fun b => foundB d b.t (aw + b.w) 30).map (·.t)).length := by rw [List.length_map]
 rw [hl1, hl2]
 have n1 : ((R.filter (hitB O aw)).map (·.1)).Nodup := h.nod.sublist ((List.filter_sublist (l := R)).map _)
 have n2 : ((O.filter fun b => foundB d b.t (aw + b.w) 30).map (·.t)).Nodup := by
  refine List.Pairwise.map _ (fun a b hab => ?_) (hr.sublist List.filter_sublist)
  show a.t ≠ b.t
  have : a.t < b.t := hab
  omega
 have key : ∀ u : Int, u ∈ (R.filter (hitB O aw)).map (·.1) ↔ u ∈ (O.filter fun b => foundB d b.t (aw + b.w) 30).map (·.t) := by
  intro u
  constructor
  ·
   intro hu
   obtain ⟨⟨x1, x2, x3⟩, hx, rfl⟩ := List.mem_map.1 hu
   obtain ⟨hxR, hh⟩ := List.mem_filter.1 hx
   unfold hitB at hh
   simp only [Bool.and_eq_true, decide_eq_true_eq] at hh
   have hfit := (h.fit _ hxR)
   obtain ⟨t, ht⟩ := Int.eq_ofNat_of_zero_le hfit.1
   simp only at ht hh
   rw [ht, Int.toNat_natCast] at hh
   have hex : ∃ b ∈ O, b.t = (t : Int) := Classical.byContradiction fun hn => by
    have := onV_no O t (fun b hb e => hn ⟨b, hb, e⟩)
    omega
   obtain ⟨b, hb, hbt⟩ := hex
   have hon := onV_of O hr b hb t hbt
   have hOb := hO b hb
   rw [ht] at hxR
   have h2 := (h.is t (by omega) x2).1 ⟨x3, hxR⟩
   refine List.mem_map.2 ⟨b, List.mem_filter.2 ⟨hb, ?_⟩, by rw [hbt, ht]⟩
   show foundB d b.t (aw + b.w) 30 = true
   rw [hbt]
   exact foundB_iff.2 ⟨h2.1, by omega, h2.2.1⟩
  ·
   intro hu
   obtain ⟨b, hb, rfl⟩ := List.mem_map.1 hu
   obtain ⟨hbO, hf⟩ := List.mem_filter.1 hb
   have hOb := hO b hbO
   obtain ⟨t, ht⟩ := Int.eq_ofNat_of_zero_le hOb.1
   have hf2 : foundB d b.t (aw + b.w) 30 = true := hf
   rw [ht] at hf2
   have h3 := foundB_iff.1 hf2
   obtain ⟨x3, hx⟩ := (h.is t (by omega) (dAt d t)).2 ⟨h3.1, h3.2.2, rfl⟩
   have hon := onV_of O hr b hbO t ht
   refine List.mem_map.2 ⟨((t : Int), dAt d t, x3), List.mem_filter.2 ⟨hx, ?_⟩, ht.symm⟩
   unfold hitB
   simp only [Int.toNat_natCast, hon, Bool.and_eq_true, decide_eq_true_eq]
   omega
 exact Nat.le_antisymm (nodup_le _ _ n1 (fun y hy => (key y).1 hy)) (nodup_le _ _ n2 (fun y hy => (key y).2 hy))
def cntI (D : Nat → Int → List Int) (L : List Ar) (v : Int) (I : List Ar) : Nat := (I.map fun a => ((outL L v).filter fun b => ovB D v a b).length).foldl (· + ·) 0
theorem cntI_step (D : Nat → Int → List Int) (L : List Ar) (v : Int) (I : List Ar) (a : Ar) : cntI D L v (I ++ [a]) = cntI D L v I + ((outL L v).filter fun b => ovB D v a b).length := by
 unfold cntI
 rw [List.map_append, List.foldl_append]
 rfl
theorem filter_both {α : Type} (p : α → Bool) (l : List α) : (l.filter p).length + (l.filter fun x => !(p x)).length = l.length := by
 induction l with
 | nil => rfl
 | cons x l ih =>
  cases e : p x <;> simp [e] <;> omega
theorem cntI_sc (D : Nat → Int → List Int) (L : List Ar) (v : Int) (I : List Ar) : cntI D L v I + (scI D L v I).length = I.length * (outL L v).length := by
 refine list_snoc (P := fun I => cntI D L v I + (scI D L v I).length = I.length * (outL L v).length) (by simp [cntI, scI]) (fun I a ih => ?_) I
 rw [cntI_step, scI_step, List.length_append, List.length_append, Nat.add_mul]
 have h1 := filter_both (fun b => ovB D v a b) (outL L v)
 have h2 : (sc1 D v a (outL L v)).length = ((outL L v).filter fun b => !(ovB D v a b)).length := by unfold sc1; rw [List.length_map]
 simp only [List.length_singleton, Nat.one_mul]
 omega
theorem wth_eq (D : Nat → Int → List Int) (L : List Ar) (v : Int) : ((inL L v).length : Int) * ((outL L v).length : Int) - (inL L v).length - (outL L v).length - (cntI D L v (inL L v) : Int) = wthR D L v := by
 have h := cntI_sc D L v (inL L v)
 have h2 : (((inL L v).length * (outL L v).length : Nat) : Int) = ((inL L v).length : Int) * ((outL L v).length : Int) := Int.natCast_mul _ _
 unfold wthR
 rw [show scR D L v = scI D L v (inL L v) from rfl]
 omega
def WoP (p tp n : Nat) (L : List Ar) (D : Nat → Int → List Int) (F : Nat → Prop) (v : Nat) (w : World) (e : Ending) (w' : World) : Prop := e = .returned (.int .i64 (wthR D L (v : Int))) ∧ RQ p tp n L D F w w'
structure WoS (w0 : World) (p tp n : Nat) (L : List Ar) (D : Nat → Int → List Int) (F : Nat → Prop) (W : World) : Prop where
 ro : ∃ F', RO W p tp n L D F' ∧ ∀ k, F' k → F k ∨ w0.heap.size ≤ k
 md : Mod F w0 W
theorem WoS.later {w0 W W' : World} {p tp n : Nat} {L : List Ar} {D : Nat → Int → List Int} {F : Nat → Prop} (h : WoS w0 p tp n L D F W) (hm : Mod (fun _ => False) W W') : WoS w0 p tp n L D F W' := by
 obtain ⟨⟨F', h1, h2⟩, h6⟩ := h
 exact ⟨⟨F', h1.later hm, h2⟩, h6.trans hm (fun _ _ e => e) (fun _ _ e => e.elim)⟩
theorem WoS.around {w0 W W' : World} {p tp n : Nat} {L : List Ar} {D : Nat → Int → List Int} {F F' : Nat → Prop} (h : WoS w0 p tp n L D F W) (hF : ∀ k, F' k → F k ∨ w0.heap.size ≤ k) (hq : RQ p tp n L D F' W W') : WoS w0 p tp n L D F W' := by
 obtain ⟨_, h6⟩ := h
 obtain ⟨F2, h7, h8, h9⟩ := hq
 have hz := h6.size
 exact ⟨⟨F2, h7, fun k hk => (h8 k hk).elim (hF k) (fun e => .inr (by omega))⟩, h6.trans h9 (fun _ _ e => e) (fun k hk e => (hF k e).elim id (fun e2 => by omega))⟩
theorem outL_rise {n : Nat} {L : List Ar} (h : NetOk n L) (v : Int) : (outL L v).Pairwise fun a b => a.t < b.t := by
 have h1 : (outL L v).Pairwise keyLt := h.sort.sublist List.filter_sublist
 refine h1.imp_of_mem fun {a b} ha hb hab => ?_
 have h2 := of_decide_eq_true (List.mem_filter.1 ha).2
 have h3 := of_decide_eq_true (List.mem_filter.1 hb).2
 rcases hab with h4 | h4
 ·
  omega
 ·
  exact h4.2
set_option maxHeartbeats 16000000 in
theorem rest_worth {w : World} {p tp n : Nat} {L : List Ar} {D : Nat → Int → List Int} {F FN : Nat → Prop} (h : RO w p tp n L D F) (hN : NT w tp n L FN) (hap : ∀ k, FN k → ¬ F k) (hw : ∀ a ∈ L, a.w ≤ 1099511627776) (hD : DOk n L D) (v : Nat) (hv : v < n) :
  Calls Tryz.prog 90 #[.pointer (some ⟨p, 0, none⟩), .int .i64 (v : Int)] w (WoP p tp n L D F v w) := by
 obtain ⟨iA, hiA, hzA, hsA, hbA⟩ := info_parts Nt.infoA
 obtain ⟨iI, hiI, hzI, hsI, hbI⟩ := info_parts Nt.infoI
 obtain ⟨iS, hiS, hzS, hsS, hbS⟩ := info_parts infoStA
 have h512 := h.n512
 obtain ⟨hFp, q, b0, b1⟩ := h.cells
 have hok := hN.ok
 have hIl := inL_len hok (v : Int)
 have hOl := outL_len hok (v : Int)
 have HRO := Lib.hid h
 have HNT := Lib.hid hN
 have HAP := Lib.hid hap
 have HWT := Lib.hid hw
 have HD := Lib.hid hD
 have HOK := Lib.hid hok
 have hlp := World.block_lt_of_cell? _ _ b0
 clear h hN hap hw hD hok
 go_enter Tryz.func90, Tryz.ntmps90
 go_upto_region 1 with fail
 go_cut [5, 6] from 15 to 26 (fun iv ov wx => ∃ ia ic oa oc, iv = .slice ia (inL L (v : Int)).length ic ∧ ov = .slice oa (outL L (v : Int)).length oc ∧ wx.ownsRow w.heap.size 50 4 (.slice ia (inL L (v : Int)).length ic) (inL L (v : Int)).length ((inL L (v : Int)).flatMap c4) ∧ wx.ownsRow w.heap.size 50 4 (.slice oa (outL L (v : Int)).length oc) (outL L (v : Int)).length ((outL L (v : Int)).flatMap c4) ∧ Mod (fun _ => False) w wx)
 case first =>
  go_region_law (first | (go_simp; go_at_call 64; refine (nt_in (HNT.out.later (by first | exact Mod.drew _ _ | exact (Mod.drew _ _).of2 (by assumption))) (v : Int)).mono ?_; rintro e w1 ⟨ia, ic, rfl, hi1, hm1⟩; have hmd1 := (Mod.drew (fun _ => False) w).of2 hm1; replace b0 := hm1.cell b0 (fun e => e)) | (go_simp; go_at_call 39; refine (nt_out (HNT.out.later (by first | assumption | exact Mod.drew _ _)) (v : Int)).mono ?_; rintro e w2 ⟨oa, oc, rfl, ho2, hm2⟩))
  all_goals
   (try go_wp2_with fail)
   go_meet
   exact ⟨ia, ic, oa, oc, rfl, rfl, own_base (Own.keep hi1 hm2 (fun _ _ e => e)) (fun k hk => (hi1.lt k hk).1), own_base ho2 (fun k hk => by have := (ho2.lt k hk).1; have := hmd1.size; omega), hmd1.of2 hm2⟩
 case rest =>
  obtain ⟨ia, ic, oa, oc, rfl, rfl, hi1, ho1, hm1⟩ := hcut
  obtain ⟨w1, hw1⟩ : ∃ x : World, x = wc := ⟨_, rfl⟩
  subst hw1
  replace b0 := hm1.cell b0 (fun e => e)
  have HL1 := Lib.hid (nt_len (HNT.out.later hm1))
  have HI1 := Lib.hid (And.intro hi1 ho1)
  have HM1 := Lib.hid hm1
  have hmk : ∀ wx, (Instr.makeSlice 40 (.int .i64 (n : Int)) (.int .i64 (n : Int))).run Tryz.prog wx = .ok (.slice (some ⟨wx.heap.size, 0, none⟩) n n) (wx.alloc (.cells (zrow (.int .i64 0) n) 3)) := run_makeS (P := Tryz.prog) 40 3 iI (.int .i64 0) Tryz.underlying40 hiI hzI rfl hsI n (by rw [hbI]; omega) (by omega)
  obtain ⟨ob, hob⟩ : ∃ y, w1.heap.size = y := ⟨_, rfl⟩
  obtain ⟨w2, hw2⟩ : ∃ y, w1.alloc (.cells (zrow (.int .i64 0) n) 3) = y := ⟨_, rfl⟩
  have hm2 : Mod (fun _ => False) w1 w2 := by rw [← hw2]; exact Mod.alloc _ _ _
  have hon2 : Blk w2 ob 3 ((List.range n).map fun u => .int .i64 (onV [] u)) := by
   rw [← hw2, ← hob]
   have h1 := Blk.new w1 3 (zrow (.int .i64 0) n).toList
   have h2 : (zrow (Value.int .i64 0) n).toList = (List.range n).map fun u => Value.int .i64 (onV [] u) := by
    rw [zrow_toList]
    apply List.ext_getElem <;> simp [onV]
   rw [h2] at h1
   rw [show ((List.range n).map fun u => Value.int .i64 (onV [] u)).toArray = zrow (.int .i64 0) n by rw [← h2]] at h1
   exact h1
  have HON2 := Lib.hid (And.intro hon2 hm2)
  clear hm1 hi1 ho1 hm2 hon2 hlp b1
  go_wp2_with fail
  refine HL1.out.mono ?_
  rintro e w' ⟨rfl, rfl⟩
  obtain ⟨I, hI⟩ : ∃ y, inL L (v : Int) = y := ⟨_, rfl⟩
  obtain ⟨O, hO⟩ : ∃ y, outL L (v : Int) = y := ⟨_, rfl⟩
  have HI2 := Lib.hid (by have h := HI1.out; rw [hI, hO] at h; exact h)
  rw [hI] at hIl ⊢
  rw [hO] at hOl ⊢
  obtain ⟨ni, hni⟩ : ∃ y, I.length = y := ⟨_, rfl⟩
  obtain ⟨no, hno⟩ : ∃ y, O.length = y := ⟨_, rfl⟩
  have HI3 := Lib.hid (by have h := HI2.out; rw [hni, hno] at h; exact h)
  rw [hni] at hIl ⊢
  rw [hno] at hOl ⊢
  have HIO := Lib.hid (And.intro hI (And.intro hO (And.intro hni hno)))
  have HOB := Lib.hid (And.intro hob hw2)
  have h9 : ni ≤ 512 ∧ no ≤ 512 := ⟨by omega, by omega⟩
  clear hI hO hni hno HI2 HI1 HL1 hIl hOl hFp b0
  go_wp2_with fail
  (try rw [hw2])
  (try rw [hob])
  clear hob hw2 hmk
  go_loopw [35] (fun i wr => ∃ k : Nat, k ≤ no ∧ i = .int .i64 k ∧ Mod (fun _ => False) w1 wr ∧ Blk wr ob 3 ((List.range n).map fun u => .int .i64 (onV (O.take k) u))) (fun i _ => no - (intOf i).toNat)
  case atStart => exact ⟨0, by omega, rfl, HON2.out.2, HON2.out.1⟩
  case round =>
   obtain ⟨k, hk, rfl, hm, hb⟩ := hrel
   obtain ⟨wo, hwo⟩ : ∃ x : World, x = wr := ⟨_, rfl⟩
   subst hwo
   by_cases hlt : k < no
   case pos =>
    have z0 : decide ((k : Int) < (no : Int)) = true := by simp; omega
    have hkl : k < O.length := by rw [HIO.out.2.2.2]; exact hlt
    have hrd := (Rd.ofOwn HI3.out.2).keep hm (fun _ _ e => e)
    obtain ⟨eb, eo, hpe, e0, e1, e2, e3⟩ := rd4 hrd k hkl
    have hix := fun wx => run_indexS (P := Tryz.prog) wx 34 50 iA 4 Tryz.underlying34 hiA hsA oa no oc k hlt (hrd.some_ (by omega))
    rw [hpe] at hix
    obtain ⟨b, hbb⟩ : ∃ b, O[k] = b := ⟨_, rfl⟩
    rw [hbb] at e0 e1 e2 e3
    have hbk : O.take (k + 1) = O.take k ++ [b] := by rw [List.take_succ_eq_append_getElem hkl, hbb]
    have hbL : b ∈ L := by
     have : b ∈ O := by rw [← hbb]; exact List.getElem_mem hkl
     rw [← HIO.out.2.1] at this
     exact (List.mem_filter.1 this).1
    have hmay := HOK.out.may b hbL
    unfold mayA at hmay
    obtain ⟨tb, htb⟩ := Int.eq_ofNat_of_zero_le hmay.2.2.1
    have hup := onV_upN (O.take k) b tb htb
    obtain ⟨bf, bt, bw, bm⟩ := b
    simp only at e0 e1 e2 e3 htb hmay hup
    subst htb
    have htn : tb < n := by omega
    have hix2 := fun wx => run_indexS (P := Tryz.prog) wx 40 3 iI 1 Tryz.underlying40 hiI hsI (some ⟨ob, 0, none⟩) n n tb htn (by simp)
    rw [elemA_lit] at hix2
    obtain ⟨g, hg⟩ : ∃ y, wo.heap.size = y := ⟨_, rfl⟩
    obtain ⟨wa, hwa⟩ : ∃ y, wo.alloc (.cells #[.int .i64 bf, .int .i64 (tb : Int), .int .i64 bw, .int .i64 bm] 50) = y := ⟨_, rfl⟩
    have hma : Mod (fun _ => False) wo wa := by rw [← hwa]; exact Mod.alloc _ _ _
    have hga : Blk wa g 50 [.int .i64 bf, .int .i64 (tb : Int), .int .i64 bw, .int .i64 bm] := by rw [← hwa, ← hg]; exact Blk.new wo 50 [.int .i64 bf, .int .i64 (tb : Int), .int .i64 bw, .int .i64 bm]
    have hba := hb.keep hma (fun e => e)
    have g1 := hga.cell 1 rfl
    have g2 := hga.cell 2 rfl
    have fq := hba.free tb
    have cq := hba.cell tb (v := .int .i64 (onV (O.take k) tb)) (by rw [List.getElem?_map, List.getElem?_range htn]; rfl)
    have hset := hba.set tb (.int .i64 bw)
    rw [range_set, show upN (fun u => Value.int .i64 (onV (O.take k) u)) tb (.int .i64 bw) = fun u => Value.int .i64 (onV (O.take (k + 1)) u) by
     rw [hbk, ← hup]
     funext u
     unfold upN
     split <;> rfl] at hset
    have hsm : Mod (fun j => j = ob) wa (wa.setCell ⟨ob, tb, none⟩ (.int .i64 bw)) := Mod.setCell _ _ _ rfl
    have HE := Lib.hid (And.intro hset ((hm.of2 hma).trans hsm (H := fun _ => False) (fun _ _ e => e) (fun j hj e => by have e2 : j = ob := e; have := HOB.out.1; omega)))
    clear hset hsm hba hga hma hb hm hpe hbb hbk hbL hmay hup hkl hrd
    go_wp2_with fail
    go_roundw
    case rel => exact ⟨k + 1, hlt, by go_num, HE.out.2, HE.out.1⟩
    case measure => simp [intOf]; omega
   case neg =>
    have z0 : decide ((k : Int) < (no : Int)) = false := by simp; omega
    rw [List.take_of_length_le (l := O) (i := k) (by rw [HIO.out.2.2.2]; omega)] at hb
    have hRO := HRO.out.later (HM1.out.of2 hm)
    have hW0 : WoS wo p tp n L D F wo := ⟨⟨F, hRO, fun _ e => .inl e⟩, Mod.refl _ _⟩
    have hzM := HM1.out.size
    have hFl := HRO.out.lt
    have hob0 : ¬ F ob := fun e => by have := hFl ob e; have := HOB.out.1; omega
    have hrI : Rd wo 4 (.slice ia ni ic) ni (I.flatMap c4) := (Rd.ofOwn HI3.out.1).keep hm (fun _ _ e => e)
    have hnI : ∀ k, (Value.slice ia ni ic).ownBlock = some k → ¬ F k := fun k hk e => by have := (HI3.out.1.lt k hk).1; have := hFl k e; omega
    have HW0 := Lib.hid (And.intro hW0 (And.intro hb (And.intro hob0 (And.intro hrI hnI))))
    have HMW := Lib.hid (HM1.out.of2 hm)
    have HNT0 := Lib.hid (HNT.out.later (HM1.out.of2 hm))
    obtain ⟨P, hP⟩ : ∃ P : Int, (ni : Int) * (no : Int) = P := ⟨_, rfl⟩
    have hPb : 0 ≤ P ∧ P ≤ 262144 := by
     have h1 := Nat.mul_le_mul h9.1 h9.2
     have h2 : ((ni * no : Nat) : Int) = P := by rw [← hP]; exact Int.natCast_mul _ _
     omega
    have hw1 : IntKind.i64.wrap P = P := IntWalk.i64_in _ (by omega)
    have hw2 : IntKind.i64.wrap (P - (ni : Int)) = P - (ni : Int) := IntWalk.i64_in _ (by omega)
    obtain ⟨Q, hQ⟩ : ∃ Q : Int, P - (ni : Int) - (no : Int) = Q := ⟨_, rfl⟩
    have hw3 : IntKind.i64.wrap (P - (ni : Int) - (no : Int)) = Q := by rw [IntWalk.i64_in _ (by omega), hQ]
    have HPQ := Lib.hid (And.intro hP (And.intro hQ hPb))
    clear hb hm hRO hW0 hzM hFl hob0 hrI hnI hQ hPb
    go_wp2_with fail
    clear hP hw1 hw2 hw3
    go_loopw [59, 10] (fun i x wr => ∃ k : Nat, k ≤ ni ∧ i = .int .i64 k ∧ x = .int .i64 (Q - (cntI D L (v : Int) (I.take k) : Int)) ∧ WoS wo p tp n L D F wr) (fun i _ _ => ni - (intOf i).toNat)
    case atStart => exact ⟨0, by omega, rfl, by rw [List.take_zero]; simp [cntI], HW0.out.1⟩
    case round =>
     obtain ⟨k2, hk2, rfl, rfl, hs⟩ := hrel
     obtain ⟨wi, hwi⟩ : ∃ x : World, x = wr := ⟨_, rfl⟩
     subst hwi
     have HS := Lib.hid hs
     clear hs
     obtain ⟨ck, hck⟩ : ∃ y, cntI D L (v : Int) (I.take k2) = y := ⟨_, rfl⟩
     have hckb : ck ≤ 262144 := by
      have h1 := cntI_sc D L (v : Int) (I.take k2)
      have h2 : (I.take k2).length ≤ 512 := by rw [List.length_take]; have := HIO.out.2.2.1; omega
      have h3 : (outL L (v : Int)).length ≤ 512 := by rw [HIO.out.2.1, HIO.out.2.2.2]; omega
      have h4 := Nat.mul_le_mul h2 h3
      omega
     rw [hck]
     have HCK := Lib.hid hck
     clear hck
     by_cases hl2 : k2 < ni
     case neg =>
      have z1 : decide ((k2 : Int) < (ni : Int)) = false := by simp; omega
      go_wp2_with fail
      go_ret
      obtain ⟨⟨F', h1, h2⟩, h6⟩ := HS.out
      have hz := HMW.out.size
      refine ⟨?_, F', h1, fun k hk => (h2 k hk).imp id (fun e => by omega), HMW.out.trans h6 (fun _ _ e => e.elim) (fun _ _ e => e)⟩
      have e1 := wth_eq D L (v : Int)
      have e2 := HCK.out
      rw [List.take_of_length_le (by have := HIO.out.2.2.1; omega)] at e2
      rw [HIO.out.1, e2, HIO.out.2.2.1, HIO.out.2.1, HIO.out.2.2.2, HPQ.out.1, HPQ.out.2.1] at e1
      show Ending.returned (.int .i64 (Q - (ck : Int))) = _
      rw [e1]
     case pos =>
      have z1 : decide ((k2 : Int) < (ni : Int)) = true := by simp; omega
      have hkl : k2 < I.length := by rw [HIO.out.2.2.1]; exact hl2
      have hrd := HW0.out.2.2.2.1.keep HS.out.md (fun j hj e => HW0.out.2.2.2.2 j hj e)
      obtain ⟨eb, eo, hpe, e0, e1, e2, e3⟩ := rd4 hrd k2 hkl
      have hix := fun wx => run_indexS (P := Tryz.prog) wx 34 50 iA 4 Tryz.underlying34 hiA hsA ia ni ic k2 hl2 (hrd.some_ (by omega))
      rw [hpe] at hix
      obtain ⟨a, ha⟩ : ∃ a, I[k2] = a := ⟨_, rfl⟩
      rw [ha] at e0 e1 e2 e3
      have hak : I.take (k2 + 1) = I.take k2 ++ [a] := by rw [List.take_succ_eq_append_getElem hkl, ha]
      have haL : a ∈ L := by
       have : a ∈ I := by rw [← ha]; exact List.getElem_mem hkl
       rw [← HIO.out.1] at this
       exact (List.mem_filter.1 this).1
      have hmay := HOK.out.may a haL
      unfold mayA at hmay
      have haw := HWT.out a haL
      obtain ⟨fa, hfa⟩ := Int.eq_ofNat_of_zero_le hmay.1
      obtain ⟨af, at_, aw, am⟩ := a
      simp only at e0 e1 e2 e3 hfa haw hmay
      subst hfa
      have hfn : fa < n := by omega
      have haw1 := hmay.2.2.2.2.2.1
      obtain ⟨g, hg⟩ : ∃ y, wi.heap.size = y := ⟨_, rfl⟩
      obtain ⟨wa, hwa⟩ : ∃ y, wi.alloc (.cells #[.int .i64 (fa : Int), .int .i64 at_, .int .i64 aw, .int .i64 am] 50) = y := ⟨_, rfl⟩
      have hma : Mod (fun _ => False) wi wa := by rw [← hwa]; exact Mod.alloc _ _ _
      have hga : Blk wa g 50 [.int .i64 (fa : Int), .int .i64 at_, .int .i64 aw, .int .i64 am] := by rw [← hwa, ← hg]; exact Blk.new wi 50 [.int .i64 (fa : Int), .int .i64 at_, .int .i64 aw, .int .i64 am]
      have g0 := hga.cell 0 rfl
      obtain ⟨F', hro, hF⟩ := (HS.out.later hma).ro
      have hnt : NT wa tp n L FN := HNT0.out.keep (HS.out.md.trans hma (H := F) (fun _ _ e => e) (fun _ _ e => e.elim)) (fun k hk e => HAP.out k hk e)
      have hnap : ∀ k, FN k → ¬ F' k := fun k hk e => (hF k e).elim (HAP.out k hk) (fun e2 => by have := HNT0.out.lt k hk; omega)
      have hAR := Lib.hid (around_any hro hnt hnap HWT.out HD.out fa v hfn hv)
      have HA := Lib.hid (And.intro hga (And.intro hro (And.intro hF (And.intro hma (And.intro hak haL)))))
      clear hga hro hF hma hnt hnap hmay hfn hpe ha hak haL hkl hrd
      go_wp2_with fail
      (try rw [hwa])
      (try rw [hg])
      refine hAR.out.mono ?_
      rintro e w3 ⟨ra, rc, R, rfl, hok3, hR31, hrd3, hq3⟩
      have hS3 := (HS.out.later HA.out.2.2.2.1).around HA.out.2.2.1 hq3
      have hg3 : Blk w3 g 50 [.int .i64 (fa : Int), .int .i64 at_, .int .i64 aw, .int .i64 am] := by
       obtain ⟨_, _, _, h9⟩ := hq3
       exact HA.out.1.keep h9 (fun e => HA.out.2.1.not (BlT.blk HA.out.1) (by decide) (by decide) (by decide) e)
      have hon3 := HW0.out.2.1.keep hS3.md HW0.out.2.2.1
      have HS3 := Lib.hid hS3
      have HOK3 := Lib.hid hok3
      have HG3 := Lib.hid (And.intro hg3 (And.intro hon3 hrd3))
      obtain ⟨nr, hnr⟩ : ∃ y, R.length = y := ⟨_, rfl⟩
      have HG4 := Lib.hid (by have h := HG3.out; rw [hnr] at h; exact h)
      rw [hnr] at hR31 ⊢
      have HNR := Lib.hid hnr
      clear hS3 hok3 hrd3 hq3 hg3 hon3 g0 hwa hg hAR e0 e1 e2 e3 hix hnr
      go_wp2_with fail
      go_loopw [69, 10] (fun i x wr => ∃ j : Nat, j ≤ nr ∧ i = .int .i64 j ∧ x = .int .i64 (Q - (ck : Int) - (((R.take j).filter (hitB O aw)).length : Int)) ∧ Mod (fun _ => False) w3 wr) (fun i _ _ => nr - (intOf i).toNat)
      case atStart => exact ⟨0, by omega, rfl, by simp, Mod.refl _ _⟩
      case round =>
       obtain ⟨j, hj, rfl, rfl, hmj⟩ := hrel
       obtain ⟨wj, hwj⟩ : ∃ x : World, x = wr := ⟨_, rfl⟩
       subst hwj
       obtain ⟨hc, hhc⟩ : ∃ y, ((R.take j).filter (hitB O aw)).length = y := ⟨_, rfl⟩
       have hhb : hc ≤ 31 := by
        rw [← hhc]
        refine Nat.le_trans (List.length_filter_le _ _) ?_
        rw [List.length_take]; omega
       rw [hhc]
       have HHC := Lib.hid hhc
       have hQb : -2000 ≤ Q ∧ Q ≤ 262144 := by have := HPQ.out; omega
       clear hhc
       by_cases hl3 : j < nr
       case neg =>
        have z2 : decide ((j : Int) < (nr : Int)) = false := by simp; omega
        have HMJ := Lib.hid hmj
        clear hmj
        go_wp2_with fail
        go_roundw
        case rel =>
         refine ⟨k2 + 1, hl2, by go_num, ?_, HS3.out.later HMJ.out⟩
         have e1 := HHC.out
         rw [List.take_of_length_le (by have := HNR.out; omega)] at e1
         have e2 := hit_len HOK3.out (O := O) (by rw [← HIO.out.2.1]; exact outL_rise HOK.out _) (fun b hb => by
          rw [← HIO.out.2.1] at hb
          have h1 := HOK.out.may b (List.mem_filter.1 hb).1
          have h2 := of_decide_eq_true (List.mem_filter.1 hb).2
          unfold mayA at h1
          omega) aw
         have e3 := cntI_step D L (v : Int) (I.take k2) ⟨(fa : Int), at_, aw, am⟩
         rw [← HA.out.2.2.2.2.1, HCK.out, HIO.out.2.1] at e3
         have e4 : (O.filter fun b => ovB D (v : Int) ⟨(fa : Int), at_, aw, am⟩ b) = O.filter fun b => foundB (D fa (v : Int)) b.t (aw + b.w) 30 := by
          refine List.filter_congr fun b _ => ?_
          unfold ovB
          rw [Int.toNat_natCast]
         rw [e4, ← e2, e1] at e3
         rw [e3]
         congr 1
         omega
        case measure => simp [intOf]; omega
       case pos =>
        have z2 : decide ((j : Int) < (nr : Int)) = true := by simp; omega
        have hjl : j < R.length := by rw [HNR.out]; exact hl3
        have hrd := HG4.out.2.2.keep hmj (fun _ _ e => e)
        obtain ⟨sb, so, hps, s0, s1, s2⟩ := rd3s hrd j hjl
        have hix := fun wx => run_indexS (P := Tryz.prog) wx 145 148 iS 3 Tryz.underlying145 hiS hsS ra nr rc j hl3 (hrd.some_ (by omega))
        rw [hps] at hix
        have hfit := HOK3.out.fit R[j] (List.getElem_mem hjl)
        obtain ⟨x, hx⟩ : ∃ x, R[j] = x := ⟨_, rfl⟩
        rw [hx] at s0 s1 s2 hfit
        have hrk : R.take (j + 1) = R.take j ++ [x] := by rw [List.take_succ_eq_append_getElem hjl, hx]
        obtain ⟨x1, xs, xv⟩ := x
        simp only at s0 s1 s2 hfit
        obtain ⟨u, hu⟩ := Int.eq_ofNat_of_zero_le hfit.1
        subst hu
        have hun : u < n := by omega
        have hix2 := fun wx => run_indexS (P := Tryz.prog) wx 40 3 iI 1 Tryz.underlying40 hiI hsI (some ⟨ob, 0, none⟩) n n u hun (by simp)
        rw [elemA_lit] at hix2
        have hovb := onV_bound O (fun b hb => by
         rw [← HIO.out.2.1] at hb
         have h1 := HOK.out.may b (List.mem_filter.1 hb).1
         have h2 := HWT.out b (List.mem_filter.1 hb).1
         unfold mayA at h1
         omega) u
        obtain ⟨y, hy⟩ : ∃ y, onV O u = y := ⟨_, rfl⟩
        obtain ⟨g2, hg2⟩ : ∃ y, wj.heap.size = y := ⟨_, rfl⟩
        obtain ⟨wb, hwb⟩ : ∃ y, wj.alloc (.cells #[.int .i64 (u : Int), .int .i64 xs, .int .i64 xv] 148) = y := ⟨_, rfl⟩
        have hmb : Mod (fun _ => False) wj wb := by rw [← hwb]; exact Mod.alloc _ _ _
        have hgb : Blk wb g2 148 [.int .i64 (u : Int), .int .i64 xs, .int .i64 xv] := by rw [← hwb, ← hg2]; exact Blk.new wj 148 [.int .i64 (u : Int), .int .i64 xs, .int .i64 xv]
        have q0 := hgb.cell 0 rfl
        have q1 := hgb.cell 1 rfl
        have q2 := ((HG4.out.1.keep hmj (fun e => e)).keep hmb (fun e => e)).cell 2 rfl
        have q3 := ((HG4.out.2.1.keep hmj (fun e => e)).keep hmb (fun e => e)).cell u (v := .int .i64 y) (by rw [List.getElem?_map, List.getElem?_range hun, ← hy]; rfl)
        rw [hy] at hovb
        have hsum : IntKind.i64.wrap (aw + y) = aw + y := IntWalk.i64_in _ (by omega)
        have hsub : IntKind.i64.wrap (Q - (ck : Int) - (hc : Int) - 1) = Q - (ck : Int) - (hc : Int) - 1 := IntWalk.i64_in _ (by omega)
        have hhit : hitB O aw ((u : Int), xs, xv) = (decide (0 < y) && decide (xs ≤ aw + y)) := by
         unfold hitB
         simp only [Int.toNat_natCast, hy]
        have HJ := Lib.hid (And.intro hrk (And.intro hhit (hmj.of2 hmb)))
        obtain ⟨r1, hr1⟩ : ∃ r, decide (0 < y) = r := ⟨_, rfl⟩
        obtain ⟨r2, hr2⟩ : ∃ r, decide (xs ≤ aw + y) = r := ⟨_, rfl⟩
        have HR12 := Lib.hid (And.intro hr1 hr2)
        have HQB := Lib.hid hQb
        clear hQb hrk hhit hmj hmb hgb hy hx hps hjl hfit hovb hrd
        go_upto_region 15 with fail
        (try rw [hwb])
        (try rw [hg2])
        clear hwb hg2 s0 s1 s2 hix
        have hfin : ∀ (r : Bool) (wz : World), Mod (fun _ => False) wb wz → (r1 && r2) = r → (((R.take (j + 1)).filter (hitB O aw)).length : Int) = hc + (if r then 1 else 0) := fun r wz _ hr => by
         rw [HJ.out.1, List.filter_append, List.length_append, HHC.out]
         have e1 : [((u : Int), xs, xv)].filter (hitB O aw) = if r then [((u : Int), xs, xv)] else [] := by
          rw [List.filter_cons, HJ.out.2.1, HR12.out.1, HR12.out.2, hr]
          cases r <;> simp
         rw [e1]
         cases r <;> simp
        have HFIN := Lib.hid hfin
        clear hfin
        cases r1 with
        | false =>
         go_quiet (fail)
         go_wp2_with fail
         go_roundw
         case rel =>
          refine ⟨j + 1, hl3, by go_num, ?_, HJ.out.2.2.of2 (Mod.drewN _ _ _)⟩
          rw [HFIN.out false wb (Mod.refl _ _) rfl]
          simp
         case measure => simp [intOf]; omega
        | true =>
         cases r2 with
         | false =>
          go_quiet (fail)
          go_wp2_with fail
          go_roundw
          case rel =>
           refine ⟨j + 1, hl3, by go_num, ?_, HJ.out.2.2.of2 (Mod.drewN _ _ _)⟩
           rw [HFIN.out false wb (Mod.refl _ _) rfl]
           simp
          case measure => simp [intOf]; omega
         | true =>
          go_quiet (fail)
          go_wp2_with fail
          go_roundw
          case rel =>
           refine ⟨j + 1, hl3, by go_num, ?_, HJ.out.2.2.of2 (Mod.drewN _ _ _)⟩
           rw [HFIN.out true wb (Mod.refl _ _) rfl]
           congr 1
           simp
           omega
          case measure => simp [intOf]; omega
end Go.Proofs.YtjjedebjbgpimaaGreat
namespace Go.Proofs.YtjjedebjbgpimaaGreat
open Go.RowKit Mile
set_option maxRecDepth 100000
attribute [local go_sem] Oper.semAt_some
def firT (f : Nat → Int) (gone : Nat → Bool) (x : Int × Int) (v : Nat) : Int × Int := if gone v then x else if x.1 < 0 ∨ f v < x.2 then ((v : Int), f v) else x
def firN (f : Nat → Int) (gone : Nat → Bool) (n : Nat) : Int × Int := (List.range n).foldl (firT f gone) (-1, 0)
theorem firN_step (f : Nat → Int) (gone : Nat → Bool) (n : Nat) : firN f gone (n + 1) = firT f gone (firN f gone n) n := by
 unfold firN
 rw [List.range_succ, List.foldl_append]
 rfl
theorem firN_le (f : Nat → Int) (gone : Nat → Bool) (n : Nat) : -1 ≤ (firN f gone n).1 ∧ (firN f gone n).1 < (n : Int) := by
 induction n with
 | zero => exact ⟨Int.le_refl _, by show (-1 : Int) < 0; omega⟩
 | succ n ih =>
  rw [firN_step]
  unfold firT
  split
  ·
   omega
  ·
   split
   ·
    simp only; omega
   ·
    omega
def gonB (G : List Bool) (v : Nat) : Bool := G.getD v false
theorem wth_bound {n : Nat} {L : List Ar} (hok : NetOk n L) (h512 : n ≤ 512) (D : Nat → Int → List Int) (v : Int) : -2000 ≤ wthR D L v ∧ wthR D L v ≤ 262144 := by
 have h1 := inL_len hok v
 have h2 := outL_len hok v
 have h3 := scI_len D L v (inL L v)
 have h4 : (inL L v).length ≤ 512 := by omega
 have h5 : (outL L v).length ≤ 512 := by omega
 have h6 := Nat.mul_le_mul h4 h5
 have h7 : (scR D L v).length = (scI D L v (inL L v)).length := rfl
 unfold wthR
 omega
theorem infoBoF : (Tryz.prog.info? 4).map (fun i => (i.zero, i.size, i.bytes)) = some (some (.bool false), 1, 1) := by kernel_rfl
theorem rdb1 {w : World} {n c : Nat} {a : Option Addr} {G : List Bool} (h : Rd w 1 (.slice a n c) n (G.map Value.bool)) (i : Nat) (hi : i < G.length) : ∃ b o, elemA a i 1 = ⟨b, o, none⟩ ∧ w.cell? ⟨b, o, none⟩ = some (.bool (G[i])) := by
 have hn : n = G.length := by have := h.1; simpa using this.symm
 obtain ⟨b, o, hp, _⟩ := h.place (j := i) (by omega)
 have k1 : (G.map Value.bool)[i * 1 + 0]? = some (.bool G[i]) := by rw [Nat.mul_one, Nat.add_zero, List.getElem?_map, List.getElem?_eq_getElem hi]; rfl
 exact ⟨b, o, hp, by simpa using h.elemN hp 0 k1⟩
def FiP (p tp n : Nat) (L : List Ar) (D : Nat → Int → List Int) (F : Nat → Prop) (G : List Bool) (w : World) (e : Ending) (w' : World) : Prop := e = .returned (.int .i64 (firN (fun v => wthR D L (v : Int)) (gonB G) n).1) ∧ RQ p tp n L D F w w'
set_option maxHeartbeats 8000000 in
theorem rest_first {w : World} {p tp n : Nat} {L : List Ar} {D : Nat → Int → List Int} {F FN : Nat → Prop} (h : RO w p tp n L D F) (hN : NT w tp n L FN) (hap : ∀ k, FN k → ¬ F k) (hw : ∀ a ∈ L, a.w ≤ 1099511627776) (hD : DOk n L D) (ga : Option Addr) (gl gc : Nat) (G : List Bool) (hG : G.length = gl) (hg : Rd w 1 (.slice ga gl gc) gl (G.map Value.bool)) (hgF : ∀ k, (Value.slice ga gl gc).ownBlock = some k → F k → G.map Value.bool = []) (hgl : gl ≤ 1000000) :
  Calls Tryz.prog 56 #[.pointer (some ⟨p, 0, none⟩), .slice ga gl gc] w (FiP p tp n L D F G w) := by
 obtain ⟨iB, hiB, hzB, hsB, hbB⟩ := info_parts infoBoF
 have h512 := h.n512
 obtain ⟨hFp, q, b0, b1⟩ := h.cells
 have HRO := Lib.hid h
 have HNT := Lib.hid hN
 have HAP := Lib.hid hap
 have HWT := Lib.hid hw
 have HD := Lib.hid hD
 have HG := Lib.hid (And.intro hG (And.intro hg hgF))
 have hlp := World.block_lt_of_cell? _ _ b0
 have HS0 : Hid (WoS w p tp n L D F w) := Lib.hid ⟨⟨F, h, fun _ e => .inl e⟩, Mod.refl _ _⟩
 clear h hN hap hw hD hG hg hgF
 go_enter Tryz.func56, Tryz.ntmps56
 go_wp2_with fail
 clear b0 b1 hFp hlp
 go_loopw [14, 5, 6] (fun i x y wr => ∃ k : Nat, k ≤ n ∧ i = .int .i64 k ∧ x = .int .i64 (firN (fun v => wthR D L (v : Int)) (gonB G) k).1 ∧ y = .int .i64 (firN (fun v => wthR D L (v : Int)) (gonB G) k).2 ∧ WoS w p tp n L D F wr) (fun i _ _ _ => n - (intOf i).toNat)
 case atStart => exact ⟨0, by omega, rfl, rfl, rfl, HS0.out⟩
 case round =>
  obtain ⟨k, hk, rfl, rfl, rfl, hs⟩ := hrel
  obtain ⟨wo, hwo⟩ : ∃ x : World, x = wr := ⟨_, rfl⟩
  subst hwo
  have HS := Lib.hid hs
  clear hs
  have hle := firN_le (fun v => wthR D L (v : Int)) (gonB G) k
  have hst := firN_step (fun v => wthR D L (v : Int)) (gonB G) k
  obtain ⟨⟨x, y⟩, hxy⟩ : ∃ z, firN (fun v => wthR D L (v : Int)) (gonB G) k = z := ⟨_, rfl⟩
  rw [hxy] at hle hst ⊢
  simp only at hle ⊢
  have HXY := Lib.hid (And.intro hxy hst)
  clear hxy hst
  by_cases hlt : k < n
  case neg =>
   obtain rfl : k = n := by omega
   have z0 : decide ((k : Int) < (k : Int)) = false := by simp
   go_wp2_with fail
   go_ret
   obtain ⟨⟨F', h1, h2⟩, h6⟩ := HS.out
   exact ⟨by rw [HXY.out.1]; rfl, F', h1, h2, h6⟩
  case pos =>
   have z0 : decide ((k : Int) < (n : Int)) = true := by simp; omega
   obtain ⟨F', hro, hF⟩ := HS.out.ro
   have hnt : NT wo tp n L FN := HNT.out.keep HS.out.md (fun k hk e => HAP.out k hk e)
   have hnap : ∀ k, FN k → ¬ F' k := fun k hk e => (hF k e).elim (HAP.out k hk) (fun e2 => by have := HNT.out.lt k hk; omega)
   have hWO := Lib.hid (rest_worth hro hnt hnap HWT.out HD.out k hlt)
   have hwb := wth_bound HNT.out.ok h512 D (k : Int)
   have HF := Lib.hid (And.intro hro hF)
   clear hro hF hnt hnap
   obtain ⟨wt, hwt⟩ : ∃ z, wthR D L (k : Int) = z := ⟨_, rfl⟩
   rw [hwt] at hwb
   have HWV := Lib.hid hwt
   obtain ⟨gk, hgk⟩ : ∃ z, gonB G k = z := ⟨_, rfl⟩
   have HGK := Lib.hid hgk
   by_cases hkg : k < gl
   ·
    have z1 : decide ((k : Int) < (gl : Int)) = true := by simp; omega
    have hrd := HG.out.2.1.keepA HS.out.md (fun j hj e => HG.out.2.2 j hj e)
    have hkl : k < (G.map Value.bool).length := by rw [List.length_map, HG.out.1]; exact hkg
    obtain ⟨eb, eo, hpl, e0⟩ := rdb1 hrd k (by rw [HG.out.1]; exact hkg)
    have hix := fun wx => run_indexS (P := Tryz.prog) wx 48 4 iB 1 Tryz.underlying48 hiB hsB ga gl gc k hkg (hrd.some_ (by omega))
    rw [hpl] at hix
    have hgg : G[k]'(by rw [HG.out.1]; exact hkg) = gk := by rw [← hgk]; unfold gonB; simp [List.getD, HG.out.1, hkg]
    rw [hgg] at e0
    clear hrd hkl hpl hgg hgk
    cases hgk2 : gk with
    | true =>
     subst hgk2
     go_wp2_with fail
     go_roundw
     case rel =>
      have e1 := HXY.out.2
      unfold firT at e1
      rw [HGK.out, if_pos rfl] at e1
      exact ⟨k + 1, hlt, by go_num, by rw [e1], by rw [e1], HS.out⟩
     case measure => simp [intOf]; omega
    | false =>
     rw [hgk2] at e0
     have hgf : gk = false := hgk2
     subst hgf
     go_wp2_with fail
     refine hWO.out.mono ?_
     rintro e w3 ⟨rfl, hq3⟩
     rw [HWV.out]
     have HS3 := Lib.hid (HS.out.around HF.out.2 hq3)
     clear hq3 hWO
     by_cases hx0 : x < 0
     ·
      have z4 : decide (x < 0) = true := decide_eq_true hx0
      go_wp2_with fail
      go_roundw
      case rel =>
       have e1 := HXY.out.2
       unfold firT at e1
       rw [HGK.out, if_neg (by simp), if_pos (.inl hx0)] at e1
       simp only [HWV.out] at e1
       exact ⟨k + 1, hlt, by go_num, by rw [e1], by rw [e1], HS3.out⟩
      case measure => simp [intOf]; omega
     ·
      have z4 : decide (x < 0) = false := decide_eq_false hx0
      by_cases hwy : wt < y
      ·
       have z5 : decide (wt < y) = true := decide_eq_true hwy
       go_wp2_with fail
       go_roundw
       case rel =>
        have e1 := HXY.out.2
        unfold firT at e1
        simp only [HWV.out] at e1
        rw [HGK.out, if_neg (by simp), if_pos (.inr hwy)] at e1
        exact ⟨k + 1, hlt, by go_num, by rw [e1], by rw [e1], HS3.out⟩
       case measure => simp [intOf]; omega
      ·
       have z5 : decide (wt < y) = false := decide_eq_false hwy
       go_wp2_with fail
       go_roundw
       case rel =>
        have e1 := HXY.out.2
        unfold firT at e1
        simp only [HWV.out] at e1
        rw [HGK.out, if_neg (by simp), if_neg (by simp; omega)] at e1
        exact ⟨k + 1, hlt, by go_num, by rw [e1], by rw [e1], HS3.out⟩
       case measure => simp [intOf]; omega
   ·
    have z1 : decide ((k : Int) < (gl : Int)) = false := by simp; omega
    have hgk2 : gk = false := by rw [← hgk]; unfold gonB; simp [List.getD, HG.out.1, hkg]
    clear hgk
    have hgf : gk = false := hgk2
    subst hgf
    go_wp2_with fail
    refine hWO.out.mono ?_
    rintro e w3 ⟨rfl, hq3⟩
    rw [HWV.out]
    have HS3 := Lib.hid (HS.out.around HF.out.2 hq3)
    clear hq3 hWO
    by_cases hx0 : x < 0
    ·
     have z4 : decide (x < 0) = true := decide_eq_true hx0
     go_wp2_with fail
     go_roundw
     case rel =>
      have e1 := HXY.out.2
      unfold firT at e1
      rw [HGK.out, if_neg (by simp), if_pos (.inl hx0)] at e1
      simp only [HWV.out] at e1
      exact ⟨k + 1, hlt, by go_num, by rw [e1], by rw [e1], HS3.out⟩
     case measure => simp [intOf]; omega
    ·
     have z4 : decide (x < 0) = false := decide_eq_false hx0
     by_cases hwy : wt < y
     ·
      have z5 : decide (wt < y) = true := decide_eq_true hwy
      go_wp2_with fail
      go_roundw
      case rel =>
       have e1 := HXY.out.2
       unfold firT at e1
       simp only [HWV.out] at e1
       rw [HGK.out, if_neg (by simp), if_pos (.inr hwy)] at e1
       exact ⟨k + 1, hlt, by go_num, by rw [e1], by rw [e1], HS3.out⟩
      case measure => simp [intOf]; omega
     ·
      have z5 : decide (wt < y) = false := decide_eq_false hwy
      go_wp2_with fail
      go_roundw
      case rel =>
       have e1 := HXY.out.2
       unfold firT at e1
       simp only [HWV.out] at e1
       rw [HGK.out, if_neg (by simp), if_neg (by simp; omega)] at e1
       exact ⟨k + 1, hlt, by go_num, by rw [e1], by rw [e1], HS3.out⟩
      case measure => simp [intOf]; omega
def ScQ (L : List Ar) (D : Nat → Int → List Int) (v : Nat) (w : World) (e : Ending) (w' : World) : Prop := NewR 50 4 (scR D L (v : Int)).length ((scR D L (v : Int)).flatMap c4) w e w'
end Go.Proofs.YtjjedebjbgpimaaGreat
