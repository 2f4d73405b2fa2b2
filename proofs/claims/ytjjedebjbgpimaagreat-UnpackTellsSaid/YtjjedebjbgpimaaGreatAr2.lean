/- witness.Around, by contract. -/
import Derived.Test.YtjjedebjbgpimaaGreatAr1
namespace Go.Proofs.YtjjedebjbgpimaaGreat
open Go.RowKit Mile
set_option maxRecDepth 100000
attribute [local go_sem] Oper.semAt_some
set_option maxHeartbeats 4000000 in
theorem wsettledA (w : World) (q : Option Addr) (fr wo mo st : Int) : Calls Tryz.prog 148 #[.pointer q, .int .i64 fr, .int .i64 wo, .int .i64 mo, .int .i64 st] w fun e w' => ∃ bf bt bw bm bs, e = .returned (.func (.func 156) #[] #[.pointer (some ⟨bf, 0, none⟩), .pointer (some ⟨bt, 0, none⟩), .pointer (some ⟨bw, 0, none⟩), .pointer (some ⟨bm, 0, none⟩), .pointer (some ⟨bs, 0, none⟩)]) ∧ (Blk w' bf 3 [.int .i64 fr] ∧ Blk w' bt 29 [.pointer q] ∧ Blk w' bw 3 [.int .i64 wo] ∧ Blk w' bm 3 [.int .i64 mo] ∧ Blk w' bs 3 [.int .i64 st]) ∧ (w.heap.size ≤ bf ∧ w.heap.size ≤ bt) ∧ Mod (fun _ => False) w w' := by
  obtain ⟨w1, hw1⟩ : ∃ y, w.alloc (.cells #[.pointer q] 29) = y := ⟨_, rfl⟩
  have hm1 : Mod (fun _ => False) w w1 := by rw [← hw1]; exact Mod.alloc _ _ _
  have hz1 : w1.heap.size = w.heap.size + 1 := by rw [← hw1]; exact heap_size_alloc _ _
  have hb1 : Blk w1 w.heap.size 29 [.pointer q] := by rw [← hw1]; exact Blk.new w 29 [.pointer q]
  obtain ⟨w2, hw2⟩ : ∃ y, w1.alloc (.cells #[.int .i64 fr] 3) = y := ⟨_, rfl⟩
  have hm2 : Mod (fun _ => False) w1 w2 := by rw [← hw2]; exact Mod.alloc _ _ _
  have hz2 : w2.heap.size = w1.heap.size + 1 := by rw [← hw2]; exact heap_size_alloc _ _
  have hb2 : Blk w2 w1.heap.size 3 [.int .i64 fr] := by rw [← hw2]; exact Blk.new w1 3 [.int .i64 fr]
  obtain ⟨w3, hw3⟩ : ∃ y, w2.alloc (.cells #[.int .i64 wo] 3) = y := ⟨_, rfl⟩
  have hm3 : Mod (fun _ => False) w2 w3 := by rw [← hw3]; exact Mod.alloc _ _ _
  have hz3 : w3.heap.size = w2.heap.size + 1 := by rw [← hw3]; exact heap_size_alloc _ _
  have hb3 : Blk w3 w2.heap.size 3 [.int .i64 wo] := by rw [← hw3]; exact Blk.new w2 3 [.int .i64 wo]
  obtain ⟨w4, hw4⟩ : ∃ y, w3.alloc (.cells #[.int .i64 mo] 3) = y := ⟨_, rfl⟩
  have hm4 : Mod (fun _ => False) w3 w4 := by rw [← hw4]; exact Mod.alloc _ _ _
  have hz4 : w4.heap.size = w3.heap.size + 1 := by rw [← hw4]; exact heap_size_alloc _ _
  have hb4 : Blk w4 w3.heap.size 3 [.int .i64 mo] := by rw [← hw4]; exact Blk.new w3 3 [.int .i64 mo]
  obtain ⟨w5, hw5⟩ : ∃ y, w4.alloc (.cells #[.int .i64 st] 3) = y := ⟨_, rfl⟩
  have hm5 : Mod (fun _ => False) w4 w5 := by rw [← hw5]; exact Mod.alloc _ _ _
  have hz5 : w5.heap.size = w4.heap.size + 1 := by rw [← hw5]; exact heap_size_alloc _ _
  have hb5 : Blk w5 w4.heap.size 3 [.int .i64 st] := by rw [← hw5]; exact Blk.new w4 3 [.int .i64 st]
  have HX := Lib.hid (And.intro (And.intro (hb2.keep ((hm3.of2 hm4).of2 hm5) (fun e => e)) (And.intro (hb1.keep (((hm2.of2 hm3).of2 hm4).of2 hm5) (fun e => e)) (And.intro (hb3.keep (hm4.of2 hm5) (fun e => e)) (And.intro (hb4.keep hm5 (fun e => e)) hb5)))) ((((hm1.of2 hm2).of2 hm3).of2 hm4).of2 hm5))
  have HZZ : Hid (w.heap.size ≤ w1.heap.size ∧ w.heap.size ≤ w.heap.size) := Lib.hid (by omega)
  clear hm1 hz1 hb1 hm2 hz2 hb2 hm3 hz3 hb3 hm4 hz4 hb4 hm5 hz5 hb5
  go_enter Tryz.func148, Tryz.ntmps148
  go_wp2_with fail
  go_ret
  (try rw [hw1])
  (try rw [hw2])
  (try rw [hw3])
  (try rw [hw4])
  (try rw [hw5])
  exact ⟨_, _, _, _, _, rfl, HX.out.1, HZZ.out, HX.out.2⟩
theorem wpListIn_append_ran {F : Fence} {n : Nat} {P : Program} {w w' : World} {ops : Array Oper} {rest : List Oper} {o : Oper} {a : Act} {Q : Exit → Act → World → Prop}
    (hg : o.guard = none) (s x : Operand) (t : TypeId) (hop : o.op = Op.call { callee := Callee.builtin Builtin.append, args := #[s, x], argTypes := #[t, t] })
    (v xv v' : Value) (hs : a.eval s = v) (hx : a.eval x = xv) (hrun : (Builtin.append_ #[t, t] o.type #[v, xv]).run P w = .ok v' w')
    (hK : wpListIn F n P ops Q rest (a.put o.dst v') w') : wpListIn F n P ops Q (o :: rest) a w := by
  refine wpListIn_plain hg fun K hK' => ?_
  unfold Oper.wpIn
  refine ⟨?_, ?_⟩
  · simp [Oper.about, hop, resolve, Target.leads, Sem.run_pure]
  · rw [Oper.semAt_plain F _ _ (by rw [hop]; intro c hc'; cases hc')]
    simp [execOp, hop, resolve, invoke, builtin, hs, hx, hrun, Result.andThen]
    exact hK' _ _ hK
theorem infoStA : (Tryz.prog.info? 148).map (fun i => (i.zero, i.size, i.bytes)) = some (some (.agg #[.int .i64 0, .int .i64 0, .int .i64 0]), 3, 24) := by kernel_rfl
theorem own_base {w : World} {b1 b2 size n : Nat} {e : TypeId} {v : Value} {xs : List Value} (h : w.ownsRow b1 e size v n xs) (hb : ∀ k, v.ownBlock = some k → b2 ≤ k) : w.ownsRow b2 e size v n xs := by
  obtain ⟨hl, h | ⟨g', cap, cur, rfl, hb1, hg, rest⟩⟩ := h
  · exact ⟨hl, .inl h⟩
  · exact ⟨hl, .inr ⟨g', cap, cur, rfl, hb g' rfl, hg, rest⟩⟩
def ArJ (ball : Nat) : HistP := fun h B W => ∃ a c, Blk W ball 145 [.slice a h.length c] ∧ W.ownsRow 0 148 3 (.slice a h.length c) h.length (h.flatMap c3s) ∧ (∀ k, (Value.slice a h.length c).ownBlock = some k → k ≠ ball) ∧ B = fun k => k = ball ∨ (Value.slice a h.length c).ownBlock = some k
theorem ArJ.ok (ball : Nat) : HJ (ArJ ball) := by
  refine ⟨fun h B W W' H ⟨a, c, h1, h2, h3, h4⟩ hm hH => ?_, fun h B W ⟨a, c, h1, h2, h3, h4⟩ k hk => ?_⟩
  · subst h4
    exact ⟨a, c, h1.keep hm (fun e => hH ball e (.inl rfl)), Own.keep h2 hm (fun k hk e => hH k e (.inr hk)), h3, rfl⟩
  · subst h4
    rcases hk with hk | hk
    · rw [hk]; exact h1.lt
    · exact (h2.lt k hk).2
def ArP (n : Nat) (L : List Ar) (fn : Nat) (wo : Int) (sn : Nat) (d : List Int) (w : World) (e : Ending) (w' : World) : Prop := ∃ a c R, e = .returned (.slice a R.length c) ∧ StopsOf n L fn wo d sn R ∧ w'.ownsRow w.heap.size 148 3 (.slice a R.length c) R.length (R.flatMap c3s) ∧ Mod (fun _ => False) w w'
set_option maxHeartbeats 16000000 in
theorem waround {w : World} {tp n : Nat} {L : List Ar} {F : Nat → Prop} (h : NT w tp n L F) (hw : ∀ a ∈ L, a.w ≤ 1099511627776) (fn : Nat) (hfn : fn < n) (wo : Int) (sn : Nat) (d : List Int) (hf : Fix (netW n L (fn : Int) wo) d) :
    Calls Tryz.prog 133 #[.pointer (some ⟨tp, 0, none⟩), .int .i64 (fn : Int), .int .i64 wo, .int .i64 (sn : Int)] w (ArP n L fn wo sn d w) := by
  have HNT := Lib.hid h
  have HWT := Lib.hid hw
  have HF := Lib.hid hf
  have HFN := Lib.hid hfn
  obtain ⟨c0, hc0⟩ : ∃ y, w.heap.size = y := ⟨_, rfl⟩
  obtain ⟨w1, hw1⟩ : ∃ y, w.alloc (.cells #[.slice none 0 0] 145) = y := ⟨_, rfl⟩
  have hm1 : Mod (fun _ => False) w w1 := by rw [← hw1]; exact Mod.alloc _ _ _
  have hz1 : w1.heap.size = c0 + 1 := by rw [← hw1, ← hc0]; exact heap_size_alloc _ _
  have hb1 : Blk w1 c0 145 [.slice none 0 0] := by rw [← hw1, ← hc0]; exact Blk.new w 145 [.slice none 0 0]
  have HX := Lib.hid (And.intro hb1 (And.intro hz1 hm1))
  clear hm1 hb1 hz1 h hw hf hfn
  refine calls_of_rf Tryz.func133 rfl ?_
  simp only [Tryz.ntmps133, List.size_toArray, List.length_cons, List.length_nil, Nat.reduceAdd, Nat.reduceSub, Array.replicate_succ, Array.replicate_zero, List.push_toArray, List.append_toArray, List.nil_append, List.cons_append]
  go_wp2_with fail
  (try rw [hw1])
  (try rw [hc0])
  refine (wsettledA _ _ _ _ _ _).mono ?_
  rintro e w4 ⟨bf, bt, bw, bm, bs, rfl, hb, hbn, hm4⟩
  go_wp2_with fail
  have z4 := hm4.size
  have HB := Lib.hid hb
  have HBN := Lib.hid hbn
  have HM4 := Lib.hid hm4
  have hx1 := HX.out.1.keep hm4 (fun e => e)
  have HC := Lib.hid hx1
  have hmw : Mod (fun _ => False) w w4 := HX.out.2.2.of2 hm4
  have HMW := Lib.hid hmw
  have HZ : Hid (c0 < w4.heap.size ∧ c0 + 1 ≤ w4.heap.size ∧ w.heap.size = c0 ∧ w1.heap.size = c0 + 1) := Lib.hid (by have := HX.out.2.1; omega)
  clear hb hbn hm4 hx1 hmw z4 hw1 HX hc0
  obtain ⟨D, hD⟩ : ∃ y, y = w4.heap.size := ⟨_, rfl⟩
  obtain ⟨l, hl⟩ : ∃ y, y = w4.heap.size + 1 := ⟨_, rfl⟩
  have HDL := Lib.hid (And.intro hD hl)
  have HJO := ArJ.ok c0
  refine wp_rangeFunc_asg (gf := 156) (la := #[]) (lb := #[.pointer (some ⟨bf, 0, none⟩), .pointer (some ⟨bt, 0, none⟩), .pointer (some ⟨bw, 0, none⟩), .pointer (some ⟨bm, 0, none⟩), .pointer (some ⟨bs, 0, none⟩)]) rfl (enters_of Tryz.func156 (by kernel_rfl) rfl) rndA (fun _ => rfl) l D hD hl (fun W' => Mod (fun _ => False) w4 W') (AJb (ArJ c0) w l D) (AJa (ArJ c0) l D)
    (fun W' => ∃ h B, ArJ c0 h B W' ∧ StopsOf n L fn wo d sn h ∧ (∀ k, B k → w.heap.size ≤ k ∧ k ≠ l ∧ k ≠ D) ∧ Mod (fun _ => False) w W') ?kJ ?kb ?ke ?start
    (fun x b W => ∃ g, (b.tmps.size = 22 ∧ b.tmps[9]? = some (.pointer (some ⟨c0, 0, none⟩)) ∧ b.tmps[10]? = some (.pointer (some ⟨g, 0, none⟩))) ∧ g ≠ l ∧ AJb (ArJ c0) w l D x W ∧ Blk W g 148 [.int .i64 x.2.2.2.1, .int .i64 x.2.2.2.2.1, .int .i64 x.2.2.2.2.2]) ?kc ?assign ?iter ?body ?done
  case kJ => exact fun x W o ⟨B', h1, h2, h3⟩ => ⟨B', HJO.keep _ _ _ _ _ h1 (Mod.putObj W l o) (fun k e e2 => (h3 k e2).2.1 e), h2.trans (Mod.putObj W l o) (fun _ _ e => e) (fun _ _ e => .inl e), h3⟩
  case kb => exact fun x W o ⟨h1, h2, h3, h4⟩ => ⟨h1, h2.trans (Mod.putObj W l o) (fun _ _ e => e) (fun _ _ e => e), HJO.keep _ _ _ _ _ h3 (Mod.putObj W l o) (fun k e e2 => (h4.1 k e2).2.1 e), h4⟩
  case ke => exact fun W o ⟨h, B, h1, h2, h3, h4⟩ => ⟨h, B, HJO.keep _ _ _ _ _ h1 (Mod.putObj W l o) (fun k e e2 => (h3 k e2).2.1 e), h2, h3, h4.trans (Mod.putObj W l o) (fun _ _ e => e) (fun k hk e => by have e2 : k = l := e; have := HMW.out.size; omega)⟩
  case kc => exact fun x b W o ⟨g, h1, h2, ⟨h3, h4, h5, h6⟩, h7⟩ => ⟨g, h1, h2, ⟨h3, h4.trans (Mod.putObj W l o) (fun _ _ e => e) (fun _ _ e => e), HJO.keep _ _ _ _ _ h5 (Mod.putObj W l o) (fun k e e2 => (h6.1 k e2).2.1 e), h6⟩, h7.keep (Mod.putObj W l o) h2⟩
  case start => exact fun o o' => (Mod.alloc _ _ _).of2 (Mod.alloc _ _ _)
  case iter =>
    intro R' O' W1' hJ hl' hd' hY'
    obtain ⟨b1, b2, b3, b4, b5⟩ := HB.out
    have hz := HZ.out
    have hbn := HBN.out
    refine (settled_hist HJO HNT.out HWT.out fn HFN.out wo _ rfl sn d HF.out l D (by omega) (by omega) R' O' W1' (HMW.out.of2 hJ) bf bt bw bm bs (b1.keep hJ (fun e => e)) (b2.keep hJ (fun e => e)) (b3.keep hJ (fun e => e)) (b4.keep hJ (fun e => e)) (b5.keep hJ (fun e => e)) (by have := b2.lt; omega) (fun k => k = c0 ∨ (Value.slice none 0 0).ownBlock = some k) ⟨none, 0, HC.out.keep hJ (fun e => e), ⟨rfl, .inl ⟨rfl, rfl⟩⟩, fun k hk => (by cases hk), rfl⟩ (fun k hk => by
      rcases hk with hk | hk
      · subst hk; exact ⟨by omega, by omega, by omega, fun e => by have := hbn.2; omega⟩
      · cases hk) hl' hd' hY').mono ?_
    rintro e W' ⟨h1, h2, h3⟩
    exact ⟨h1, h2, h3⟩
  case assign =>
    rintro R' O' ⟨x0, xh, xB, x1, x2, x3⟩ W' hb' hl' hd'
    have hll := (Array.getElem?_eq_some_iff.1 hl').1
    have HJ := Lib.hid (And.intro hb' (And.intro hl' hd'))
    obtain ⟨g, hg⟩ : ∃ y, W'.heap.size = y := ⟨_, rfl⟩
    have HGL : Hid (g ≠ l) := Lib.hid (by omega)
    dsimp only [rndA]
    have HG := Lib.hid hg
    clear hll hb' hl' hd' hg hD hl
    gi_wp2_with fail
    have hma : Mod (fun _ => False) W' (W'.alloc (.cells #[.int .i64 x1, .int .i64 x2, .int .i64 x3] 148)) := Mod.alloc _ _ _
    have hbn : Blk (W'.alloc (.cells #[.int .i64 x1, .int .i64 x2, .int .i64 x3] 148)) W'.heap.size 148 [.int .i64 x1, .int .i64 x2, .int .i64 x3] := Blk.new W' 148 [.int .i64 x1, .int .i64 x2, .int .i64 x3]
    rw [HG.out] at hbn ⊢
    obtain ⟨⟨h3, h4, h5, h6⟩, h7, h8⟩ := HJ.out
    exact ⟨⟨g, ⟨rfl, rfl, rfl⟩, HGL.out, ⟨h3, h4.trans hma (fun _ _ e => e) (fun _ _ e => e.elim), HJO.keep _ _ _ _ _ h5 hma (fun _ e => e.elim), h6⟩, hbn⟩, hma.obj h7 (fun e => e), hma.obj h8 (fun e => e)⟩
  case body =>
    rintro R' O' ⟨x0, xh, xB, x1, x2, x3⟩ ⟨tm, df⟩ W' ⟨g, ⟨hsz, t9, t10⟩, hgl, hq, hbg⟩ hl' hd'
    simp only at hsz t9 t10 hbg
    obtain ⟨f, hf⟩ : ∃ f : Nat → Value, tm = #[f 0, f 1, f 2, f 3, f 4, f 5, f 6, f 7, f 8, f 9, f 10, f 11, f 12, f 13, f 14, f 15, f 16, f 17, f 18, f 19, f 20, f 21] := ⟨fun k => tm.getD k undef, tmps_form tm 22 hsz⟩
    subst hf
    have e9 : f 9 = .pointer (some ⟨c0, 0, none⟩) := Option.some.inj t9
    have e10 : f 10 = .pointer (some ⟨g, 0, none⟩) := Option.some.inj t10
    clear hsz t9 t10
    rw [e9, e10]
    clear e9 e10
    generalize f 0 = u0
    generalize f 1 = u1
    generalize f 2 = u2
    generalize f 3 = u3
    generalize f 4 = u4
    generalize f 5 = u5
    generalize f 6 = u6
    generalize f 7 = u7
    generalize f 8 = u8
    generalize f 11 = u11
    generalize f 12 = u12
    generalize f 13 = u13
    generalize f 14 = u14
    generalize f 15 = u15
    generalize f 16 = u16
    generalize f 17 = u17
    generalize f 18 = u18
    generalize f 19 = u19
    generalize f 20 = u20
    generalize f 21 = u21
    clear f
    obtain ⟨hq1, hq2, ⟨ra, rc, hq3, hq4, hq5, hxB⟩, hq6, hq7, hq8⟩ := hq
    simp only at hq1 hq2 hq3 hq4 hq5 hq6 hq7 hq8 hxB
    subst hxB
    have q0 := hq3.cell 0 rfl
    have f0 := hq3.free 0
    have g0 := hbg.cell 0 rfl
    have g1 := hbg.cell 1 rfl
    have g2 := hbg.cell 2 rfl
    obtain ⟨nh, hnh⟩ : ∃ y, xh.length = y := ⟨_, rfl⟩
    rw [hnh] at q0 hq3 hq4 hq5 hq6 hq8
    have hlt0 := hq3.lt
    obtain ⟨iS, hiS, hzS, hsS, hbS⟩ := info_parts infoStA
    obtain ⟨wa, hwa⟩ : ∃ y, W'.alloc (.cells #[.int .i64 x1, .int .i64 x2, .int .i64 x3] 148) = y := ⟨_, rfl⟩
    have hma : Mod (fun _ => False) W' wa := by rw [← hwa]; exact Mod.alloc _ _ _
    have hza : wa.heap.size = W'.heap.size + 1 := by rw [← hwa]; exact heap_size_alloc _ _
    have hlit : Rd wa 3 (.slice (some ⟨W'.heap.size, 0, none⟩) 1 1) 1 [.int .i64 x1, .int .i64 x2, .int .i64 x3] := by rw [← hwa]; exact Rd.litN 148 3 [.int .i64 x1, .int .i64 x2, .int .i64 x3] _ _ 1 rfl rfl (by omega)
    have hown2 := Own.keep hq4 hma (fun _ _ e => e)
    have hcell2 := hq3.keep hma (fun e => e)
    obtain ⟨v', w', hrun, hap⟩ := run_append_any (P := Tryz.prog) wa 145 145 148 iS _ 3 24 Tryz.underlying145 hiS hzS hsS hbS rfl (by omega) (.slice ra nh rc) nh (xh.flatMap c3s) hown2 _ 1 _ hlit (fun u hu => by simp at hu; rcases hu with rfl | rfl | rfl <;> rfl) (by unfold maxLen; omega) (by omega)
    obtain ⟨a', c', rfl⟩ := hap.form
    have hcell3 := hcell2.keep hap.mod (fun e => hq5 c0 e rfl)
    have f3 := hcell3.free 0
    have q3 := hcell3.cell 0 rfl
    have HAP := Lib.hid (And.intro hap (And.intro hcell3 (And.intro hma hza)))
    have HQ := Lib.hid (And.intro hq1 (And.intro hq2 (And.intro hq4 (And.intro hq5 (And.intro hq6 (And.intro hq7 hnh))))))
    have HL := Lib.hid (And.intro hl' hd')
    have HGL := Lib.hid (And.intro hgl hbg.lt)
    rw [← hwa] at hrun
    have HRUN := Lib.hid hrun
    clear hwa hrun hq1 hq2 hq3 hq4 hq5 hq6 hq7 hq8 hl' hd' hgl hbg hnh hap hcell3 hcell2 hown2 hlit hma hza hD hl
    gi_wp2_with (gi_at_builtin; refine wpListIn_append_ran rfl _ _ _ rfl _ _ _ rfl rfl HRUN.out ?_)
    obtain ⟨hap, hcell3, hma, hza⟩ := HAP.out
    obtain ⟨hq1, hq2, hq4, hq5, hq6, hq7, hnh⟩ := HQ.out
    subst hnh
    have hlen : (xh ++ [(x1, x2, x3)]).length = xh.length + 1 := by rw [List.length_append]; rfl
    have hs : Mod (fun k => k = c0) w' (w'.setCell ⟨c0, 0, none⟩ (.slice a' (xh.length + 1) c')) := Mod.setCell _ _ _ rfl
    have hz0 := hq2.size
    have hrow : ∀ k, (Value.slice a' (xh.length + 1) c').ownBlock = some k → (Value.slice ra xh.length rc).ownBlock = some k ∨ wa.heap.size ≤ k := hap.row
    have hc0 := HQ.out.2.2.2.2.1 c0 (.inl rfl)
    have hne : ∀ k, (Value.slice a' (xh.length + 1) c').ownBlock = some k → k ≠ c0 := fun k hk => (hrow k hk).elim (hq5 k) (fun e => by have := hc0.2.2.2; omega)
    have hlz := hq7
    refine ⟨⟨fun k => k = c0 ∨ (Value.slice a' (xh.length + 1) c').ownBlock = some k, ⟨a', c', ?_, ?_, ?_, ?_⟩, ?_, ?_⟩, ?_, ?_⟩
    · show Blk _ c0 _ [.slice a' (xh ++ [(x1, x2, x3)]).length c']
      rw [hlen]
      exact hcell3.set 0 _
    · show World.ownsRow _ 0 _ 3 (.slice a' (xh ++ [(x1, x2, x3)]).length c') (xh ++ [(x1, x2, x3)]).length ((xh ++ [(x1, x2, x3)]).flatMap c3s)
      rw [hlen, List.flatMap_append]
      exact Own.keep hap.own hs (fun k hk e => hne k hk e)
    · show ∀ k, (Value.slice a' (xh ++ [(x1, x2, x3)]).length c').ownBlock = some k → k ≠ c0
      rw [hlen]
      exact hne
    · show (fun k => k = c0 ∨ (Value.slice a' (xh.length + 1) c').ownBlock = some k) = fun k => k = c0 ∨ (Value.slice a' (xh ++ [(x1, x2, x3)]).length c').ownBlock = some k
      rw [hlen]
    · exact ((hq2.trans (H := fun k => k = l ∨ (k = c0 ∨ (Value.slice ra xh.length rc).ownBlock = some k)) hma (fun _ _ e => .inl e) (fun _ _ e => e.elim)).trans hap.mod (fun _ _ e => e) (fun _ _ e => .inr (.inr e))).trans hs (fun _ _ e => e) (fun _ _ e => .inr (.inl e))
    · intro k hk
      rcases hk with hk | hk
      · subst hk; exact ⟨.inl (.inl rfl), hc0.2.1, hc0.2.2.1⟩
      · rcases hrow k hk with e | e
        · have h9 := hq6 k (.inr e)
          exact ⟨.inl (.inr e), h9.2.1, h9.2.2.1⟩
        · exact ⟨.inr (by show x0.heap.size ≤ k; omega), by omega, by omega⟩
    · exact hs.obj (hap.mod.obj (hma.obj HL.out.1 (fun e => e)) (fun e => (hq6 l (.inr e)).2.1 rfl)) (fun e => by have e2 : l = c0 := e; exact hc0.2.1 e2.symm)
    · exact hs.obj (hap.mod.obj (hma.obj HL.out.2 (fun e => e)) (fun e => (hq6 D (.inr e)).2.2.1 rfl)) (fun e => by have e2 : D = c0 := e; exact hc0.2.2.1 e2.symm)
  case done =>
    rintro W ⟨h, B, ⟨ra, rc, h1, h2, h3, rfl⟩, h4, h5, h6⟩ hd'
    have q0 := h1.cell 0 rfl
    have HH := Lib.hid (And.intro h1 (And.intro h2 (And.intro h3 (And.intro h4 (And.intro h5 (And.intro h6 hd'))))))
    clear hD hl h1 h2 h3 h4 h5 h6 hd'
    go_wp2_with fail
    obtain ⟨h1, h2, h3, h4, h5, h6, hd'⟩ := HH.out
    have hs3 := Mod.putObj W D (.deferred none)
    refine rfPost_retD rfl hd' (results_tmp rfl _ _ _) ?_
    exact ⟨ra, rc, h, rfl, h4, own_base (Own.keep h2 hs3 (fun k hk e => (h5 k (.inr hk)).2.2 e)) (fun k hk => (h5 k (.inr hk)).1), h6.trans hs3 (fun _ _ e => e) (fun k hk e => by have e2 : k = D := e; have := HDL.out.1; have := HMW.out.size; omega)⟩
end Go.Proofs.YtjjedebjbgpimaaGreat
