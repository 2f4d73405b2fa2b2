/- witness.settled, search, Find and Far, by contract. -/
import Derived.Test.YtnklgeekjkchbaaWit3
namespace Go.Proofs.Ytnklgeekjkchbaa
open Go.RowKit Mile
set_option maxRecDepth 100000
attribute [local go_sem] Oper.semAt_some
set_option maxHeartbeats 4000000 in
theorem wsettled (w : World) (q : Option Addr) (fr wo mo st : Int) : Calls Try.prog 63 #[.pointer q, .int .i64 fr, .int .i64 wo, .int .i64 mo, .int .i64 st] w fun e w' => ∃ bf bt bw bm bs, e = .returned (.func (.func 71) #[] #[.pointer (some ⟨bf, 0, none⟩), .pointer (some ⟨bt, 0, none⟩), .pointer (some ⟨bw, 0, none⟩), .pointer (some ⟨bm, 0, none⟩), .pointer (some ⟨bs, 0, none⟩)]) ∧ (Blk w' bf 3 [.int .i64 fr] ∧ Blk w' bt 25 [.pointer q] ∧ Blk w' bw 3 [.int .i64 wo] ∧ Blk w' bm 3 [.int .i64 mo] ∧ Blk w' bs 3 [.int .i64 st]) ∧ Mod (fun _ => False) w w' := by
  obtain ⟨w1, hw1⟩ : ∃ y, w.alloc (.cells #[.pointer q] 25) = y := ⟨_, rfl⟩
  have hm1 : Mod (fun _ => False) w w1 := by rw [← hw1]; exact Mod.alloc _ _ _
  have hz1 : w1.heap.size = w.heap.size + 1 := by rw [← hw1]; exact heap_size_alloc _ _
  have hb1 : Blk w1 w.heap.size 25 [.pointer q] := by rw [← hw1]; exact Blk.new w 25 [.pointer q]
  obtain ⟨w2, hw2⟩ : ∃ y, w1.alloc (.cells #[.int .i64 fr] 3) = y := ⟨_, rfl⟩
  have hm2 : Mod (fun _ => False) w1 w2 := by rw [← hw2]; exact Mod.alloc _ _ _
  have hz2 : w2.heap.size = w1.heap.size + 1 := by rw [← hw2]; exact heap_size_alloc _ _
  have hb2 : Blk w2 w1.heap.size 3 [.int .i64 fr] := by rw [← hw2]; exact Blk.new w1 3 [.int .i64 fr]
  obtain ⟨w3, hw3⟩ : ∃ y, w2.alloc (.cells #[.int .i64 wo] 3) = y := ⟨_, rfl⟩
  have hm3 : Mod (fun _ => False) w2 w3 := by rw [← hw3]; exact Mod.alloc _ _ _
  have hz3 : w3.heap.size = w2.heap.size + 1 := by rw [← hw3]; exact heap_size_alloc _ _
  have hb3 : Blk w3 w2.heap.size 3 [.int .i64 wo] := by rw [← hw3]; exact Blk.new w2 3 [.int .i64 wo]
  obtain ⟨w4, hw4⟩ : ∃ y, w3.alloc (.cells #[.int .i64 mo] 3) = y := ⟨_, rfl⟩
  have hm4 : Mod (fun _ => False) w3 w4 := by rw [← hw4]; exact Mod.alloc _ _ _
  have hz4 : w4.heap.size = w3.heap.size + 1 := by rw [← hw4]; exact heap_size_alloc _ _
  have hb4 : Blk w4 w3.heap.size 3 [.int .i64 mo] := by rw [← hw4]; exact Blk.new w3 3 [.int .i64 mo]
  obtain ⟨w5, hw5⟩ : ∃ y, w4.alloc (.cells #[.int .i64 st] 3) = y := ⟨_, rfl⟩
  have hm5 : Mod (fun _ => False) w4 w5 := by rw [← hw5]; exact Mod.alloc _ _ _
  have hz5 : w5.heap.size = w4.heap.size + 1 := by rw [← hw5]; exact heap_size_alloc _ _
  have hb5 : Blk w5 w4.heap.size 3 [.int .i64 st] := by rw [← hw5]; exact Blk.new w4 3 [.int .i64 st]
  have HX := Lib.hid (And.intro (And.intro (hb2.keep ((hm3.of2 hm4).of2 hm5) (fun e => e)) (And.intro (hb1.keep (((hm2.of2 hm3).of2 hm4).of2 hm5) (fun e => e)) (And.intro (hb3.keep (hm4.of2 hm5) (fun e => e)) (And.intro (hb4.keep hm5 (fun e => e)) hb5)))) ((((hm1.of2 hm2).of2 hm3).of2 hm4).of2 hm5))
  clear hm1 hz1 hb1 hm2 hz2 hb2 hm3 hz3 hb3 hm4 hz4 hb4 hm5 hz5 hb5
  go_enter Try.func63, Try.ntmps63
  go_wp2_with fail
  go_ret
  (try rw [hw1])
  (try rw [hw2])
  (try rw [hw3])
  (try rw [hw4])
  (try rw [hw5])
  exact ⟨_, _, _, _, _, rfl, HX.out.1, HX.out.2⟩
/-- Who is come to: the cells of what is told stand. -/
def FinS (c1 c2 l : Nat) (x : RndS) (W : World) : Prop := Mod (fun k => (k = c1 ∨ k = c2) ∨ k = l) x.1 W ∧ Blk W c1 3 [.int .i64 x.2.2.1] ∧ Blk W c2 4 [.bool true]
theorem FinS.put {c1 c2 l : Nat} {x : RndS} {W : World} (h : FinS c1 c2 l x W) (h1 : c1 ≠ l) (h2 : c2 ≠ l) (o : Obj) : FinS c1 c2 l x (W.putObj l o) :=
  ⟨h.1.trans (Mod.putObj W l o) (fun _ _ e => e) (fun _ _ e => .inr e), h.2.1.keep (Mod.putObj W l o) h1, h.2.2.keep (Mod.putObj W l o) h2⟩
theorem run_loadVar_one {P : Program} (w : World) (b : Nat) (t : TypeId) (v : Value) (d : TypeDesc) (hu : P.underlying t = some d) (hd : (match d with | .struct _ | .array _ _ => true | _ => false) = false) (hc : w.cell? ⟨b, 0, none⟩ = some v) : (loadVar t ⟨b, 0, none⟩).run P w = .ok v w := by
  unfold loadVar isAgg
  simp only [Sem.run_bind, run_underlying hu, Result.andThen_ok]
  cases d <;> simp [hc] at hd ⊢
theorem results_cells2 {P : Program} {fn : Func} {p u : Tmp} {t1 t2 : TypeId} (h : fn.results = #[.cell p t1, .cell u t2]) (tmps : Array Value) (w : World) (b1 b2 : Nat) (v1 v2 : Value) (d1 d2 : TypeDesc)
    (h1 : tmps.getD p undef = .pointer (some ⟨b1, 0, none⟩)) (h2 : tmps.getD u undef = .pointer (some ⟨b2, 0, none⟩)) (hu1 : P.underlying t1 = some d1) (hd1 : (match d1 with | .struct _ | .array _ _ => true | _ => false) = false) (hu2 : P.underlying t2 = some d2) (hd2 : (match d2 with | .struct _ | .array _ _ => true | _ => false) = false)
    (c1 : w.cell? ⟨b1, 0, none⟩ = some v1) (c2 : w.cell? ⟨b2, 0, none⟩ = some v2) : (results fn tmps).run P w = .ok (.tuple #[v1, v2]) w := by
  have h1' : tmps[p]?.getD undef = .pointer (some ⟨b1, 0, none⟩) := by simpa using h1
  have h2' : tmps[u]?.getD undef = .pointer (some ⟨b2, 0, none⟩) := by simpa using h2
  simp [results, h, h1', h2', asAddr, run_loadVar_one w b1 t1 v1 d1 hu1 hd1 c1, run_loadVar_one w b2 t2 v2 d2 hu2 hd2 c2, Sem.run_bind]
/-- What search tells. -/
def WSR (d : List Int) (tv mo st : Int) (w : World) (e : Ending) (w' : World) : Prop := e = .returned (.tuple #[.int .i64 (if foundB d tv mo st then dAt d tv.toNat else 0), .bool (foundB d tv mo st)]) ∧ Mod (fun _ => False) w w'
set_option maxHeartbeats 16000000 in
theorem wsearch_of {w : World} (q : Option Addr) (fr tv wo mo st : Int) (d : List Int)
    (hin : ∀ w4, Mod (fun _ => False) w w4 → ∀ (l D : Nat) (Fin : RndS → World → Prop) (R R2 O : Obj) (W1 : World) (bf bt bw bm bs : Nat), (w4.heap.size ≤ l ∧ w4.heap.size ≤ D) → l ≠ D → (∀ x W, Fin x W → Mod (fun k => k < w4.heap.size ∨ k = l) x.1 W) → Mod (fun _ => False) w4 W1 →
      Blk w4 bf 3 [.int .i64 fr] → Blk w4 bt 25 [.pointer q] → Blk w4 bw 3 [.int .i64 wo] → Blk w4 bm 3 [.int .i64 mo] → Blk w4 bs 3 [.int .i64 st] → W1.heap[l]? = some R → W1.heap[D]? = some O → YieldsTwo Try.prog rndS l D R R2 O (SJb w4 l) (SJa w4 l tv) (SJx w4 tv Fin) →
      CallsIn Fence.wide 0 Try.prog 71 #[.func (.yield l) #[] #[], .pointer (some ⟨bf, 0, none⟩), .pointer (some ⟨bt, 0, none⟩), .pointer (some ⟨bw, 0, none⟩), .pointer (some ⟨bm, 0, none⟩), .pointer (some ⟨bs, 0, none⟩)] W1 (SetQ w4 d tv mo st Fin l D R R2 O)) :
    Calls Try.prog 50 #[.pointer q, .int .i64 fr, .int .i64 tv, .int .i64 wo, .int .i64 mo, .int .i64 st] w (WSR d tv mo st w) := by
  have HIN := Lib.hid hin
  obtain ⟨c0, hc0⟩ : ∃ y, w.heap.size = y := ⟨_, rfl⟩
  obtain ⟨w1, hw1⟩ : ∃ y, w.alloc (.cells #[.int .i64 tv] 3) = y := ⟨_, rfl⟩
  have hm1 : Mod (fun _ => False) w w1 := by rw [← hw1]; exact Mod.alloc _ _ _
  have hz1 : w1.heap.size = w.heap.size + 1 := by rw [← hw1]; exact heap_size_alloc _ _
  have hb1 : Blk w1 w.heap.size 3 [.int .i64 tv] := by rw [← hw1]; exact Blk.new w 3 [.int .i64 tv]
  obtain ⟨w2, hw2⟩ : ∃ y, w1.alloc (.cells #[.int .i64 0] 3) = y := ⟨_, rfl⟩
  have hm2 : Mod (fun _ => False) w1 w2 := by rw [← hw2]; exact Mod.alloc _ _ _
  have hz2 : w2.heap.size = w1.heap.size + 1 := by rw [← hw2]; exact heap_size_alloc _ _
  have hb2 : Blk w2 w1.heap.size 3 [.int .i64 0] := by rw [← hw2]; exact Blk.new w1 3 [.int .i64 0]
  obtain ⟨w3, hw3⟩ : ∃ y, w2.alloc (.cells #[.bool false] 4) = y := ⟨_, rfl⟩
  have hm3 : Mod (fun _ => False) w2 w3 := by rw [← hw3]; exact Mod.alloc _ _ _
  have hz3 : w3.heap.size = w2.heap.size + 1 := by rw [← hw3]; exact heap_size_alloc _ _
  have hb3 : Blk w3 w2.heap.size 4 [.bool false] := by rw [← hw3]; exact Blk.new w2 4 [.bool false]
  have HX := Lib.hid (And.intro (And.intro ((hb1.keep (hm2.of2 hm3) (fun e => e)) : Blk w3 _ _ _) (And.intro ((hb2.keep hm3 (fun e => e)) : Blk w3 _ _ _) (hb3 : Blk w3 _ _ _))) (And.intro (And.intro hz1 (And.intro hz2 hz3)) ((hm1.of2 hm2).of2 hm3)))
  clear hm1 hb1 hm2 hb2 hm3 hb3
  clear hin
  refine calls_of_rf Try.func50 rfl ?_
  simp only [Try.ntmps50, List.size_toArray, List.length_cons, List.length_nil, Nat.reduceAdd, Nat.reduceSub, Array.replicate_succ, Array.replicate_zero, List.push_toArray, List.append_toArray, List.nil_append, List.cons_append]
  go_wp2_with fail
  refine (wsettled _ _ _ _ _ _).mono ?_
  rintro e w4 ⟨bf, bt, bw, bm, bs, rfl, hb, hm4⟩

  go_wp2_with fail
  obtain ⟨⟨x8, x12, x13⟩, ⟨z1, z2, z3⟩, m3⟩ := HX.out
  rw [hc0] at x8 z1
  rw [z1] at x12 z2
  rw [z2] at x13 z3
  obtain ⟨c1, hc1⟩ : ∃ y, c0 + 1 = y := ⟨_, rfl⟩
  rw [hc1] at x12 x13 z1 z2 z3 ⊢
  obtain ⟨c2, hc2⟩ : ∃ y, c1 + 1 = y := ⟨_, rfl⟩
  rw [hc2] at x13 z2 z3 ⊢
  have z4 := hm4.size
  have H4 := Lib.hid (And.intro trivial (And.intro hb (m3.of2 hm4)))
  have HC := Lib.hid (And.intro (x8.keep hm4 (fun e => e)) (And.intro (x12.keep hm4 (fun e => e)) (x13.keep hm4 (fun e => e))))
  have HLT : Hid ((w.heap.size ≤ c0 ∧ w.heap.size ≤ c1 ∧ w.heap.size ≤ c2) ∧ c0 < w4.heap.size ∧ c1 < w4.heap.size ∧ c2 < w4.heap.size ∧ c0 ≠ c1 ∧ c0 ≠ c2 ∧ c1 ≠ c2) := Lib.hid (by omega)
  clear x8 x12 x13 z1 z2 z3 z4 m3 hm4 hb hc0 hc1 hc2 hz1 hz2 hz3 hw1 hw2 hw3 HX
  obtain ⟨D, hD⟩ : ∃ y, y = w4.heap.size := ⟨_, rfl⟩
  obtain ⟨l, hl⟩ : ∃ y, y = w4.heap.size + 1 := ⟨_, rfl⟩
  have HDL := Lib.hid (And.intro hD hl)
  have hput : ∀ (W : World) (o : Obj) (k : Nat), k < w4.heap.size → ¬ (fun k => k = l) k := fun W o k hk e => by have e2 : k = l := e; omega
  refine wp_rangeFunc_ret (gf := 71) (la := #[]) (lb := #[.pointer (some ⟨bf, 0, none⟩), .pointer (some ⟨bt, 0, none⟩), .pointer (some ⟨bw, 0, none⟩), .pointer (some ⟨bm, 0, none⟩), .pointer (some ⟨bs, 0, none⟩)]) rfl (enters_of Try.func71 (by kernel_rfl) rfl) rndS (fun _ => rfl) l D hD hl (fun W' => Mod (fun _ => False) w4 W') (SJb w4 l) (SJa w4 l tv) (SJx w4 tv (FinS c1 c2 l)) (SJe w4 d tv mo st) (SJr w4 d tv mo st (FinS c1 c2 l)) ?kJ ?kb ?kx ?ke ?kr ?start
    (fun x b W => ∃ g, (b.tmps.size = 28 ∧ b.tmps[8]? = some (.pointer (some ⟨c0, 0, none⟩)) ∧ b.tmps[12]? = some (.pointer (some ⟨c1, 0, none⟩)) ∧ b.tmps[13]? = some (.pointer (some ⟨c2, 0, none⟩)) ∧ b.tmps[14]? = some (.pointer (some ⟨g, 0, none⟩))) ∧ g ≠ l ∧ SJb w4 l x W ∧ Blk W g 106 [.int .i64 x.2.1, .int .i64 x.2.2.1, .int .i64 x.2.2.2]) ?kc ?assign ?iter ?body ?done ?ret
  case kJ => exact fun x W o h => ⟨h.1, h.2.1, h.2.2.trans (Mod.putObj W l o) (fun _ _ e => e) (fun _ _ e => e)⟩
  case kb => exact fun x W o h => ⟨h.1, h.2.trans (Mod.putObj W l o) (fun _ _ e => e) (fun _ _ e => e)⟩
  case kx => exact fun x W o h => ⟨h.1, h.2.1, h.2.2.put (by have := HLT.out; omega) (by have := HLT.out; omega) o⟩
  case ke => exact fun W o h => ⟨h.1, h.2.trans (Mod.putObj W l o) (fun _ _ e => e) (fun k hk e => hput W o k hk e)⟩
  case kr =>
    rintro W o ⟨h1, x, h2, h3, W0, h4, h5⟩
    exact ⟨h1, x, h2, h3, W0, h4, h5.trans (Mod.putObj W l o) (fun _ _ e => e) (fun k _ e => by have e2 : k = l := e; omega)⟩
  case kc => exact fun x b W o ⟨g, h1, h2, h3, h4⟩ => ⟨g, h1, h2, ⟨h3.1, h3.2.trans (Mod.putObj W l o) (fun _ _ e => e) (fun _ _ e => e)⟩, h4.keep (Mod.putObj W l o) h2⟩
  case start => exact fun o o' => (Mod.alloc _ _ _).of2 (Mod.alloc _ _ _)
  case iter =>
    intro R' R2' O' W1' hJ hl' hd' hY'
    obtain ⟨_, ⟨b1, b2, b3, b4, b5⟩, h4⟩ := H4.out
    exact HIN.out w4 h4 l D (FinS c1 c2 l) R' R2' O' W1' bf bt bw bm bs (by omega) (by omega) (fun x W h => h.1.mono (fun k _ e => by have := HLT.out; rcases e with (e | e) | e; exact .inl (by omega); exact .inl (by omega); exact .inr e)) hJ b1 b2 b3 b4 b5 hl' hd' hY'
  case assign =>
    rintro R' O' ⟨x0, x1, x2, x3⟩ W' hb' hl' hd'
    have hll := (Array.getElem?_eq_some_iff.1 hl').1
    have HJ := Lib.hid (And.intro hb' (And.intro hl' hd'))
    obtain ⟨g, hg⟩ : ∃ y, W'.heap.size = y := ⟨_, rfl⟩
    have HGL : Hid (g ≠ l) := Lib.hid (by omega)
    dsimp only [rndS]
    have HG := Lib.hid hg
    clear hll hb' hl' hd' hg hput hD hl
    gi_wp2_with fail
    have hma : Mod (fun _ => False) W' (W'.alloc (.cells #[.int .i64 x1, .int .i64 x2, .int .i64 x3] 106)) := Mod.alloc _ _ _
    have hbn : Blk (W'.alloc (.cells #[.int .i64 x1, .int .i64 x2, .int .i64 x3] 106)) W'.heap.size 106 [.int .i64 x1, .int .i64 x2, .int .i64 x3] := Blk.new W' 106 [.int .i64 x1, .int .i64 x2, .int .i64 x3]
    rw [HG.out] at hbn ⊢
    exact ⟨⟨g, ⟨rfl, rfl, rfl, rfl, rfl⟩, HGL.out, ⟨HJ.out.1.1, HJ.out.1.2.trans hma (fun _ _ e => e) (fun _ _ e => e.elim)⟩, hbn⟩, hma.obj HJ.out.2.1 (fun e => e), hma.obj HJ.out.2.2 (fun e => e)⟩
  case body =>
    rintro R' O' ⟨x0, x1, x2, x3⟩ ⟨tm, df⟩ W' ⟨g, ⟨hsz, t8, t12, t13, t14⟩, hgl, hq, hbg⟩ hl' hd'
    simp only at hsz t8 t12 t13 t14 hbg
    obtain ⟨f, hf⟩ : ∃ f : Nat → Value, tm = #[f 0, f 1, f 2, f 3, f 4, f 5, f 6, f 7, f 8, f 9, f 10, f 11, f 12, f 13, f 14, f 15, f 16, f 17, f 18, f 19, f 20, f 21, f 22, f 23, f 24, f 25, f 26, f 27] := ⟨fun k => tm.getD k undef, tmps_form tm 28 hsz⟩
    subst hf
    have e8 : f 8 = .pointer (some ⟨c0, 0, none⟩) := Option.some.inj t8
    have e12 : f 12 = .pointer (some ⟨c1, 0, none⟩) := Option.some.inj t12
    have e13 : f 13 = .pointer (some ⟨c2, 0, none⟩) := Option.some.inj t13
    have e14 : f 14 = .pointer (some ⟨g, 0, none⟩) := Option.some.inj t14
    clear hsz t8 t12 t13 t14
    rw [e8, e12, e13, e14]
    clear e8 e12 e13 e14
    generalize f 0 = u0
    generalize f 1 = u1
    generalize f 2 = u2
    generalize f 3 = u3
    generalize f 4 = u4
    generalize f 5 = u5
    generalize f 6 = u6
    generalize f 7 = u7
    generalize f 9 = u9
    generalize f 10 = u10
    generalize f 11 = u11
    generalize f 15 = u15
    generalize f 16 = u16
    generalize f 17 = u17
    generalize f 18 = u18
    generalize f 19 = u19
    generalize f 20 = u20
    generalize f 21 = u21
    generalize f 22 = u22
    generalize f 23 = u23
    generalize f 24 = u24
    generalize f 25 = u25
    generalize f 26 = u26
    generalize f 27 = u27
    clear f
    have hlt := HLT.out
    have hdl := HDL.out
    obtain ⟨hq1, hq2⟩ := hq
    have HQ := Lib.hid (And.intro hq1 (And.intro hq2 (And.intro hl' hd')))
    have k8 := (HC.out.1.keep hq1 (fun e => e)).keep hq2 (by omega)
    have k12 := (HC.out.2.1.keep hq1 (fun e => e)).keep hq2 (by omega)
    have k13 := (HC.out.2.2.keep hq1 (fun e => e)).keep hq2 (by omega)
    have q8 := k8.cell 0 rfl
    have q12 := k12.cell 0 rfl
    have q13 := k13.cell 0 rfl
    have f12 := k12.free 0
    have f13 := k13.free 0
    have g0 := hbg.cell 0 rfl
    have g1 := hbg.cell 1 rfl
    have HK := Lib.hid (And.intro k12 k13)
    by_cases hx : x1 = tv
    · have z0 : (x1 == tv) = true := beq_iff_eq.2 hx
      have HXT := Lib.hid hx
      have n12 : c1 ≠ c2 := by omega
      clear hq1 hq2 hl' hd' hgl hput hD hl hlt hdl k8 k12 k13 hbg hx
      gi_wp2_with fail
      have hs1 : Mod (fun k => k = c1) W' (W'.setCell ⟨c1, 0, none⟩ (.int .i64 x2)) := Mod.setCell _ _ _ rfl
      have hs2 : Mod (fun k => k = c2) (W'.setCell ⟨c1, 0, none⟩ (.int .i64 x2)) ((W'.setCell ⟨c1, 0, none⟩ (.int .i64 x2)).setCell ⟨c2, 0, none⟩ (.bool true)) := Mod.setCell _ _ _ rfl
      have hlt := HLT.out
      have hdl := HDL.out
      have n1 : c1 ≠ l := by omega
      have n2 : c2 ≠ l := by omega
      have n3 : c1 ≠ D := by omega
      have n4 : c2 ≠ D := by omega
      obtain ⟨h1, h2, h3, h4⟩ := HQ.out
      exact ⟨⟨HXT.out, h1, ((h2.trans (H := fun k => (k = c1 ∨ k = c2) ∨ k = l) hs1 (fun _ _ e => .inr e) (fun _ _ e => .inl (.inl e))).trans hs2 (fun _ _ e => e) (fun _ _ e => .inl (.inr e))), (HK.out.1.set 0 _).keep hs2 n12, (HK.out.2.keep hs1 (Ne.symm n12)).set 0 _⟩, hs2.obj (hs1.obj h3 (fun e => n1 (Eq.symm e))) (fun e => n2 (Eq.symm e)), hs2.obj (hs1.obj h4 (fun e => n3 (Eq.symm e))) (fun e => n4 (Eq.symm e))⟩
    · have z0 : (x1 == tv) = false := beq_eq_false_iff_ne.2 hx
      have HXT := Lib.hid hx
      clear hq1 hq2 hl' hd' hgl hput hD hl hlt hdl k8 k12 k13 hbg hx q12 q13 f12 f13 g1
      gi_wp2_with fail
      obtain ⟨h1, h2, h3, h4⟩ := HQ.out
      exact ⟨⟨HXT.out, h1, h2⟩, h3, h4⟩
  case done =>
    rintro W ⟨hnf, hm⟩ hd'
    have k12 := HC.out.2.1.keep hm (fun e => e)
    have k13 := HC.out.2.2.keep hm (fun e => e)
    have q12 := k12.cell 0 rfl
    have q13 := k13.cell 0 rfl
    have f12 := k12.free 0
    have f13 := k13.free 0
    have HK := Lib.hid (And.intro k12 (And.intro k13 (And.intro hnf (And.intro hm hd'))))
    have n12 : c1 ≠ c2 := by have := HLT.out; omega
    clear hput hD hl k12 k13 hnf hm hd'
    go_wp2_with fail
    (try simp only [Exit.inBlock, Exit.then])
    have hs1 : Mod (fun k => k = c1) W (W.setCell ⟨c1, 0, none⟩ (.int .i64 0)) := Mod.setCell _ _ _ rfl
    have hs2 : Mod (fun k => k = c2) (W.setCell ⟨c1, 0, none⟩ (.int .i64 0)) ((W.setCell ⟨c1, 0, none⟩ (.int .i64 0)).setCell ⟨c2, 0, none⟩ (.bool false)) := Mod.setCell _ _ _ rfl
    have hlt := HLT.out
    have hdl := HDL.out
    obtain ⟨k12, k13, hnf, hm, hd'⟩ := HK.out
    have hs3 := Mod.putObj ((W.setCell ⟨c1, 0, none⟩ (.int .i64 0)).setCell ⟨c2, 0, none⟩ (.bool false)) D (.deferred none)
    have y1 := ((k12.set 0 (.int .i64 0)).keep hs2 n12).keep hs3 (by omega : c1 ≠ D)
    have y2 := ((k13.keep hs1 (Ne.symm n12)).set 0 (.bool false)).keep hs3 (by omega : c2 ≠ D)
    refine rfPost_retD rfl (hs2.obj (hs1.obj hd' (fun e => by have e2 : D = c1 := e; omega)) (fun e => by have e2 : D = c2 := e; omega)) (results_cells2 rfl _ _ c1 c2 _ _ _ _ rfl rfl Try.underlying3 rfl Try.underlying4 rfl (y1.cell 0 rfl) (y2.cell 0 rfl)) ?_
    refine ⟨by rw [hnf]; rfl, ?_⟩
    exact (H4.out.2.2.of2 hm).trans ((hs1.trans (H := fun k => w.heap.size ≤ k) hs2 (fun k _ e => by have e2 : k = c1 := e; omega) (fun k _ e => by have e2 : k = c2 := e; omega)).trans (H := fun k => w.heap.size ≤ k) hs3 (fun _ _ e => e) (fun k _ e => by have e2 : k = D := e; have := H4.out.2.2.size; omega)) (fun _ _ e => e) (fun k hk e => by have e2 : w.heap.size ≤ k := e; omega)
  case ret =>
    rintro W ⟨hy, x, hx1, hx2, W0, hf0, h0⟩ hd'
    clear hput hD hl
    go_wp2_with fail
    (try simp only [Exit.inBlock, Exit.then])
    have hlt := HLT.out
    have hdl := HDL.out
    have hs3 := Mod.putObj W D (.deferred none)
    have n1 : ¬ w4.heap.size ≤ c1 := by omega
    have n2 : ¬ w4.heap.size ≤ c2 := by omega
    have y1 := (hf0.2.1.keep h0 n1).keep hs3 (by omega : c1 ≠ D)
    have y2 := (hf0.2.2.keep h0 n2).keep hs3 (by omega : c2 ≠ D)
    refine rfPost_retD rfl hd' (results_cells2 rfl _ _ c1 c2 _ _ _ _ rfl rfl Try.underlying3 rfl Try.underlying4 rfl (y1.cell 0 rfl) (y2.cell 0 rfl)) ?_
    refine ⟨by rw [hy, hx1]; rfl, ?_⟩
    have h4s := H4.out.2.2.size
    exact ((H4.out.2.2.of2 hx2).trans (hf0.1.trans (H := fun k => w.heap.size ≤ k) h0 (fun k _ e => by rcases e with (e | e) | e <;> omega) (fun k _ e => by have e2 : w4.heap.size ≤ k := e; omega)) (fun _ _ e => e) (fun k hk e => by have e2 : w.heap.size ≤ k := e; omega)).trans hs3 (fun _ _ e => e) (fun k hk e => by have e2 : k = D := e; omega)
theorem wsearch {w : World} {tp n : Nat} {L : List Ar} {F : Nat → Prop} (h : NT w tp n L F) (hw : ∀ a ∈ L, a.w ≤ 65535) (fr tv wo mo st : Int) (d : List Int) (hf : Fix (netW n L fr wo) d) :
    Calls Try.prog 50 #[.pointer (some ⟨tp, 0, none⟩), .int .i64 fr, .int .i64 tv, .int .i64 wo, .int .i64 mo, .int .i64 st] w (WSR d tv mo st w) :=
  wsearch_of _ fr tv wo mo st d fun _ hm4 l D Fin R R2 O W1 bf bt bw bm bs hlD hne hFin hW1 b1 b2 b3 b4 b5 hl hD hY =>
    settled_in (h.later hm4) hw fr wo mo st tv d hf l D hlD hne Fin hFin R R2 O W1 hW1 bf bt bw bm bs b1 b2 b3 b4 b5 hl hD hY
theorem nt_len_nilq {w : World} (k : Nat) : Calls Try.prog 25 #[.pointer none] (w.drewN k) fun e w' => e = .returned (.int .i64 0) ∧ w' = w.drewN k :=
  (nt_len_nil _).mono fun _ _ hh => ⟨hh.1, hh.2.symm⟩
set_option maxHeartbeats 4000000 in
/-- Over no net. -/
theorem settled_nil {w : World} (fr _ mo st tv : Int) (h0 : 0 ≤ fr) (l D : Nat) (_ : w.heap.size ≤ l ∧ w.heap.size ≤ D) (Fin : RndS → World → Prop) (R R2 O : Obj) (W1 : World) (hW1 : Mod (fun _ => False) w W1)
    (bf bt bw bm bs : Nat) (hbf : Blk w bf 3 [.int .i64 fr]) (hbt : Blk w bt 25 [.pointer none])
    (hl : W1.heap[l]? = some R) (hD : W1.heap[D]? = some O) :
    CallsIn Fence.wide 0 Try.prog 71 #[.func (.yield l) #[] #[], .pointer (some ⟨bf, 0, none⟩), .pointer (some ⟨bt, 0, none⟩), .pointer (some ⟨bw, 0, none⟩), .pointer (some ⟨bm, 0, none⟩), .pointer (some ⟨bs, 0, none⟩)] W1 (SetQ w [] tv mo st Fin l D R R2 O) := by
  refine callsIn_wide.2 ?_
  have HL := Lib.hid hl
  have HD := Lib.hid hD
  have HM1 := Lib.hid hW1
  have c1 := (hbf.keep hW1 (fun e => e)).cell 0 rfl
  have c2 := (hbt.keep hW1 (fun e => e)).cell 0 rfl
  have hq := fun k => nt_len_nilq (w := W1) k
  have hnf : foundB [] tv mo st = false := decide_eq_false (fun ⟨_, h2, _⟩ => by unfold dAt at h2; simp at h2)
  have HNF := Lib.hid hnf
  have hbs : ∀ k, BsP w (World.drewN W1 k) W1.heap.size [] l D R O := fun k => ⟨HM1.out.of2 (Mod.drewN _ _ _), (Mod.drewN (fun _ => False) _ _).obj HL.out (fun e => e), (Mod.drewN (fun _ => False) _ _).obj HD.out (fun e => e), ⟨List.nodup_nil, fun _ h => (by cases h)⟩, ⟨(Array.getElem?_eq_some_iff.1 HL.out).1, (Array.getElem?_eq_some_iff.1 HD.out).1, HM1.out.size⟩, fun _ h => (by cases h)⟩
  have HBS := Lib.hid hbs
  have z0 : decide (fr < 0) = false := decide_eq_false (by omega)
  have z2 : decide (0 ≤ fr) = true := decide_eq_true (by omega)
  clear hnf hbs hl hD hbf hbt hW1 h0
  refine calls_of_rfN Try.func71 rfl ?_
  simp only [Try.ntmps71, List.size_toArray, List.length_cons, List.length_nil, Nat.reduceAdd, Nat.reduceSub, Array.replicate_succ, Array.replicate_zero, List.push_toArray, List.append_toArray, List.nil_append, List.cons_append]
  go_upto_region 0 with fail
  go_quiet ((go_at_call 25; exact Calls.quiet_of_same (hq _)))
  go_wp2_with fail
  (try simp only [Exit.inBlock, Exit.then])
  exact set_no (HBS.out _) HNF.out Try.func71 (by first | exact .inl rfl | exact .inr rfl)
theorem rankN_lt {X : Web} {d : List Int} (hf : Fix X d) {u : Nat} (h : 0 ≤ dAt d u) : rankN d u < X.m := by
  have hu : u < d.length := dAt_in h
  have hn : u ∉ (List.range d.length).filter (rankB d u) := fun e => ahead.irr (rankB_iff.1 (List.mem_filter.1 e).2).2
  have := nodupN_le (u :: (List.range d.length).filter (rankB d u)) (List.range d.length) (List.nodup_cons.2 ⟨hn, List.nodup_range.filter _⟩) (fun y hy => (List.mem_cons.1 hy).elim (fun e => by rw [e]; exact List.mem_range.2 hu) (fun e => (List.mem_filter.1 e).1))
  rw [List.length_cons, List.length_range] at this
  unfold rankN
  rw [← hf.len]; omega
theorem found_far {n : Nat} {L : List Ar} {fr wo : Int} {d : List Int} (hn : n ≤ 512) (hf : Fix (netW n L fr wo) d) (tv : Int) : foundB d tv 9223372036854775807 n = decide (0 ≤ tv ∧ 0 ≤ dAt d tv.toNat) := by
  unfold foundB
  apply decide_eq_decide.2
  constructor
  · rintro ⟨h1, h2, _⟩; exact ⟨h1, h2⟩
  · rintro ⟨h1, h2⟩
    have h3 := netW_top hn hf tv.toNat
    have h4 : rankN d tv.toNat < n := rankN_lt hf h2
    exact ⟨h1, h2, by omega, by omega⟩
set_option maxHeartbeats 4000000 in
theorem wfind {w : World} {tp n : Nat} {L : List Ar} {F : Nat → Prop} (h : NT w tp n L F) (hw : ∀ a ∈ L, a.w ≤ 65535) (fr tv wo mo st : Int) (d : List Int) (hf : Fix (netW n L fr wo) d) :
    Calls Try.prog 34 #[.pointer (some ⟨tp, 0, none⟩), .int .i64 fr, .int .i64 tv, .int .i64 wo, .int .i64 mo, .int .i64 st] w fun e w' => e = .returned (.bool (foundB d tv mo st)) ∧ Mod (fun _ => False) w w' := by
  have H := Lib.hid (wsearch h hw fr tv wo mo st d hf)
  clear h hw hf
  obtain ⟨fb, hfb⟩ : ∃ y, foundB d tv mo st = y := ⟨_, rfl⟩
  obtain ⟨fs, hfs⟩ : ∃ y : Int, (if foundB d tv mo st then dAt d tv.toNat else 0) = y := ⟨_, rfl⟩
  have HB := Lib.hid (And.intro hfb hfs)
  rw [hfb]
  clear hfb hfs
  go_enter Try.func34, Try.ntmps34
  go_wp2_with fail
  refine H.out.mono ?_
  rintro e w2 ⟨rfl, hm⟩
  rw [HB.out.2, HB.out.1]
  go_wp2_with fail
  go_ret
  exact ⟨rfl, hm⟩
set_option maxHeartbeats 4000000 in
theorem wfar {w : World} {tp n : Nat} {L : List Ar} {F : Nat → Prop} (h : NT w tp n L F) (hw : ∀ a ∈ L, a.w ≤ 65535) (fr tv : Int) (d : List Int) (hf : Fix (netW n L fr (-1)) d) :
    Calls Try.prog 33 #[.pointer (some ⟨tp, 0, none⟩), .int .i64 fr, .int .i64 tv] w fun e w' => e = .returned (.tuple #[.int .i64 (if 0 ≤ tv ∧ 0 ≤ dAt d tv.toNat then dAt d tv.toNat else 0), .bool (decide (0 ≤ tv ∧ 0 ≤ dAt d tv.toNat))]) ∧ Mod (fun _ => False) w w' := by
  have hl := Lib.hid (nt_len h)
  have H := Lib.hid (wsearch h hw fr tv (-1) 9223372036854775807 n d hf)
  have hfb := found_far h.n512 hf tv
  obtain ⟨fs, hfs⟩ : ∃ y : Int, (if 0 ≤ tv ∧ 0 ≤ dAt d tv.toNat then dAt d tv.toNat else 0) = y := ⟨_, rfl⟩
  obtain ⟨fb, hfb2⟩ : ∃ y, decide (0 ≤ tv ∧ 0 ≤ dAt d tv.toNat) = y := ⟨_, rfl⟩
  have hfs2 : (if foundB d tv 9223372036854775807 n then dAt d tv.toNat else 0) = fs := by rw [hfb, ← hfs]; simp only [decide_eq_true_eq]
  rw [hfb2] at hfb
  have HB := Lib.hid (And.intro hfb hfs2)
  rw [hfs, hfb2]
  clear h hw hf hfb hfs hfb2 hfs2
  go_enter Try.func33, Try.ntmps33
  go_wp2_with fail
  refine hl.out.mono ?_
  rintro e w2 ⟨rfl, rfl⟩
  go_wp2_with fail
  refine H.out.mono ?_
  rintro e w2 ⟨rfl, hm⟩
  rw [HB.out.2, HB.out.1]
  go_wp2_with fail
  refine bodyPost_ret (results_tmp2 rfl _ _ _) rfl ?_
  exact ⟨rfl, hm⟩
set_option maxHeartbeats 4000000 in
/-- No net: nothing is found. -/
theorem wfind_nil (w : World) (fr tv wo mo st : Int) (h0 : 0 ≤ fr) :
    Calls Try.prog 34 #[.pointer none, .int .i64 fr, .int .i64 tv, .int .i64 wo, .int .i64 mo, .int .i64 st] w fun e w' => e = .returned (.bool false) ∧ Mod (fun _ => False) w w' := by
  have H := Lib.hid (wsearch_of (w := w) none fr tv wo mo st [] fun w4 hm4 l D Fin R R2 O W1 bf bt bw bm bs hlD hne hFin hW1 b1 b2 b3 b4 b5 hl hD hY =>
    settled_nil fr wo mo st tv h0 l D hlD Fin R R2 O W1 hW1 bf bt bw bm bs b1 b2 hl hD)
  have hnf : foundB [] tv mo st = false := decide_eq_false (fun ⟨_, h2, _⟩ => by unfold dAt at h2; simp at h2)
  have HB := Lib.hid hnf
  clear hnf h0
  go_enter Try.func34, Try.ntmps34
  go_wp2_with fail
  refine H.out.mono ?_
  rintro e w2 ⟨rfl, hm⟩
  rw [HB.out, if_neg (by simp)]
  go_wp2_with fail
  go_ret
  exact ⟨rfl, hm⟩
end Go.Proofs.Ytnklgeekjkchbaa
