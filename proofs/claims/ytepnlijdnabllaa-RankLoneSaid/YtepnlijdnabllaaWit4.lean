/- witness.settled, search, Find and Far, by contract. -/
import Derived.Test.YtepnlijdnabllaaWit3
namespace Go.Proofs.Ytepnlijdnabllaa
open Go.RowKit Mile
set_option maxRecDepth 100000
attribute [local go_sem] Oper.semAt_some
set_option maxHeartbeats 4000000 in
theorem wsettled (w : World) (q : Option Addr) (fr wo mo st : Int) : Calls Try.prog 69 #[.pointer q, .int .i64 fr, .int .i64 wo, .int .i64 mo, .int .i64 st] w fun e w' => ∃ bf bt bw bm bs, e = .returned (.func (.func 76) #[] #[.pointer (some ⟨bf, 0, none⟩), .pointer (some ⟨bt, 0, none⟩), .pointer (some ⟨bw, 0, none⟩), .pointer (some ⟨bm, 0, none⟩), .pointer (some ⟨bs, 0, none⟩)]) ∧ (Blk w' bf 3 [.int .i64 fr] ∧ Blk w' bt 25 [.pointer q] ∧ Blk w' bw 3 [.int .i64 wo] ∧ Blk w' bm 3 [.int .i64 mo] ∧ Blk w' bs 3 [.int .i64 st]) ∧ Mod (fun _ => False) w w' := by
  obtain ⟨w1, hw1⟩ : ∃ y, w.alloc (.cells #[.pointer q] 25) = y := ⟨_, rfl⟩
  have hm1 : Mod (fun _ => False) w w1 := by rw [← hw1]; exact Mod.alloc _ _ _
  have hz1 : w1.heap.size = w.heap.size + 1 := by rw [← hw1]; exact heap_size_alloc _ _
  have hb1 : Blk w1 w.heap.size 25 [.pointer q] := by rw [← hw1]; exact Blk.new w 25 [.pointer q]
  obtain ⟨w2, hw2⟩ : ∃ y, w1.alloc (.cells #[.int .i64 fr] 3) = y := ⟨_, rfl⟩
  have hm2 : Mod (fun _ => False) w1 w2 := by rw [← hw2]; exact Mod.alloc _ _ _
  have hz2 : w2.heap.size = w1.heap.size + 1 := by rw [← hw2]; exact heap_size_alloc _ _
  have hb2 : Blk w2 w1.heap.size 3 [.int .i64 fr] := by rw [← hw2]; exact Blk.new w1 3 [.int .i64 fr]
  obtain ⟨w3, hw3⟩ : ∃ y, w2.alloc (.cells #[.int .i64 wo] 3) = y := ⟨_, rfl⟩
  have hm3 : Mod (fun _ => False) w2 w3 := by rw [← hw3]; exact Mod.alloc _ _ _
  have hz3 : w3.heap.size = w2.heap.size + 1 := by rw [← hw3]; exact heap_size_alloc _ _
  have hb3 : Blk w3 w2.heap.size 3 [.int .i64 wo] := by rw [← hw3]; exact Blk.new w2 3 [.int .i64 wo]
  obtain ⟨w4, hw4⟩ : ∃ y, w3.alloc (.cells #[.int .i64 mo] 3) = y := ⟨_, rfl⟩
  have hm4 : Mod (fun _ => False) w3 w4 := by rw [← hw4]; exact Mod.alloc _ _ _
  have hz4 : w4.heap.size = w3.heap.size + 1 := by rw [← hw4]; exact heap_size_alloc _ _
  have hb4 : Blk w4 w3.heap.size 3 [.int .i64 mo] := by rw [← hw4]; exact Blk.new w3 3 [.int .i64 mo]
  obtain ⟨w5, hw5⟩ : ∃ y, w4.alloc (.cells #[.int .i64 st] 3) = y := ⟨_, rfl⟩
  have hm5 : Mod (fun _ => False) w4 w5 := by rw [← hw5]; exact Mod.alloc _ _ _
  have hz5 : w5.heap.size = w4.heap.size + 1 := by rw [← hw5]; exact heap_size_alloc _ _
  have hb5 : Blk w5 w4.heap.size 3 [.int .i64 st] := by rw [← hw5]; exact Blk.new w4 3 [.int .i64 st]
  have HX := Lib.hid (And.intro (And.intro (hb2.keep ((hm3.of2 hm4).of2 hm5) (fun e => e)) (And.intro (hb1.keep (((hm2.of2 hm3).of2 hm4).of2 hm5) (fun e => e)) (And.intro (hb3.keep (hm4.of2 hm5) (fun e => e)) (And.intro (hb4.keep hm5 (fun e => e)) hb5)))) ((((hm1.of2 hm2).of2 hm3).of2 hm4).of2 hm5))
  clear hm1 hz1 hb1 hm2 hz2 hb2 hm3 hz3 hb3 hm4 hz4 hb4 hm5 hz5 hb5
  go_enter Try.func69, Try.ntmps69
  go_wp2_with fail
  go_ret
  (try rw [hw1])
  (try rw [hw2])
  (try rw [hw3])
  (try rw [hw4])
  (try rw [hw5])
  exact ⟨_, _, _, _, _, rfl, HX.out.1, HX.out.2⟩
/-- Who is come to: the cells of what is told stand. -/
def FinS (c1 c2 l : Nat) (x : RndS) (W : World) : Prop := Mod (fun k => (k = c1 ∨ k = c2) ∨ k = l) x.1 W ∧ Blk W c1 3 [.int .i64 x.2.2.1] ∧ Blk W c2 4 [.bool true]
theorem FinS.put {c1 c2 l : Nat} {x : RndS} {W : World} (h : FinS c1 c2 l x W) (h1 : c1 ≠ l) (h2 : c2 ≠ l) (o : Obj) : FinS c1 c2 l x (W.putObj l o) :=
  ⟨h.1.trans (Mod.putObj W l o) (fun _ _ e => e) (fun _ _ e => .inr e), h.2.1.keep (Mod.putObj W l o) h1, h.2.2.keep (Mod.putObj W l o) h2⟩
theorem run_loadVar_one {P : Program} (w : World) (b : Nat) (t : TypeId) (v : Value) (d : TypeDesc) (hu : P.underlying t = some d) (hd : (match d with | .struct _ | .array _ _ => true | _ => false) = false) (hc : w.cell? ⟨b, 0, none⟩ = some v) : (loadVar t ⟨b, 0, none⟩).run P w = .ok v w := by
  unfold loadVar isAgg
  simp only [Sem.run_bind, run_underlying hu, Result.andThen_ok]
  cases d <;> simp [hc] at hd ⊢
theorem results_cells2 {P : Program} {fn : Func} {p u : Tmp} {t1 t2 : TypeId} (h : fn.results = #[.cell p t1, .cell u t2]) (tmps : Array Value) (w : World) (b1 b2 : Nat) (v1 v2 : Value) (d1 d2 : TypeDesc)
    (h1 : tmps.getD p undef = .pointer (some ⟨b1, 0, none⟩)) (h2 : tmps.getD u undef = .pointer (some ⟨b2, 0, none⟩)) (hu1 : P.underlying t1 = some d1) (hd1 : (match d1 with | .struct _ | .array _ _ => true | _ => false) = false) (hu2 : P.underlying t2 = some d2) (hd2 : (match d2 with | .struct _ | .array _ _ => true | _ => false) = false)
    (c1 : w.cell? ⟨b1, 0, none⟩ = some v1) (c2 : w.cell? ⟨b2, 0, none⟩ = some v2) : (results fn tmps).run P w = .ok (.tuple #[v1, v2]) w := by
  have h1' : tmps[p]?.getD undef = .pointer (some ⟨b1, 0, none⟩) := by simpa using h1
  have h2' : tmps[u]?.getD undef = .pointer (some ⟨b2, 0, none⟩) := by simpa using h2
  simp [results, h, h1', h2', asAddr, run_loadVar_one w b1 t1 v1 d1 hu1 hd1 c1, run_loadVar_one w b2 t2 v2 d2 hu2 hd2 c2, Sem.run_bind]
/-- What search tells. -/
def WSR (d : List Int) (tv mo st : Int) (w : World) (e : Ending) (w' : World) : Prop := e = .returned (.tuple #[.int .i64 (if foundB d tv mo st then dAt d tv.toNat else 0), .bool (foundB d tv mo st)]) ∧ Mod (fun _ => False) w w'
theorem nt_len_nilq {w : World} (k : Nat) : Calls Try.prog 46 #[.pointer none] (w.drewN k) fun e w' => e = .returned (.int .i64 0) ∧ w' = w.drewN k :=
  (nt_len_nil _).mono fun _ _ hh => ⟨hh.1, hh.2.symm⟩
set_option maxHeartbeats 4000000 in
/-- Over no net. -/
theorem settled_nil {w : World} (fr _ mo st tv : Int) (h0 : 0 ≤ fr) (l D : Nat) (_ : w.heap.size ≤ l ∧ w.heap.size ≤ D) (Fin : RndS → World → Prop) (R R2 O : Obj) (W1 : World) (hW1 : Mod (fun _ => False) w W1)
    (bf bt bw bm bs : Nat) (hbf : Blk w bf 3 [.int .i64 fr]) (hbt : Blk w bt 25 [.pointer none])
    (hl : W1.heap[l]? = some R) (hD : W1.heap[D]? = some O) :
    CallsIn Fence.wide 0 Try.prog 76 #[.func (.yield l) #[] #[], .pointer (some ⟨bf, 0, none⟩), .pointer (some ⟨bt, 0, none⟩), .pointer (some ⟨bw, 0, none⟩), .pointer (some ⟨bm, 0, none⟩), .pointer (some ⟨bs, 0, none⟩)] W1 (SetQ w [] tv mo st Fin l D R R2 O) := by
  refine callsIn_wide.2 ?_
  have HL := Lib.hid hl
  have HD := Lib.hid hD
  have HM1 := Lib.hid hW1
  have c1 := (hbf.keep hW1 (fun e => e)).cell 0 rfl
  have c2 := (hbt.keep hW1 (fun e => e)).cell 0 rfl
  have hq := fun k => nt_len_nilq (w := W1) k
  have hnf : foundB [] tv mo st = false := decide_eq_false (fun ⟨_, h2, _⟩ => by unfold dAt at h2; simp at h2)
  have HNF := Lib.hid hnf
  have hbs : ∀ k, BsP w (World.drewN W1 k) W1.heap.size [] l D R O := fun k => ⟨HM1.out.of2 (Mod.drewN _ _ _), (Mod.drewN (fun _ => False) _ _).obj HL.out (fun e => e), (Mod.drewN (fun _ => False) _ _).obj HD.out (fun e => e), ⟨List.nodup_nil, fun _ h => (by cases h)⟩, ⟨(Array.getElem?_eq_some_iff.1 HL.out).1, (Array.getElem?_eq_some_iff.1 HD.out).1, HM1.out.size⟩, fun _ h => (by cases h)⟩
  have HBS := Lib.hid hbs
  have z0 : decide (fr < 0) = false := decide_eq_false (by omega)
  have z2 : decide (0 ≤ fr) = true := decide_eq_true (by omega)
  clear hnf hbs hl hD hbf hbt hW1 h0
  refine calls_of_rfN Try.func76 rfl ?_
  simp only [Try.ntmps76, List.size_toArray, List.length_cons, List.length_nil, Nat.reduceAdd, Nat.reduceSub, Array.replicate_succ, Array.replicate_zero, List.push_toArray, List.append_toArray, List.nil_append, List.cons_append]
  go_upto_region 0 with fail
  go_quiet ((go_at_call 46; exact Calls.quiet_of_same (hq _)))
  go_wp2_with fail
  (try simp only [Exit.inBlock, Exit.then])
  exact set_no (HBS.out _) HNF.out Try.func76 (by first | exact .inl rfl | exact .inr rfl)
theorem rankN_lt {X : Web} {d : List Int} (hf : Fix X d) {u : Nat} (h : 0 ≤ dAt d u) : rankN d u < X.m := by
  have hu : u < d.length := dAt_in h
  have hn : u ∉ (List.range d.length).filter (rankB d u) := fun e => ahead.irr (rankB_iff.1 (List.mem_filter.1 e).2).2
  have := nodupN_le (u :: (List.range d.length).filter (rankB d u)) (List.range d.length) (List.nodup_cons.2 ⟨hn, List.nodup_range.filter _⟩) (fun y hy => (List.mem_cons.1 hy).elim (fun e => by rw [e]; exact List.mem_range.2 hu) (fun e => (List.mem_filter.1 e).1))
  rw [List.length_cons, List.length_range] at this
  unfold rankN
  rw [← hf.len]; omega
theorem found_far {n : Nat} {L : List Ar} {fr wo : Int} {d : List Int} (hn : n ≤ 512) (hf : Fix (netW n L fr wo) d) (tv : Int) : foundB d tv 9223372036854775807 n = decide (0 ≤ tv ∧ 0 ≤ dAt d tv.toNat) := by
  unfold foundB
  apply decide_eq_decide.2
  constructor
  · rintro ⟨h1, h2, _⟩; exact ⟨h1, h2⟩
  · rintro ⟨h1, h2⟩
    have h3 := netW_top hn hf tv.toNat
    have h4 : rankN d tv.toNat < n := rankN_lt hf h2
    exact ⟨h1, h2, by omega, by omega⟩
end Go.Proofs.Ytepnlijdnabllaa
