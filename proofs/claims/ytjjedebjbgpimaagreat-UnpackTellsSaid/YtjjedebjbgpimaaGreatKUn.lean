/- Maps of the call's own, whatever their keys are, as a function of what a key reads as. -/
import Derived.Test.YtjjedebjbgpimaaGreatKRkC
import Derived.Test.YtjjedebjbgpimaaGreatUnP
import Derived.DeepKeys4
import Derived.OwnWalk
import Derived.Test.YtjjedebjbgpimaaGreatKReg
namespace Mile
open Go Go.RowKit
def LMap (P : Program) (K : TypeId) (w : World) (b N : Nat) (f : Lit → Option Value) : Prop :=
  ∃ n D, n ≤ N ∧ w.ownsMap (H := Value) P K heldE b n D ∧ ∀ v l, keyOf P K v = some l → Maps.has D l = (f l).isSome ∧ ∀ z, D.atKey l (.held z) = .held ((f l).getD z)
theorem LMap.lt {P : Program} {K : TypeId} {w : World} {b N : Nat} {f : Lit → Option Value} (h : LMap P K w b N f) : b < w.heap.size := by
  obtain ⟨n, D, _, h, _⟩ := h; exact h.lt
theorem LMap.keep {P : Program} {K : TypeId} {w w' : World} {b N : Nat} {f : Lit → Option Value} {G : Nat → Prop} (h : LMap P K w b N f) (hm : Mod G w w') (hb : ¬ G b) : LMap P K w' b N f := by
  obtain ⟨n, D, hn, h, h2⟩ := h
  have hlt := h.lt
  obtain ⟨es, clock, hbk, F, hs, hD⟩ := h
  exact ⟨n, D, hn, ⟨es, clock, (hm.block b hlt hb).trans hbk, F, hs, hD⟩, h2⟩
theorem LMap.made {P : Program} {K : TypeId} (w : World) : LMap P K (w.alloc (.map #[] 0)) w.heap.size 0 (fun _ => none) :=
  ⟨0, .map [], Nat.le_refl _, World.ownsMap_made _ _ _ _, fun v l _ => ⟨rfl, fun _ => rfl⟩⟩
theorem LMap.look {P : Program} {K E t : TypeId} {w : World} {b N : Nat} {f : Lit → Option Value} (h : LMap P K w b N f) (Kd : Maps.Keyed P K) (ht : P.underlying t = some (.map K E)) {z : Value}
    (hz : (zeroValue E).run P w = .ok z w) {v : Value} {l : Lit} (hl : keyOf P K v = some l) :
    (Instr.lookup t (.map (some b)) v true).run P w = .ok (.tuple #[(f l).getD z, .bool (f l).isSome]) w := by
  obtain ⟨n, D, _, h, h2⟩ := h
  obtain ⟨x, ps, hrun, hv⟩ := h.look_ok Kd ht hz (zd := .held z) (zp := []) rfl hl
  rw [(h2 v l hl).1] at hrun
  rw [(h2 v l hl).2 z] at hv
  unfold heldE at hv
  have hc := (Prod.mk.inj (Option.some.inj hv)).1
  injection hc with hc
  rw [hrun, hc]
theorem LMap.store {P : Program} {K E t : TypeId} {w : World} {b N : Nat} {f : Lit → Option Value} (h : LMap P K w b N f) (Kd : Maps.Keyed P K) (ht : P.underlying t = some (.map K E)) (hN : N < maxLen) {v : Value} {l : Lit} (hl : keyOf P K v = some l) (c : Value) (f' : Lit → Option Value) (k1 : f' l = some c) (k2 : ∀ j, j ≠ l → f' j = f j) :
    ∃ w', (Instr.mapUpdate t (.map (some b)) v c).run P w = .ok () w' ∧ LMap P K w' b (N + 1) f' ∧ Mod (fun i => i = b) w w' := by
  obtain ⟨n, D, hn, h, h2⟩ := h
  obtain ⟨w', hrun, hown, hg⟩ := h.update Kd ht (by omega) hl (val := c) (d := .held c) (ps := []) rfl
  refine ⟨w', hrun, ⟨_, _, Nat.succ_le_succ hn, hown, fun x j hj => ?_⟩, (Mod.ofGrown hg).mono (fun i _ h => (Option.some.inj h).symm)⟩
  by_cases e : j = l
  · subst e
    simp [Maps.has_put_same h.isMap (Kd.key hl), Maps.atKey_put_same h.isMap (Kd.key hl), k1]
  · rw [Maps.has_put_other e, k2 j e]
    refine ⟨(h2 x j hj).1, fun z => ?_⟩
    rw [Maps.atKey_put_other e]
    exact (h2 x j hj).2 z
theorem LMap.drop {P : Program} {K E t : TypeId} {w : World} {b N : Nat} {f : Lit → Option Value} (h : LMap P K w b N f) (Kd : Maps.Keyed P K) (ht : P.underlying t = some (.map K E)) {v : Value} {l : Lit} (hl : keyOf P K v = some l) (ty : TypeId) (f' : Lit → Option Value) (k1 : f' l = none) (k2 : ∀ j, j ≠ l → f' j = f j) :
    ∃ w', (Builtin.delete_ #[t, K] ty #[.map (some b), v]).run P w = .ok (.tuple #[]) w' ∧ LMap P K w' b N f' ∧ Mod (fun i => i = b) w w' := by
  obtain ⟨n, D, hn, h, h2⟩ := h
  obtain ⟨w', hrun, hown, hg⟩ := h.drop Kd ht hl ty
  refine ⟨w', hrun, ⟨_, _, hn, hown, fun x j hj => ?_⟩, (Mod.ofGrown hg.grown).mono (fun i _ h => (Option.some.inj h).symm)⟩
  by_cases e : j = l
  · subst e
    simp [Maps.has_del_same, Maps.atKey_del_same, k1]
  · rw [Maps.has_del_other e, k2 j e]
    refine ⟨(h2 x j hj).1, fun z => ?_⟩
    rw [Maps.atKey_del_other e]
    exact (h2 x j hj).2 z
def pairV (p : Int × Int) : Value := .agg #[.int .i64 p.1, .int .i64 p.2]
def PMap (P : Program) (K : TypeId) (w : World) (b N : Nat) (S : List (Int × Int)) : Prop :=
  ∃ f, LMap P K w b N f ∧ ∀ p l, keyOf P K (pairV p) = some l → f l = if p ∈ S then some (.agg #[]) else none
theorem PMap.lt {P : Program} {K : TypeId} {w : World} {b N : Nat} {S : List (Int × Int)} (h : PMap P K w b N S) : b < w.heap.size := by
  obtain ⟨f, h, _⟩ := h; exact h.lt
theorem PMap.keep {P : Program} {K : TypeId} {w w' : World} {b N : Nat} {S : List (Int × Int)} {G : Nat → Prop} (h : PMap P K w b N S) (hm : Mod G w w') (hb : ¬ G b) : PMap P K w' b N S := by
  obtain ⟨f, h, h2⟩ := h
  exact ⟨f, h.keep hm hb, h2⟩
theorem PMap.made {P : Program} {K : TypeId} (w : World) : PMap P K (w.alloc (.map #[] 0)) w.heap.size 0 [] := ⟨_, LMap.made w, fun p l _ => by simp⟩
theorem PMap.look {P : Program} {K E t : TypeId} {w : World} {b N : Nat} {S : List (Int × Int)} (h : PMap P K w b N S) (Kd : Maps.Keyed P K) (ht : P.underlying t = some (.map K E))
    (hz : (zeroValue E).run P w = .ok (.agg #[]) w) (p : Int × Int) {l : Lit} (hl : keyOf P K (pairV p) = some l) {x : Bool} (hx : decide (p ∈ S) = x) :
    (Instr.lookup t (.map (some b)) (pairV p) true).run P w = .ok (.tuple #[.agg #[], .bool x]) w := by
  obtain ⟨f, h, h2⟩ := h
  rw [h.look Kd ht hz hl, h2 p l hl, ← hx]
  by_cases hp : p ∈ S <;> simp [hp]
theorem PMap.store {P : Program} {K E t : TypeId} {w : World} {b N : Nat} {S : List (Int × Int)} (h : PMap P K w b N S) (Kd : Maps.Keyed P K) (ht : P.underlying t = some (.map K E)) (hN : N < maxLen) (p : Int × Int) {l : Lit} (hl : keyOf P K (pairV p) = some l) :
    ∃ w', (Instr.mapUpdate t (.map (some b)) (pairV p) (.agg #[])).run P w = .ok () w' ∧ PMap P K w' b (N + 1) (p :: S) ∧ Mod (fun i => i = b) w w' := by
  obtain ⟨f, h, h2⟩ := h
  haveI := Classical.propDecidable
  obtain ⟨w', h3, h4, h5⟩ := h.store Kd ht hN hl (.agg #[]) (fun j => if j = l then some (.agg #[]) else f j) (if_pos rfl) (fun j hj => if_neg hj)
  refine ⟨w', h3, ⟨_, h4, fun q j hj => ?_⟩, h5⟩
  by_cases e : j = l
  · subst e
    have := Kd.inj hj hl
    unfold pairV at this
    have hq : q = p := by
      injection this with h6
      have h7 := congrArg Array.toList h6
      simp only [List.cons.injEq, Value.int.injEq, true_and, and_true] at h7
      exact Prod.ext h7.1 h7.2
    subst hq
    simp
  · have hq : q ≠ p := fun x => by subst x; rw [hl] at hj; exact e (Option.some.inj hj).symm
    simp only [if_neg e]
    rw [h2 q j hj]
    simp [hq]
theorem PMap.drop {P : Program} {K E t : TypeId} {w : World} {b N : Nat} {S : List (Int × Int)} (h : PMap P K w b N S) (Kd : Maps.Keyed P K) (ht : P.underlying t = some (.map K E)) (p : Int × Int) {l : Lit} (hl : keyOf P K (pairV p) = some l) (ty : TypeId) :
    ∃ w', (Builtin.delete_ #[t, K] ty #[.map (some b), pairV p]).run P w = .ok (.tuple #[]) w' ∧ PMap P K w' b N (S.filter fun q => decide (q ≠ p)) ∧ Mod (fun i => i = b) w w' := by
  obtain ⟨f, h, h2⟩ := h
  haveI := Classical.propDecidable
  obtain ⟨w', h3, h4, h5⟩ := h.drop Kd ht hl ty (fun j => if j = l then none else f j) (if_pos rfl) (fun j hj => if_neg hj)
  refine ⟨w', h3, ⟨_, h4, fun q j hj => ?_⟩, h5⟩
  by_cases e : j = l
  · subst e
    have := Kd.inj hj hl
    unfold pairV at this
    have hq : q = p := by
      injection this with h6
      have h7 := congrArg Array.toList h6
      simp only [List.cons.injEq, Value.int.injEq, true_and, and_true] at h7
      exact Prod.ext h7.1 h7.2
    subst hq
    simp
  · have hq : q ≠ p := fun x => by subst x; rw [hl] at hj; exact e (Option.some.inj hj).symm
    simp only [if_neg e]
    rw [h2 q j hj]
    simp [hq]
end Mile
namespace Go.Proofs.YtjjedebjbgpimaaGreat
open Go.RowKit Mile
set_option maxRecDepth 100000
theorem pair_keyed : Maps.Keyed Tryz.prog 127 := Maps.Keyed.of_law (deep_law_laid (m := 10) (by kernel_rfl) (by decide) (by decide) (by kernel_rfl) (by kernel_rfl))
theorem pair_lits (d : Nat) (a c : Int) (ha : (Lit.int .i64 a).wf = true) (hc : (Lit.int .i64 c).wf = true) : Tryz.prog.keyLits (d + 2) 127 [.int .i64 a, .int .i64 c] = some [.int .i64 a, .int .i64 c] := by
  have h2 : Tryz.prog.cellsOf 127 = 2 := by kernel_rfl
  have h3 : Tryz.prog.cellsOf 3 = 1 := by kernel_rfl
  have hi : ∀ x : Int, (Lit.int .i64 x).wf = true → Tryz.prog.keyLits (d + 1) 3 [.int .i64 x] = some [.int .i64 x] := fun x hx => by
    unfold Program.keyLits
    rw [Tryz.underlying3]
    simp [hx]
  unfold Program.keyLits
  rw [Tryz.underlying127]
  simp [h2, h3, hi a ha, hi c hc]
theorem pair_key (a c : Int) (ha : (Lit.int .i64 a).wf = true) (hc : (Lit.int .i64 c).wf = true) : ∃ l, keyOf Tryz.prog 127 (pairV (a, c)) = some l := by
  have h1 : Tryz.prog.keyType 127 = true := by kernel_rfl
  have h2 : Tryz.prog.cellsOf 127 = 2 := by kernel_rfl
  have h3 : Value.formed Tryz.prog 127 (pairV (a, c)) = true := by
    unfold pairV Value.formed
    rw [Tryz.underlying127]
    simp [h2]
  have hs : Tryz.prog.types.size ≠ 0 := by decide
  obtain ⟨k, hk⟩ : ∃ k, Tryz.prog.types.size + 1 = k + 2 := ⟨Tryz.prog.types.size - 1, by omega⟩
  refine ⟨.string (keyBytes [.int .i64 a, .int .i64 c]), ?_⟩
  unfold keyOf
  rw [Tryz.underlying127]
  simp only
  rw [h1, h3, hk]
  have h4 : (pairV (a, c)).cells.toList = [.int .i64 a, .int .i64 c] := rfl
  rw [h4, pair_lits k a c ha hc]
  rfl
end Go.Proofs.YtjjedebjbgpimaaGreat
namespace Go.Proofs.YtjjedebjbgpimaaGreat
open Go.RowKit Mile
set_option maxRecDepth 100000
abbrev UIt := (Int × Int) × Bool
def ItV (x : UIt) : List Value := [.int .i64 x.1.1, .int .i64 x.1.2, .bool x.2]
theorem flat_it (l : List UIt) : (l.flatMap ItV).length = l.length * 3 := by
  induction l with
  | nil => rfl
  | cons x l ih => rw [List.flatMap_cons, List.length_append, ih, List.length_cons]; show 3 + _ = _; omega
structure Stk (w : World) (s mb : Nat) (B : Nat → Prop) (N : Nat) (it : List UIt) (S : List (Int × Int)) (a : Option Addr) (c : Nat) : Prop where
  blk : Blk w s 124 [.slice a it.length c, .map (some mb)]
  own : w.ownsRow 0 160 3 (.slice a it.length c) it.length (it.flatMap ItV)
  map : PMap Tryz.prog 127 w mb N S
  low : B s ∧ B mb ∧ s ≠ mb
  row : ∀ k, (Value.slice a it.length c).ownBlock = some k → B k ∧ k ≠ s ∧ k ≠ mb
theorem Stk.keep {w w' : World} {s mb N : Nat} {B : Nat → Prop} {it : List UIt} {S : List (Int × Int)} {a : Option Addr} {c : Nat} {G : Nat → Prop} (h : Stk w s mb B N it S a c) (hm : Mod G w w') (hg : ∀ k, B k → ¬ G k) : Stk w' s mb B N it S a c :=
  ⟨h.blk.keep hm (hg _ h.low.1), Own.keep h.own hm (fun k hk => hg k (h.row k hk).1), h.map.keep hm (hg _ h.low.2.1), h.low, h.row⟩
theorem Stk.pushed {w w' : World} {s mb N : Nat} {B : Nat → Prop} {it : List UIt} {S : List (Int × Int)} {a a3 : Option Addr} {c c3 n : Nat} (h : Stk w s mb B N it S a c) (hn : it.length = n) (hB : ∀ k, w.heap.size ≤ k → B k) {x : UIt}
    (hap : Appended w w' 160 3 (.slice a n c) (.slice a3 (n + 1) c3) (n + 1) (it.flatMap ItV ++ ItV x)) : Stk (w'.setCell ⟨s, 0, none⟩ (.slice a3 (n + 1) c3)) s mb B N (it ++ [x]) S a3 c3 ∧ Mod (fun k => B k) w (w'.setCell ⟨s, 0, none⟩ (.slice a3 (n + 1) c3)) ∧ Mod (fun k => k = s ∨ (Value.slice a n c).ownBlock = some k) w (w'.setCell ⟨s, 0, none⟩ (.slice a3 (n + 1) c3)) := by
  subst hn
  have hlen : (it ++ [x]).length = it.length + 1 := by simp
  have hrow : ∀ k, (Value.slice a3 (it.length + 1) c3).ownBlock = some k → B k ∧ k ≠ s ∧ k ≠ mb := fun k hk => by
    rcases hap.row k hk with h1 | h1
    · exact h.row k h1
    · exact ⟨hB k h1, by have := h.blk.lt; omega, by have := h.map.lt; omega⟩
  have hms : Mod (fun k => k = s) w' (w'.setCell ⟨s, 0, none⟩ (.slice a3 (it.length + 1) c3)) := Mod.setCell _ _ _ rfl
  refine ⟨⟨?_, ?_, (h.map.keep hap.mod (fun e => (h.row mb e).2.2 rfl)).keep hms (fun e => h.low.2.2 e.symm), h.low, by rw [hlen]; exact hrow⟩, hap.mod.trans hms (H := fun k => B k) (fun k _ hk => (h.row k hk).1) (fun k _ hk => by have h1 : k = s := hk; rw [h1]; exact h.low.1), hap.mod.trans hms (H := fun k => k = s ∨ (Value.slice a it.length c).ownBlock = some k) (fun _ _ e => .inr e) (fun _ _ e => .inl e)⟩
  · rw [hlen]
    exact (h.blk.keep hap.mod (fun e => (h.row s e).2.1 rfl)).set 0 _
  · rw [hlen, List.flatMap_append, List.flatMap_cons, List.flatMap_nil, List.append_nil]
    exact Own.keep hap.own hms (fun k hk e => (hrow k hk).2.1 e)
theorem UIt.info : (Tryz.prog.info? 160).map (fun i => (i.zero, i.size, i.bytes)) = some (some (.agg #[.int .i64 0, .int .i64 0, .bool false]), 3, 24) := by kernel_rfl
set_option maxHeartbeats 8000000 in
theorem push_any {w : World} {s mb N : Nat} {B : Nat → Prop} {it : List UIt} {S : List (Int × Int)} {a : Option Addr} {c : Nat} (h : Stk w s mb B N it S a c) (hl : it.length ≤ 1000000000) (hB : ∀ k, w.heap.size ≤ k → B k) (f t : Int) :
    Calls Tryz.prog 102 #[.pointer (some ⟨s, 0, none⟩), .agg #[.int .i64 f, .int .i64 t]] w fun e w' => e = .returned (.tuple #[]) ∧ ∃ a' c', Stk w' s mb B N (it ++ [((f, t), false)]) S a' c' ∧ Mod (fun k => B k) w w' ∧ Mod (fun k => k = s ∨ (Value.slice a it.length c).ownBlock = some k) w w' := by
  obtain ⟨iT, hiT, hzT, hsT, hbT⟩ := info_parts UIt.info
  obtain ⟨n1, hn1⟩ : ∃ y, it.length = y := ⟨_, rfl⟩
  obtain ⟨w1, hw1⟩ : ∃ y, w.alloc (.cells #[.int .i64 f, .int .i64 t] 127) = y := ⟨_, rfl⟩
  obtain ⟨g, hg⟩ : ∃ y, w.heap.size = y := ⟨_, rfl⟩
  have hm1 : Mod (fun _ => False) w w1 := by rw [← hw1]; exact Mod.alloc _ _ _
  have hb1 : Blk w1 g 127 [.int .i64 f, .int .i64 t] := by rw [← hw1, ← hg]; exact Blk.new w 127 [.int .i64 f, .int .i64 t]
  have h1 := h.keep hm1 (fun _ _ e => e)
  have hmx1 : n1 + 1 ≤ maxLen := by unfold maxLen; omega
  have hmx2 : (n1 + 1) * 24 ≤ 140737488355328 := by omega
  have c0 := h1.blk.cell 0 rfl
  have d0 := h1.blk.free 0
  rw [hn1] at c0
  have p0 := hb1.cell 0 rfl
  have p1 := hb1.cell 1 rfl
  have hH := And.intro h1 (And.intro hm1 (And.intro hB hn1))
  have HH := Lib.hid hH
  clear h h1 hm1 hb1 hH hn1
  go_enter Tryz.func102, Tryz.ntmps102
  go_upto_region 1 with fail
  (try rw [hw1])
  (try rw [hg])
  have hs1 := HH.out.1.keep (Mod.alloc (fun _ => False) w1 (.cells #[.int .i64 f, .int .i64 t, .bool false] 160)) (fun _ _ e => e)
  have c0a := hs1.blk.cell 0 rfl
  rw [HH.out.2.2.2] at c0a
  have hs2 := hs1.keep (Mod.drew (fun _ => False) _) (fun _ _ e => e)
  have HS2 := Lib.hid hs2
  clear hs2 hs1 hw1
  go_region_law (refine step_append_any rfl (.tmp 8) (.tmp 11) 122 rfl 160 iT (.agg #[.int .i64 0, .int .i64 0, .bool false]) 3 24 Tryz.underlying122 hiT hzT hsT hbT rfl (by decide) (.slice a n1 c) n1 (it.flatMap ItV) (by simp [Act.eval, Act.put]) (by rw [← HH.out.2.2.2]; exact HS2.out.own) (.slice (some ⟨w1.heap.size, 0, none⟩) 1 1) 1 [.int .i64 f, .int .i64 t, .bool false] (by simp [Act.eval, Act.put]) (by exact Rd.litN 160 3 [.int .i64 f, .int .i64 t, .bool false] (0, 0) _ 1 rfl rfl (by decide)) (by simp [Value.oneCell']) hmx1 hmx2 ?_; intro v' w' hap; obtain ⟨a3, c3, rfl⟩ := hap.form; have hgw := HS2.out.blk.keep hap.mod (fun e => (HS2.out.row s (by rw [HH.out.2.2.2]; exact e)).2.1 rfl); have qw := hgw.cell 0 rfl; have fw := hgw.free 0; have HAP := Lib.hid hap; clear hap hgw)
  all_goals
    go_end0
    obtain ⟨h1, h2, h3⟩ := HS2.out.pushed (x := ((f, t), false)) HH.out.2.2.2 (by intro k hk; have h1 := HH.out.2.1.size; have h2 := HH.out.2.2.1 k; have h3 : (World.drew (w1.alloc (.cells #[.int .i64 f, .int .i64 t, .bool false] 160))).heap.size = w1.heap.size + 1 := heap_size_alloc _ _; exact h2 (by omega)) HAP.out
    exact ⟨rfl, a3, c3, h1, ((HH.out.2.1.of2 ((Mod.alloc (fun _ => False) w1 _).of2 (Mod.drew _ _))).mono (fun _ _ e => e.elim) : Mod (fun k => B k) w _).trans h2 (H := fun k => B k) (fun _ _ e => e) (fun _ _ e => e), (HH.out.2.1.of2 ((Mod.alloc (fun _ => False) w1 _).of2 (Mod.drew _ _))).trans h3 (H := fun k => k = s ∨ (Value.slice a it.length c).ownBlock = some k) (fun _ _ e => e.elim) (fun k _ e => by rw [HH.out.2.2.2]; exact e)⟩
end Go.Proofs.YtjjedebjbgpimaaGreat
namespace Go.Proofs.YtjjedebjbgpimaaGreat
open Go.RowKit Mile
set_option maxRecDepth 100000
def popR : List UIt → List (Int × Int) → Option (Int × Int) × List UIt × List (Int × Int)
  | [], S => (none, [], S)
  | (p, true) :: R, S => popR R (S.filter fun q => decide (q ≠ p))
  | (p, false) :: R, S => (some p, R, S)
theorem flat_at (l : List UIt) (i : Nat) (hi : i < l.length) : (l.flatMap ItV)[i * 3]? = some (.int .i64 l[i].1.1) ∧ (l.flatMap ItV)[i * 3 + 1]? = some (.int .i64 l[i].1.2) ∧ (l.flatMap ItV)[i * 3 + 2]? = some (.bool l[i].2) := by
  induction l generalizing i with
  | nil => cases hi
  | cons x l ih =>
    rw [List.flatMap_cons]
    cases i with
    | zero => exact ⟨rfl, rfl, rfl⟩
    | succ i =>
      have h := ih i (by simpa using hi)
      have e : ∀ k, (ItV x ++ l.flatMap ItV)[(i + 1) * 3 + k]? = (l.flatMap ItV)[i * 3 + k]? := fun k => by
        rw [List.getElem?_append_right (by show 3 ≤ _; omega)]
        congr 1
        show (i + 1) * 3 + k - 3 = _; omega
      exact ⟨(e 0).trans h.1, (e 1).trans h.2.1, (e 2).trans h.2.2⟩
theorem rd3I {w : World} {n c : Nat} {a : Option Addr} {l : List UIt} (h : Rd w 3 (.slice a n c) n (l.flatMap ItV)) (i : Nat) (hn : l.length = n) (hi : i < l.length) :
    ∃ b o, elemA a i 3 = ⟨b, o, none⟩ ∧ w.cell? ⟨b, o, none⟩ = some (.int .i64 l[i].1.1) ∧ w.cell? ⟨b, o + 1, none⟩ = some (.int .i64 l[i].1.2) ∧ w.cell? ⟨b, o + 2, none⟩ = some (.bool l[i].2) := by
  obtain ⟨b, o, hp, _⟩ := h.place (j := i) (by omega)
  obtain ⟨k1, k2, k3⟩ := flat_at l i hi
  exact ⟨b, o, hp, h.elemN hp 0 k1, h.elemN hp 1 k2, h.elemN hp 2 k3⟩
def stkN (s : Nat) (w : World) : Nat := match w.cell? ⟨s, 0, none⟩ with | some (.slice _ n _) => n | _ => 0
theorem Stk.count {w : World} {s mb N : Nat} {B : Nat → Prop} {it : List UIt} {S : List (Int × Int)} {a : Option Addr} {c : Nat} (h : Stk w s mb B N it S a c) : stkN s w = it.length := by
  unfold stkN; rw [h.blk.cell 0 rfl]
theorem Stk.keepN {w w' : World} {s mb N g : Nat} {B : Nat → Prop} {it : List UIt} {S : List (Int × Int)} {a : Option Addr} {c : Nat} (h : Stk w s mb B N it S a c) (hm : Mod (fun k => k = g) w w') (h1 : s ≠ g) (h2 : mb ≠ g) (h3 : ∀ k, (Value.slice a it.length c).ownBlock = some k → k ≠ g) : Stk w' s mb B N it S a c :=
  ⟨h.blk.keep hm h1, Own.keep h.own hm (fun k hk e => h3 k hk e), h.map.keep hm h2, h.low, h.row⟩
theorem Stk.short {w : World} {s mb N n : Nat} {B : Nat → Prop} {it : List UIt} {x : UIt} {S : List (Int × Int)} {a : Option Addr} {c : Nat} (h : Stk w s mb B N (it ++ [x]) S a c) (hn : it.length = n) :
    Stk (w.setCell ⟨s, 0, none⟩ (.slice a n c)) s mb B N it S a c ∧ Mod (fun k => k = s) w (w.setCell ⟨s, 0, none⟩ (.slice a n c)) := by
  subst hn
  have hms : Mod (fun k => k = s) w (w.setCell ⟨s, 0, none⟩ (.slice a it.length c)) := Mod.setCell _ _ _ rfl
  have hlen : (it ++ [x]).length = it.length + 1 := by simp
  have ho := h.own
  obtain ⟨g, rfl⟩ : ∃ g, a = some ⟨g, 0, none⟩ := by
    rcases ho.2 with ⟨h1, h2⟩ | ⟨g, cap, cur, h1, _⟩
    · omega
    · injection h1 with h1; exact ⟨g, h1⟩
  have hown := own_narrowS (m := it.length) ho (by omega)
  have htk : ((it ++ [x]).flatMap ItV).take (it.length * 3) = it.flatMap ItV := by
    rw [List.flatMap_append, ← flat_it it, List.take_left]
  rw [htk] at hown
  have hrow : ∀ k, (Value.slice (some ⟨g, 0, none⟩) it.length c).ownBlock = some k → B k ∧ k ≠ s ∧ k ≠ mb := h.row
  exact ⟨⟨h.blk.set 0 _, Own.keep hown hms (fun k hk e => (hrow k hk).2.1 e), h.map.keep hms (fun e => h.low.2.2 e.symm), h.low, hrow⟩, hms⟩
theorem UPair.info : (Tryz.prog.info? 127).map (fun i => (i.zero, i.size, i.bytes)) = some (some (.agg #[.int .i64 0, .int .i64 0]), 2, 16) := by kernel_rfl
def PopP (s mb : Nat) (B : Nat → Prop) (N : Nat) (R : Option (Int × Int) × List UIt × List (Int × Int)) (w : World) (e : Ending) (w' : World) : Prop :=
  e = .returned (.tuple #[.agg #[.int .i64 (R.1.getD (0, 0)).1, .int .i64 (R.1.getD (0, 0)).2], .bool R.1.isSome]) ∧ (∃ a c, Stk w' s mb B N R.2.1.reverse R.2.2 a c) ∧ Mod (fun k => B k) w w'
set_option maxHeartbeats 8000000 in
theorem pop_any {w : World} {s mb N : Nat} {B : Nat → Prop} {it : List UIt} {S : List (Int × Int)} {a : Option Addr} {c : Nat} (h : Stk w s mb B N it S a c) (hl : it.length ≤ 1000000000) (hB : ∀ k, w.heap.size ≤ k → B k) (hwf : ∀ x ∈ it, (Lit.int .i64 x.1.1).wf = true ∧ (Lit.int .i64 x.1.2).wf = true) :
    Calls Tryz.prog 103 #[.pointer (some ⟨s, 0, none⟩)] w (PopP s mb B N (popR it.reverse S) w) := by
  obtain ⟨iT, hiT, hzT, hsT, hbT⟩ := info_parts UIt.info
  obtain ⟨R0, hR0⟩ : ∃ y, popR it.reverse S = y := ⟨_, rfl⟩
  rw [hR0]
  obtain ⟨w1, hw1⟩ : ∃ y, w.alloc (.cells #[.int .i64 0, .int .i64 0] 127) = y := ⟨_, rfl⟩
  obtain ⟨g, hg⟩ : ∃ y, w.heap.size = y := ⟨_, rfl⟩
  have hm1 : Mod (fun _ => False) w w1 := by rw [← hw1]; exact Mod.alloc _ _ _
  have hb1 : Blk w1 g 127 [.int .i64 0, .int .i64 0] := by rw [← hw1, ← hg]; exact Blk.new w 127 [.int .i64 0, .int .i64 0]
  have h1 := h.keep hm1 (fun _ _ e => e)
  have HGB : Hid (B g) := Lib.hid (hB g (by omega))
  have hsg : s < g := by have := h.blk.lt; omega
  have hmg : mb < g := by have := h.map.lt; omega
  have HH := Lib.hid (And.intro h1 (And.intro hb1 (And.intro hm1 (And.intro hB (And.intro hR0 hwf)))))
  have HRB : Hid (∀ k, (Value.slice a it.length c).ownBlock = some k → k ≠ g) := Lib.hid (fun k hk e => by have := (h.own.lt k hk).2; omega)
  clear h h1 hm1 hb1 hR0 hwf
  go_enter Tryz.func103, Tryz.ntmps103
  go_wp2_with fail
  (try rw [hw1])
  (try rw [hg])
  clear hw1
  go_loopw [4] (fun _ wr => ∃ it' S' a' c', Stk wr s mb B N it' S' a' c' ∧ Blk wr g 127 [.int .i64 0, .int .i64 0] ∧ popR it'.reverse S' = R0 ∧ (∀ x ∈ it', (Lit.int .i64 x.1.1).wf = true ∧ (Lit.int .i64 x.1.2).wf = true) ∧ it'.length ≤ 1000000000 ∧ (∀ k, (Value.slice a' it'.length c').ownBlock = some k → k ≠ g) ∧ Mod (fun k => B k) w wr) (fun _ wr => stkN s wr)
  case atStart => exact ⟨it, S, a, c, HH.out.1, HH.out.2.1, HH.out.2.2.2.2.1, HH.out.2.2.2.2.2, hl, HRB.out, HH.out.2.2.1.mono (fun _ _ e => e.elim)⟩
  case round =>
    clear HH HRB
    obtain ⟨it', S', a', c', hst, hbk, hpr, hwf, hl', hrg, hmr⟩ := hrel
    rcases List.eq_nil_or_concat it' with rfl | ⟨it2, x, rfl⟩
    · have c0 : wr.cell? ⟨s, 0, none⟩ = some (.slice a' 0 c') := hst.blk.cell 0 rfl
      have f0 := hbk.free 0
      have f1 := hbk.free 1
      have b0 := hbk.cell 0 rfl
      have b1 := hbk.cell 1 rfl
      have lg := hbk.lt
      have HST := Lib.hid (And.intro hst (And.intro hbk hpr))
      have HMR := Lib.hid hmr
      have HRG := Lib.hid hrg
      clear hst hbk hpr hwf hrg hmr hl'
      go_wp2_with fail
      have b2 := (HST.out.2.1.set 0 (.int .i64 0)).set 1 (.int .i64 0)
      refine bodyPost_ret (nt_row_tmp rfl _ _ g 127 #[.int .i64 0, .int .i64 0] (0, 0) _ rfl b2 Tryz.underlying127 rfl (by kernel_rfl)) rfl ?_
      have hms : Mod (fun k => k = g) wr ((wr.setCell ⟨g, 0, none⟩ (.int .i64 0)).setCell ⟨g, 1, none⟩ (.int .i64 0)) := (Mod.setCell wr ⟨g, 0, none⟩ (.int .i64 0) rfl : Mod (fun k => k = g) _ _).trans (Mod.setCell _ ⟨g, 1, none⟩ (.int .i64 0) rfl : Mod (fun k => k = g) _ _) (H := fun k => k = g) (fun _ _ e => e) (fun _ _ e => e)
      have hrw : R0 = (none, [], S') := HST.out.2.2.symm
      rw [hrw]
      exact ⟨rfl, ⟨a', c', HST.out.1.keepN hms (by omega) (by omega) (HRG.out)⟩, HMR.out.trans hms (H := fun k => B k) (fun _ _ e => e) (fun k _ hk => by have h1 : k = g := hk; rw [h1]; exact HGB.out)⟩
    · obtain ⟨⟨xf, xt⟩, xe⟩ := x
      simp only [List.concat_eq_append] at hst hpr hwf hl' hrg
      obtain ⟨n, hn⟩ : ∃ y, it2.length = y := ⟨_, rfl⟩
      have hlen : (it2 ++ [((xf, xt), xe)]).length = n + 1 := by rw [← hn]; simp
      have c0 : wr.cell? ⟨s, 0, none⟩ = some (.slice a' (n + 1) c') := by have := hst.blk.cell 0 rfl; rw [hlen] at this; exact this
      have hrd := Rd.ofOwn hst.own
      rw [hlen] at hrd
      obtain ⟨eb, eo, hpe, e0, e1, e2⟩ := rd3I hrd n hlen (by omega)
      have hx : (it2 ++ [((xf, xt), xe)])[n]'(by omega) = ((xf, xt), xe) := by subst hn; simp
      rw [hx] at e0 e1 e2
      have hix := fun wx => run_indexS (P := Tryz.prog) wx 122 160 iT 3 Tryz.underlying122 hiT hsT a' (n + 1) c' n (by omega) (hrd.some_ (by omega))
      rw [hpe] at hix
      have hcap : n + 1 ≤ c' := rd_cap hrd
      have htk := fun wx => run_takeS (P := Tryz.prog) wx 122 160 iT Tryz.underlying122 hiT a' (n + 1) c' n (by omega)
      have z0 : decide ((0 : Int) < ((n + 1 : Nat) : Int)) = true := decide_eq_true (by omega)
      have hsub : IntKind.i64.wrap (((n + 1 : Nat) : Int) - 1) = (n : Int) := by rw [IntWalk.i64_in _ (by omega)]; omega
      have hsub2 : wrap64 (n : Int) = (n : Int) := by unfold wrap64; omega
      obtain ⟨gi, hgi⟩ : ∃ y, wr.heap.size = y := ⟨_, rfl⟩
      obtain ⟨w2, hw2⟩ : ∃ y, wr.alloc (.cells #[.int .i64 xf, .int .i64 xt, .bool xe] 160) = y := ⟨_, rfl⟩
      have hm2 : Mod (fun _ => False) wr w2 := by rw [← hw2]; exact Mod.alloc _ _ _
      have hbi : Blk w2 gi 160 [.int .i64 xf, .int .i64 xt, .bool xe] := by rw [← hw2, ← hgi]; exact Blk.new wr 160 [.int .i64 xf, .int .i64 xt, .bool xe]
      have hst2 := hst.keep hm2 (fun _ _ e => e)
      have c0b : w2.cell? ⟨s, 0, none⟩ = some (.slice a' (n + 1) c') := hm2.cell c0 (fun e => e)
      have d0b := hst2.blk.free 0
      have hsi : s < gi := by have := hst.blk.lt; omega
      obtain ⟨hs3, hms3⟩ := hst2.short hn
      have hbi3 := hbi.keep hms3 (fun e => by omega)
      have hbk3 := (hbk.keep hm2 (fun e => e)).keep hms3 (fun e => by omega)
      have q0 := hbi3.cell 0 rfl
      have q1 := hbi3.cell 1 rfl
      have q2 := hbi3.cell 2 rfl
      have k0 := hbi.cell 0 rfl
      have k1 := hbi.cell 1 rfl
      have k2 := hbi.cell 2 rfl
      have m1 := hs3.blk.cell 1 rfl
      have HS3 := Lib.hid (And.intro hs3 (And.intro hbk3 (And.intro hpr (And.intro hwf (And.intro hl' hrg)))))
      have HM3 := Lib.hid ((hmr.trans hm2 (H := fun k => B k) (fun _ _ e => e) (fun _ _ e => e.elim)).trans hms3 (H := fun k => B k) (fun _ _ e => e) (fun k _ hk => by have h1 : k = s := hk; rw [h1]; exact hs3.low.1))
      clear hst hst2 hs3 hms3 hbi hbi3 hbk hbk3 hpr hwf hl' hrg hmr hrd hpe hx hlen hm2 hcap
      have HCN := Lib.hid (show stkN s wr = n + 1 by unfold stkN; rw [c0])
      go_upto_region 4 with fail
      simp only [hsub2]
      go_upto_region 5 with fail
      obtain ⟨w3, hw3⟩ : ∃ y, w2.setCell ⟨s, 0, none⟩ (.slice a' n c') = y := ⟨_, rfl⟩
      rw [hw3] at HS3 HM3 q0 q1 q2 m1 ⊢
      clear hw3 hix htk c0 c0b d0b e0 e1 e2 k0 k1 k2 z0 hsub hsub2
      cases xe with
      | false =>
        have f0 := HS3.out.2.1.free 0
        have f1 := HS3.out.2.1.free 1
        have b0 := HS3.out.2.1.cell 0 rfl
        have b1 := HS3.out.2.1.cell 1 rfl
        go_wp2_with fail
        have b2 := (HS3.out.2.1.set 0 (.int .i64 xf)).set 1 (.int .i64 xt)
        refine bodyPost_ret (nt_row_tmp rfl _ _ g 127 #[.int .i64 xf, .int .i64 xt] (0, 0) _ rfl b2 Tryz.underlying127 rfl (by kernel_rfl)) rfl ?_
        have hms : Mod (fun k => k = g) w3 ((w3.setCell ⟨g, 0, none⟩ (.int .i64 xf)).setCell ⟨g, 1, none⟩ (.int .i64 xt)) := (Mod.setCell w3 ⟨g, 0, none⟩ (.int .i64 xf) rfl : Mod (fun k => k = g) _ _).trans (Mod.setCell _ ⟨g, 1, none⟩ (.int .i64 xt) rfl : Mod (fun k => k = g) _ _) (H := fun k => k = g) (fun _ _ e => e) (fun _ _ e => e)
        have hrw : R0 = (some (xf, xt), it2.reverse, S') := by rw [← HS3.out.2.2.1, List.reverse_append]; rfl
        rw [hrw]
        have hrv : it2.reverse.reverse = it2 := List.reverse_reverse _
        exact ⟨rfl, ⟨a', c', by show Stk _ s mb B N it2.reverse.reverse S' a' c'; rw [hrv]; exact HS3.out.1.keepN hms (by omega) (by omega) (fun k hk => HS3.out.2.2.2.2.2 k (by cases a' <;> exact hk))⟩, HM3.out.trans hms (H := fun k => B k) (fun _ _ e => e) (fun k _ hk => by have h1 : k = g := hk; rw [h1]; exact HGB.out)⟩
      | true =>
        have hwx := HS3.out.2.2.2.1 ((xf, xt), true) (List.mem_append_right _ (by simp))
        obtain ⟨l, hkl⟩ := pair_key xf xt hwx.1 hwx.2
        have hst4 := HS3.out.1.keep (Mod.drew (fun _ => False) w3) (fun _ _ e => e)
        have hbk4 := HS3.out.2.1.keep (Mod.drew (fun _ => False) w3) (fun e => e)
        obtain ⟨w4, hdel, hpm, hmd⟩ := hst4.map.drop pair_keyed Tryz.underlying121 (xf, xt) hkl 0
        unfold pairV at hdel
        simp only at hdel
        have H4 := Lib.hid (And.intro hst4 (And.intro hbk4 (And.intro hpm hmd)))
        clear hwx hst4 hbk4 hpm hmd
        go_upto_region 7 with fail
        go_still_tail 6, (by kernel_rfl)
        change wpList _ _ _ _ _ (World.drew w3)
        go_wp2_with fail
        have hs4 : Stk w4 s mb B N it2 (S'.filter fun q => decide (q ≠ (xf, xt))) a' c' := ⟨H4.out.1.blk.keep H4.out.2.2.2 H4.out.1.low.2.2, Own.keep H4.out.1.own H4.out.2.2.2 (fun k hk e => (H4.out.1.row k hk).2.2 e), H4.out.2.2.1, H4.out.1.low, H4.out.1.row⟩
        go_roundw
        case rel =>
          refine ⟨it2, _, a', c', hs4, H4.out.2.1.keep H4.out.2.2.2 (fun e => by have h1 : g = mb := e; omega), by rw [← HS3.out.2.2.1, List.reverse_append]; rfl, fun x hx => HS3.out.2.2.2.1 x (List.mem_append_left _ hx), by have := HS3.out.2.2.2.2.1; rw [List.length_append] at this; omega, fun k hk => HS3.out.2.2.2.2.2 k (by cases a' <;> exact hk), ?_⟩
          exact (HM3.out.trans (Mod.drew (fun _ => False) w3) (H := fun k => B k) (fun _ _ e => e) (fun _ _ e => e.elim)).trans H4.out.2.2.2 (H := fun k => B k) (fun _ _ e => e) (fun k _ hk => by have h1 : k = mb := hk; rw [h1]; exact H4.out.1.low.2.1)
        case measure => rw [hs4.count, HCN.out, hn]; omega
end Go.Proofs.YtjjedebjbgpimaaGreat
namespace Go.Proofs.YtjjedebjbgpimaaGreat
open Go.RowKit Mile
set_option maxRecDepth 100000
theorem unit_zero (w : World) : (zeroValue 111).run Tryz.prog w = .ok (.agg #[]) w := by kernel_rfl
theorem Ev.stk {w : World} {s mb N : Nat} {B : Nat → Prop} {it : List UIt} {S : List (Int × Int)} {a : Option Addr} {c : Nat} (h : Stk w s mb B N it S a c) : Ev (fun W => Stk W s mb B N it S a c) w := fun _ m => h.keep m (fun _ _ e => e)
def uf_r1_0_V (s : Nat) (mb : Nat) (f : Int) (t : Int) : List Value :=
  [.pointer (some ⟨s, 0, none⟩),
   .pointer (some ⟨s, 0, none⟩),
   .pointer (some ⟨s, 1, none⟩),
   .map (some mb),
   .agg #[.int .i64 f, .int .i64 t],
   .tuple #[.agg #[], .bool false],
   .tuple #[.agg #[], .bool false],
   .agg #[],
   .bool false,
   undef,
   undef,
   .bool false]
def uf_r1_0_D : List (List Nat) := [[], [0], [1], [2], [], [3, 4], [5], [6], [6], [], [7, 9], [8]]

set_option maxHeartbeats 8000000 in
theorem unfold_any {w : World} {s mb N : Nat} {B : Nat → Prop} {it : List UIt} {S : List (Int × Int)} {a : Option Addr} {c : Nat} (h : Stk w s mb B N it S a c) (hl : it.length ≤ 100000000) (hN : N ≤ 100000000) (hB : ∀ k, w.heap.size ≤ k → B k) (f t m : Int) (hf : (Lit.int .i64 f).wf = true) (ht : (Lit.int .i64 t).wf = true) (hno : (f, t) ∉ S) :
    Calls Tryz.prog 104 #[.pointer (some ⟨s, 0, none⟩), .agg #[.int .i64 f, .int .i64 t], .int .i64 m] w fun e w' => e = .returned (.bool true) ∧ (∃ a' c', Stk w' s mb B (N + 1) (it ++ [((f, t), true)] ++ [((m, t), false)] ++ [((f, m), false)]) ((f, t) :: S) a' c') ∧ Mod (fun k => B k) w w' := by
  obtain ⟨iT, hiT, hzT, hsT, hbT⟩ := info_parts UIt.info
  obtain ⟨n1, hn1⟩ : ∃ y, it.length = y := ⟨_, rfl⟩
  obtain ⟨l, hkl⟩ := pair_key f t hf ht
  obtain ⟨w1, hw1⟩ : ∃ y, w.alloc (.cells #[.int .i64 f, .int .i64 t] 127) = y := ⟨_, rfl⟩
  obtain ⟨g, hg⟩ : ∃ y, w.heap.size = y := ⟨_, rfl⟩
  have hm1 : Mod (fun _ => False) w w1 := by rw [← hw1]; exact Mod.alloc _ _ _
  have hb1 : Blk w1 g 127 [.int .i64 f, .int .i64 t] := by rw [← hw1, ← hg]; exact Blk.new w 127 [.int .i64 f, .int .i64 t]
  have h1 := h.keep hm1 (fun _ _ e => e)
  have hsb := h1.blk
  rw [hn1] at hsb
  have hmg : mb < g := by have := h.map.lt; omega
  have hsg : s < g := by have := h.blk.lt; omega
  have HNG : Hid (∀ k, (Value.slice a it.length c).ownBlock = some k → k ≠ g) := Lib.hid (fun k hk e => by have := (h.own.lt k hk).2; omega)
  have HNO := Lib.hid (And.intro (decide_eq_false hno) (And.intro hB (And.intro hn1 (And.intro hm1 hkl))))
  have HS : Hid (Ev (Mod (fun _ => False) w1) w1) := Lib.hid (Ev.mod w1)
  replace HS := Lib.hid ((Ev.stk h1).and HS.out)
  replace HS := Lib.hid ((Ev.blk hsb).and HS.out)
  replace HS := Lib.hid ((Ev.blk hb1).and HS.out)
  clear h h1 hm1 hb1 hsb hn1 hno hkl
  go_enter Tryz.func104, Tryz.ntmps104
  go_upto_region 1 with fail
  (try rw [hw1])
  (try rw [hg])
  clear hw1
  have hbs := (HS.out.now).2.1
  have qs_0 := hbs.cell 0 rfl
  have qs_1 := hbs.cell 1 rfl
  have ls := hbs.lt
  clear hbs
  have hbg := (HS.out.now).1
  have qg_0 := hbg.cell 0 rfl
  have qg_1 := hbg.cell 1 rfl
  have lg := hbg.lt
  clear hbg
  clear qs_0 qs_1 ls qg_0 qg_1 lg
  obtain ⟨B0, hB0⟩ : ∃ n, w1.heap.size = n := ⟨_, rfl⟩
  have HB0 := Lib.hid hB0
  clear hB0
  have HSd := Lib.hid HS.out.drew
  refine wp_region_box (act := ?actuf_r1_0) B0 111 [] [] 9 10 (uf_r1_0_V s mb f t) (fun i => uf_r1_0_D.getD i []) (by decide) (by kernel_rfl) (by kernel_rfl) (by kernel_rfl) (by kernel_rfl) ?hactuf_r1_0 ?_ ?_
  case hactuf_r1_0 => intro vs; simp only [putAll, Nat.zero_add, Nat.reduceAdd, Act.put, List.setIfInBounds_toArray, List.set_cons_succ, List.set_cons_zero]; exact rfl
  · refine opsOkV_cons ?_ ?_
    · intro K vs W hR hD hK
      clear hD
      try dsimp only at hK ⊢
      simp only [Act.put, List.setIfInBounds_toArray, List.set_cons_succ, List.set_cons_zero] at hK
      go_wp2
      exact hK _ _ (boxF_of (by decide) (by decide) rfl) (BoxR.refl _ _ _ _ _)
    refine opsOkV_cons ?_ ?_
    · intro K vs W hR hD hK
      have dq0 : vs 0 = .pointer (some ⟨s, 0, none⟩) := boxF_val (by decide) (by decide) (hD 0 (by decide))
      clear hD
      try dsimp only at hK ⊢
      simp only [Act.put, List.setIfInBounds_toArray, List.set_cons_succ, List.set_cons_zero] at hK
      generalize vs 0 = vq0 at hK dq0 ⊢
      subst vq0
      go_wp2
      exact hK _ _ (boxF_of (by decide) (by decide) rfl) (BoxR.refl _ _ _ _ _)
    refine opsOkV_cons ?_ ?_
    · intro K vs W hR hD hK
      have dq1 : vs 1 = .pointer (some ⟨s, 0, none⟩) := boxF_val (by decide) (by decide) (hD 1 (by decide))
      clear hD
      try dsimp only at hK ⊢
      simp only [Act.put, List.setIfInBounds_toArray, List.set_cons_succ, List.set_cons_zero] at hK
      generalize vs 1 = vq1 at hK dq1 ⊢
      subst vq1
      go_wp2
      exact hK _ _ (boxF_of (by decide) (by decide) rfl) (BoxR.refl _ _ _ _ _)
    refine opsOkV_cons ?_ ?_
    · intro K vs W hR hD hK
      have dq2 : vs 2 = .pointer (some ⟨s, 1, none⟩) := boxF_val (by decide) (by decide) (hD 2 (by decide))
      clear hD
      try dsimp only at hK ⊢
      simp only [Act.put, List.setIfInBounds_toArray, List.set_cons_succ, List.set_cons_zero] at hK
      generalize vs 2 = vq2 at hK dq2 ⊢
      subst vq2
      have q0 := ((HSd.out.at ((hR.mod.mono (fun k hk e => by have h := HB0.out; simp at hk; omega)))).2.1).cell 1 rfl
      go_wp2
      exact hK _ _ (boxF_of (by decide) (by decide) rfl) (BoxR.refl _ _ _ _ _)
    refine opsOkV_cons ?_ ?_
    · intro K vs W hR hD hK
      clear hD
      try dsimp only at hK ⊢
      simp only [Act.put, List.setIfInBounds_toArray, List.set_cons_succ, List.set_cons_zero] at hK
      have hbg := (HSd.out.at ((hR.mod.mono (fun k hk e => by have h := HB0.out; simp at hk; omega)))).1
      have q0 := hbg.cell 0 rfl
      have q1 := hbg.cell 1 rfl
      go_wp2
      exact hK _ _ (boxF_of (by decide) (by decide) rfl) (BoxR.refl _ _ _ _ _)
    refine opsOkV_cons ?_ ?_
    · intro K vs W hR hD hK
      have dq3 : vs 3 = .map (some mb) := boxF_val (by decide) (by decide) (hD 3 (by decide))
      have dq4 : vs 4 = .agg #[.int .i64 f, .int .i64 t] := boxF_val (by decide) (by decide) (hD 4 (by decide))
      clear hD
      try dsimp only at hK ⊢
      simp only [Act.put, List.setIfInBounds_toArray, List.set_cons_succ, List.set_cons_zero] at hK
      generalize vs 3 = vq3 at hK dq3 ⊢
      subst vq3
      generalize vs 4 = vq4 at hK dq4 ⊢
      subst vq4
      have hlk := ((HSd.out.at ((hR.mod.mono (fun k hk e => by have h := HB0.out; simp at hk; omega)))).2.2.1).map.look pair_keyed Tryz.underlying121 (unit_zero W) (f, t) HNO.out.2.2.2.2 (x := false) HNO.out.1
      unfold pairV at hlk
      simp only at hlk
      go_wp2
      exact hK _ _ (boxF_of (by decide) (by decide) rfl) (BoxR.refl _ _ _ _ _)
    refine opsOkV_cons ?_ ?_
    · intro K vs W hR hD hK
      have dq5 : vs 5 = .tuple #[.agg #[], .bool false] := boxF_val (by decide) (by decide) (hD 5 (by decide))
      clear hD
      try dsimp only at hK ⊢
      simp only [Act.put, List.setIfInBounds_toArray, List.set_cons_succ, List.set_cons_zero] at hK
      generalize vs 5 = vq5 at hK dq5 ⊢
      subst vq5
      go_wp2
      exact hK _ _ (boxF_of (by decide) (by decide) rfl) (BoxR.refl _ _ _ _ _)
    refine opsOkV_cons ?_ ?_
    · intro K vs W hR hD hK
      have dq6 : vs 6 = .tuple #[.agg #[], .bool false] := boxF_val (by decide) (by decide) (hD 6 (by decide))
      clear hD
      try dsimp only at hK ⊢
      simp only [Act.put, List.setIfInBounds_toArray, List.set_cons_succ, List.set_cons_zero] at hK
      generalize vs 6 = vq6 at hK dq6 ⊢
      subst vq6
      go_wp2
      exact hK _ _ (boxF_of (by decide) (by decide) rfl) (BoxR.refl _ _ _ _ _)
    refine opsOkV_cons ?_ ?_
    · intro K vs W hR hD hK
      have dq6 : vs 6 = .tuple #[.agg #[], .bool false] := boxF_val (by decide) (by decide) (hD 6 (by decide))
      clear hD
      try dsimp only at hK ⊢
      simp only [Act.put, List.setIfInBounds_toArray, List.set_cons_succ, List.set_cons_zero] at hK
      generalize vs 6 = vq6 at hK dq6 ⊢
      subst vq6
      go_wp2
      exact hK _ _ (boxF_of (by decide) (by decide) rfl) (BoxR.refl _ _ _ _ _)
    refine opsOkV_cons ?_ ?_
    · intro K vs W hR hD hK
      clear hD
      try dsimp only at hK ⊢
      simp only [Act.put, List.setIfInBounds_toArray, List.set_cons_succ, List.set_cons_zero] at hK
      have hz : B0 ≤ W.heap.size := by have h := HB0.out; have h2 := hR.mod.size; simp at h2; omega
      go_wp2
      exact hK _ _ (boxF_of_var hz (Blk.new W 111 [])) (BoxR.of (Mod.alloc _ _ _))
    refine opsOkV_cons ?_ ?_
    · intro K vs W hR hD hK
      obtain ⟨bb, hvb, hB, hbl⟩ := boxF_var (hD 9 (by decide))
      have dq7 : vs 7 = .agg #[] := boxF_val (by decide) (by decide) (hD 7 (by decide))
      clear hD
      try dsimp only at hK ⊢
      simp only [Act.put, List.setIfInBounds_toArray, List.set_cons_succ, List.set_cons_zero] at hK
      generalize vs 7 = vq7 at hK dq7 ⊢
      subst vq7
      rw [hvb] at hK ⊢
      rcases hbl with hbl | hbl
      all_goals
        go_wp2
        exact hK undef _ (boxF_of_fill (by decide) hvb hB hbl) (BoxR.fill hB (Mod.refl _ _) hbl)
    refine opsOkV_cons ?_ ?_
    · intro K vs W hR hD hK
      have dq8 : vs 8 = .bool false := boxF_val (by decide) (by decide) (hD 8 (by decide))
      clear hD
      try dsimp only at hK ⊢
      simp only [Act.put, List.setIfInBounds_toArray, List.set_cons_succ, List.set_cons_zero] at hK
      generalize vs 8 = vq8 at hK dq8 ⊢
      subst vq8
      go_wp2
      exact hK _ _ (boxF_of (by decide) (by decide) rfl) (BoxR.refl _ _ _ _ _)
    exact opsOkV_nil
  · intro vs wq1 hR hF
    obtain ⟨ub, hvb, _, hbl⟩ := boxF_fill (by decide) (hF 10 (by decide))
    have dq11 : vs 11 = .bool false := boxF_val (by decide) (by decide) (hF 11 (by decide))
    clear hF
    try dsimp only
    rw [hvb]
    generalize vs 11 = vq11 at dq11 ⊢
    subst dq11
    replace HS := Lib.hid (HSd.out.step (hR.mod.mono (fun k hk e => by have h := HB0.out; simp at hk; omega)))
    clear HSd hR hvb
    replace HS := Lib.hid ((Ev.blk hbl).and HS.out)
    clear hbl
    have hbs := (HS.out.now).2.2.1
    have qs_0 := hbs.cell 0 rfl
    have qs_1 := hbs.cell 1 rfl
    have ls := hbs.lt
    clear hbs
    have hbg := (HS.out.now).2.1
    have qg_0 := hbg.cell 0 rfl
    have qg_1 := hbg.cell 1 rfl
    have lg := hbg.lt
    clear hbg
    have hbub := (HS.out.now).1
    have lub := hbub.lt
    clear hbub
    go_wp2_with fail
    have hst4 := ((HS.out.now).2.2.2.1).keep (Mod.drew (fun _ => False) wq1) (fun _ _ e => e)
    have hgb4 := ((HS.out.now).2.1).keep (Mod.drew (fun _ => False) wq1) (fun e => e)
    have hmo := HNO.out.2.2.2.1.of2 (((HS.out.now).2.2.2.2).of2 (Mod.drew (fun _ => False) wq1))
    obtain ⟨w4, hup, hpm, hmd⟩ := hst4.map.store pair_keyed Tryz.underlying121 (by unfold maxLen; omega) (f, t) HNO.out.2.2.2.2
    unfold pairV at hup
    simp only at hup
    have hs4 : Stk w4 s mb B (N + 1) it ((f, t) :: S) a c := ⟨hst4.blk.keep hmd hst4.low.2.2, Own.keep hst4.own hmd (fun k hk e => (hst4.row k hk).2.2 e), hpm, hst4.low, hst4.row⟩
    have hb4 := hgb4.keep hmd (fun e => by have h1 : g = mb := e; omega)
    have hM4 : Mod (fun k => B k) w w4 := hmo.trans hmd (fun _ _ e => e.elim) (fun k _ hk => by have h1 : k = mb := hk; rw [h1]; exact hst4.low.2.1)
    have hs5 := hs4.keep (Mod.alloc (fun _ => False) w4 (.cells #[.int .i64 f, .int .i64 t, .bool true] 160)) (fun _ _ e => e)
    have hb5 := hb4.keep (Mod.alloc (fun _ => False) w4 (.cells #[.int .i64 f, .int .i64 t, .bool true] 160)) (fun e => e)
    have c0 := hs4.blk.cell 0 rfl
    have c0a := hs5.blk.cell 0 rfl
    rw [HNO.out.2.2.1] at c0 c0a
    have p0 := hb4.cell 0 rfl
    have p1 := hb4.cell 1 rfl
    have hmx1 : n1 + 1 ≤ maxLen := by have := HNO.out.2.2.1; unfold maxLen; omega
    have hmx2 : (n1 + 1) * 24 ≤ 140737488355328 := by have := HNO.out.2.2.1; omega
    have HS5 := Lib.hid (And.intro (hs5.keep (Mod.drew (fun _ => False) _) (fun _ _ e => e)) (And.intro (hb5.keep (Mod.drew (fun _ => False) _) (fun e => e)) (And.intro (hM4.trans ((Mod.alloc (fun _ => False) w4 (.cells #[.int .i64 f, .int .i64 t, .bool true] 160)).of2 (Mod.drew (fun _ => False) _)) (H := fun k => B k) (fun _ _ e => e) (fun _ _ e => e.elim)) hmo)))
    clear hst4 hgb4 hmo hpm hmd hs4 hb4 hM4 hs5 hb5
    go_still_tail 6, (by kernel_rfl)
    change wpList _ _ _ _ _ (World.drew wq1)
    go_upto_region 5 with fail
    clear qs_0 qs_1 ls qg_0 qg_1 lg lub
    go_region_law (refine step_append_any rfl (.tmp 29) (.tmp 32) 122 rfl 160 iT (.agg #[.int .i64 0, .int .i64 0, .bool false]) 3 24 Tryz.underlying122 hiT hzT hsT hbT rfl (by decide) (.slice a n1 c) n1 (it.flatMap ItV) (by simp [Act.eval, Act.put]) (by rw [← HNO.out.2.2.1]; exact HS5.out.1.own) (.slice (some ⟨w4.heap.size, 0, none⟩) 1 1) 1 [.int .i64 f, .int .i64 t, .bool true] (by simp [Act.eval, Act.put]) (by exact Rd.litN 160 3 [.int .i64 f, .int .i64 t, .bool true] (0, 0) _ 1 rfl rfl (by decide)) (by simp [Value.oneCell']) hmx1 hmx2 ?_; intro v' w' hap; obtain ⟨a3, c3, rfl⟩ := hap.form; have hgw := HS5.out.1.blk.keep hap.mod (fun e => (HS5.out.1.row s (by rw [HNO.out.2.2.1]; exact e)).2.1 rfl); have qw := hgw.cell 0 rfl; have fw := hgw.free 0; have HAP := Lib.hid hap; clear hap hgw)
    all_goals
      have hhs : ∀ k, (World.heap (World.drew (w4.alloc (.cells #[.int .i64 f, .int .i64 t, .bool true] 160)))).size ≤ k → B k := fun k hk => HNO.out.2.1 k (by have h1 := HS5.out.2.2.1.size; omega)
      obtain ⟨h6, hm6, _⟩ := HS5.out.1.pushed (x := ((f, t), true)) HNO.out.2.2.1 hhs HAP.out
      clear hhs
      have hb6 : Blk _ g 127 [.int .i64 f, .int .i64 t] := (HS5.out.2.1.keep HAP.out.mod (fun e => HNG.out g (by rw [HNO.out.2.2.1]; exact e) rfl)).keep (Mod.setCell w' ⟨s, 0, none⟩ (.slice a3 (n1 + 1) c3) rfl : Mod (fun k => k = s) _ _) (fun e => by have h1 : g = s := e; omega)
      have hM6 := HS5.out.2.2.1.trans hm6 (H := fun k => B k) (fun _ _ e => e) (fun _ _ e => e)
      obtain ⟨w6, hw6⟩ : ∃ y, w'.setCell ⟨s, 0, none⟩ (.slice a3 (n1 + 1) c3) = y := ⟨_, rfl⟩
      rw [hw6] at h6 hb6 hM6 ⊢
      clear hw6 hm6 qw fw
      have p0 := hb6.cell 0 rfl
      have p1 := hb6.cell 1 rfl
      have H6 := Lib.hid (And.intro h6 (And.intro hb6 hM6))
      clear h6 hb6 hM6
      have hng : ∀ k, (Value.slice a3 (it ++ [((f, t), true)]).length c3).ownBlock = some k → k ≠ g := fun k hk e => by
        have hk2 : (Value.slice a3 (n1 + 1) c3).ownBlock = some k := by cases a3 <;> exact hk
        rcases HAP.out.row k hk2 with h | h
        · exact HNG.out k (by rw [HNO.out.2.2.1]; exact h) e
        · have h1 := HS5.out.2.1.lt; omega
      have HNG6 := Lib.hid hng
      clear hng
      go_wp2_with fail
      refine (push_any H6.out.1 (by rw [List.length_append]; simp; omega) (fun k hk => HNO.out.2.1 k (by have h2 := H6.out.2.2.size; omega)) m t).mono ?_
      rintro e w7 ⟨rfl, a7, c7, h7, hM7, hF7⟩
      have hb7 := H6.out.2.1.keep hF7 (fun e => e.elim (fun e => by omega) (fun e => HNG6.out g e rfl))
      have q0 := hb7.cell 0 rfl
      have q1 := hb7.cell 1 rfl
      have H7 := Lib.hid (And.intro h7 hM7)
      clear h7 hM7 hF7 hb7 p0 p1
      go_wp2_with fail
      refine (push_any H7.out.1 (by rw [List.length_append, List.length_append]; simp; omega) (fun k hk => HNO.out.2.1 k (by have h2 := H6.out.2.2.size; have h4 := H7.out.2.size; omega)) f m).mono ?_
      rintro e w8 ⟨rfl, a8, c8, h8, hM8, _⟩
      have H8 := Lib.hid (And.intro h8 hM8)
      clear h8 hM8
      go_wp2_with fail
      go_ret
      exact ⟨rfl, ⟨a8, c8, H8.out.1⟩, (H6.out.2.2.trans H7.out.2 (H := fun k => B k) (fun _ _ e => e) (fun _ _ e => e)).trans H8.out.2 (H := fun k => B k) (fun _ _ e => e) (fun _ _ e => e)⟩
end Go.Proofs.YtjjedebjbgpimaaGreat
namespace Go.Proofs.YtjjedebjbgpimaaGreat
open Go.RowKit Mile
set_option maxRecDepth 100000
theorem isPlain_any (w : World) (y : Ar) : Calls Tryz.prog 71 #[.agg #[.int .i64 y.f, .int .i64 y.t, .int .i64 y.w, .int .i64 y.m]] w fun e w' => e = .returned (.bool (decide (y.m < 0))) ∧ Mod (fun _ => False) w w' := by
  obtain ⟨yf, yt, yw, ym⟩ := y
  obtain ⟨w1, hw1⟩ : ∃ z, w.alloc (.cells #[.int .i64 yf, .int .i64 yt, .int .i64 yw, .int .i64 ym] 50) = z := ⟨_, rfl⟩
  obtain ⟨g, hg⟩ : ∃ z, w.heap.size = z := ⟨_, rfl⟩
  have hm1 : Mod (fun _ => False) w w1 := by rw [← hw1]; exact Mod.alloc _ _ _
  have hb1 : Blk w1 g 50 [.int .i64 yf, .int .i64 yt, .int .i64 yw, .int .i64 ym] := by rw [← hw1, ← hg]; exact Blk.new w 50 _
  have c3 := hb1.cell 3 rfl
  have HM := Lib.hid hm1
  clear hb1 hm1
  go_enter Tryz.func71, Tryz.ntmps71
  go_upto_region 1 with fail
  (try rw [hw1])
  (try rw [hg])
  go_wp2_with fail
  go_ret
  exact ⟨rfl, HM.out⟩
def tailsU (T : List Ar) (k : Nat) (R : List UIt) : List Int := R.flatMap fun x => if x.2 then [] else ((unL T k x.1.1 x.1.2).getD []).drop 1
theorem tailsU_end (T : List Ar) (k : Nat) (p : Int × Int) (R : List UIt) : tailsU T k ((p, true) :: R) = tailsU T k R := by unfold tailsU; rw [List.flatMap_cons, if_pos rfl, List.nil_append]
theorem tailsU_arc (T : List Ar) (k : Nat) (p : Int × Int) (R : List UIt) : tailsU T k ((p, false) :: R) = ((unL T k p.1 p.2).getD []).drop 1 ++ tailsU T k R := by unfold tailsU; rw [List.flatMap_cons, if_neg (by simp)]
theorem tailsU_pop (T : List Ar) (k : Nat) : ∀ (R : List UIt) (S : List (Int × Int)), tailsU T k R = (match (popR R S).1 with | none => [] | some p => ((unL T k p.1 p.2).getD []).drop 1) ++ tailsU T k (popR R S).2.1 := by
  intro R
  induction R with
  | nil => intro S; rfl
  | cons x R ih =>
    intro S
    obtain ⟨p, e⟩ := x
    cases e with
    | true => rw [tailsU_end]; exact ih _
    | false => rw [tailsU_arc]; rfl
end Go.Proofs.YtjjedebjbgpimaaGreat
namespace Go.Proofs.YtjjedebjbgpimaaGreat
open Go.RowKit Mile
set_option maxRecDepth 100000
def depP (T : List Ar) (D : Ar → Nat) (p : Int × Int) : Nat := match findN T p.1 p.2 with | some a => D a | none => 0
def NstU (T : List Ar) (D : Ar → Nat) (R : List UIt) : Prop := R.Pairwise fun x y => y.2 = true → depP T D x.1 < depP T D y.1
def OpenU (R : List UIt) (S : List (Int × Int)) : Prop := ∀ q, q ∈ S ↔ (q, true) ∈ R
theorem popR_nst {T : List Ar} {D : Ar → Nat} : ∀ (R : List UIt) (S : List (Int × Int)), NstU T D R → OpenU R S → NstU T D (popR R S).2.1 ∧ OpenU (popR R S).2.1 (popR R S).2.2 ∧ (∀ x ∈ (popR R S).2.1, x ∈ R) ∧ (∀ p, (popR R S).1 = some p → (p, false) ∈ R ∧ ∀ y ∈ (popR R S).2.1, y.2 = true → depP T D p < depP T D y.1) ∧ ((popR R S).1 = none → (popR R S).2.1 = []) := by
  intro R
  induction R with
  | nil => intro S h1 h2; exact ⟨h1, h2, fun x hx => hx, fun p hp => (by cases hp), fun _ => rfl⟩
  | cons x R ih =>
    intro S h1 h2
    obtain ⟨p, e⟩ := x
    unfold NstU at h1
    rw [List.pairwise_cons] at h1
    cases e with
    | true =>
      obtain ⟨g1, g2, g3, g4, g5⟩ := ih (S.filter fun q => decide (q ≠ p)) h1.2 (fun q => by
        rw [List.mem_filter, decide_eq_true_eq, h2 q]
        constructor
        · rintro ⟨h3, h4⟩
          rcases List.mem_cons.1 h3 with h3 | h3
          · exact absurd (Prod.mk.inj h3).1 h4
          · exact h3
        · intro h3
          refine ⟨List.mem_cons_of_mem _ h3, fun h4 => ?_⟩
          subst h4
          exact Nat.lt_irrefl _ (h1.1 _ h3 rfl))
      exact ⟨g1, g2, fun x hx => List.mem_cons_of_mem _ (g3 x hx), fun q hq => ⟨List.mem_cons_of_mem _ (g4 q hq).1, (g4 q hq).2⟩, g5⟩
    | false =>
      refine ⟨h1.2, fun q => ?_, fun x hx => List.mem_cons_of_mem _ hx, fun q hq => ?_, fun hq => (by cases hq)⟩
      · show q ∈ S ↔ (q, true) ∈ R
        rw [h2 q]
        constructor
        · intro h3
          rcases List.mem_cons.1 h3 with h3 | h3
          · cases (Prod.mk.inj h3).2
          · exact h3
        · exact fun h3 => List.mem_cons_of_mem _ h3
      · cases hq
        exact ⟨List.mem_cons_self, fun y hy => h1.1 y hy⟩
theorem open_no {T : List Ar} {D : Ar → Nat} {R : List UIt} {S : List (Int × Int)} (h : OpenU R S) {p : Int × Int} (hp : ∀ y ∈ R, y.2 = true → depP T D p < depP T D y.1) : p ∉ S := fun hm => Nat.lt_irrefl _ (hp _ ((h p).1 hm) rfl)
theorem unf_nst {T : List Ar} {D : Ar → Nat} {R : List UIt} {S : List (Int × Int)} (h1 : NstU T D R) (h2 : OpenU R S) {p x y : Int × Int} (hp : ∀ y ∈ R, y.2 = true → depP T D p < depP T D y.1) (hx : depP T D x < depP T D p) (hy : depP T D y < depP T D p) :
    NstU T D ((x, false) :: (y, false) :: (p, true) :: R) ∧ OpenU ((x, false) :: (y, false) :: (p, true) :: R) (p :: S) := by
  refine ⟨?_, fun q => ?_⟩
  · unfold NstU
    refine List.pairwise_cons.2 ⟨fun z hz he => ?_, List.pairwise_cons.2 ⟨fun z hz he => ?_, List.pairwise_cons.2 ⟨fun z hz he => hp z hz he, h1⟩⟩⟩
    · rcases List.mem_cons.1 hz with rfl | hz
      · cases he
      · rcases List.mem_cons.1 hz with rfl | hz
        · exact hx
        · have := hp z hz he; show depP T D x < _; omega
    · rcases List.mem_cons.1 hz with rfl | hz
      · exact hy
      · have := hp z hz he; show depP T D y < _; omega
  · rw [List.mem_cons, h2 q]
    constructor
    · rintro (rfl | h)
      · exact List.mem_cons_of_mem _ (List.mem_cons_of_mem _ List.mem_cons_self)
      · exact List.mem_cons_of_mem _ (List.mem_cons_of_mem _ (List.mem_cons_of_mem _ h))
    · intro h
      rcases List.mem_cons.1 h with h | h
      · cases (Prod.mk.inj h).2
      · rcases List.mem_cons.1 h with h | h
        · cases (Prod.mk.inj h).2
        · rcases List.mem_cons.1 h with h | h
          · exact .inl (Prod.mk.inj h).1
          · exact .inr h
def costU (T : List Ar) (D : Ar → Nat) (R : List UIt) : Nat := (R.map fun x => if x.2 then 0 else 2 ^ (depP T D x.1 + 1) - 1).sum
theorem popR_cost {T : List Ar} {D : Ar → Nat} : ∀ (R : List UIt) (S : List (Int × Int)), costU T D R = (match (popR R S).1 with | none => 0 | some p => 2 ^ (depP T D p + 1) - 1) + costU T D (popR R S).2.1 := by
  intro R
  induction R with
  | nil => intro S; rfl
  | cons x R ih =>
    intro S
    obtain ⟨p, e⟩ := x
    cases e with
    | true =>
      have : costU T D ((p, true) :: R) = costU T D R := by unfold costU; simp
      rw [this]; exact ih _
    | false => unfold costU; simp [popR]
theorem unf_cost {T : List Ar} {D : Ar → Nat} {R : List UIt} {p x y : Int × Int} (hx : depP T D x < depP T D p) (hy : depP T D y < depP T D p) : costU T D ((x, false) :: (y, false) :: (p, true) :: R) < 2 ^ (depP T D p + 1) - 1 + costU T D R := by
  have h1 : costU T D ((x, false) :: (y, false) :: (p, true) :: R) = (2 ^ (depP T D x + 1) - 1) + ((2 ^ (depP T D y + 1) - 1) + costU T D R) := by unfold costU; simp
  rw [h1]
  have h2 : 2 ^ (depP T D x + 1) ≤ 2 ^ depP T D p := Nat.pow_le_pow_right (by omega) (by omega)
  have h3 : 2 ^ (depP T D y + 1) ≤ 2 ^ depP T D p := Nat.pow_le_pow_right (by omega) (by omega)
  have h4 : 2 ^ (depP T D p + 1) = 2 ^ depP T D p + 2 ^ depP T D p := by rw [Nat.pow_succ]; omega
  have h5 : 0 < 2 ^ depP T D p := Nat.pow_pos (by omega)
  have h6 : 0 < 2 ^ (depP T D x + 1) := Nat.pow_pos (by omega)
  have h7 : 0 < 2 ^ (depP T D y + 1) := Nat.pow_pos (by omega)
  omega
end Go.Proofs.YtjjedebjbgpimaaGreat
namespace Go.Proofs.YtjjedebjbgpimaaGreat
open Go.RowKit Mile
set_option maxRecDepth 100000
def rowU1 (T : List Ar) (k : Nat) (q : Option (Int × Int)) : List Int := match q with | none => [] | some p => ((unL T k p.1 p.2).getD []).drop 1
def costQ (T : List Ar) (D : Ar → Nat) (q : Option (Int × Int)) : Nat := match q with | none => 0 | some p => 2 ^ (depP T D p + 1) - 1
structure UfI (T : List Ar) (D : Ar → Nat) (k : Nat) (tot way : List Int) (R : List UIt) (S : List (Int × Int)) (q : Option (Int × Int)) (m : Nat) : Prop where
  nst : NstU T D R
  opn : OpenU R S
  arc : ∀ x ∈ R, ∃ a ∈ T, (a.f, a.t) = x.1
  cur : ∀ p, q = some p → (∃ a ∈ T, (a.f, a.t) = p) ∧ ∀ y ∈ R, y.2 = true → depP T D p < depP T D y.1
  sum : way ++ (rowU1 T k q ++ tailsU T k R) = tot
  non : q = none → R = []
  cost : costQ T D q + costU T D R ≤ m
theorem UfI.pop {T : List Ar} {D : Ar → Nat} {k : Nat} {tot way : List Int} {R : List UIt} {S : List (Int × Int)} {m : Nat} (h1 : NstU T D R) (h2 : OpenU R S) (h3 : ∀ x ∈ R, ∃ a ∈ T, (a.f, a.t) = x.1) (h4 : way ++ tailsU T k R = tot) (h5 : costU T D R ≤ m) :
    UfI T D k tot way (popR R S).2.1 (popR R S).2.2 (popR R S).1 m := by
  obtain ⟨g1, g2, g3, g4, g5⟩ := popR_nst R S h1 h2
  refine ⟨g1, g2, fun x hx => h3 x (g3 x hx), fun p hp => ?_, ?_, g5, ?_⟩
  · obtain ⟨g6, g7⟩ := g4 p hp
    exact ⟨h3 _ g6, g7⟩
  · rw [← h4, tailsU_pop T k R S]
    unfold rowU1
    cases (popR R S).1 <;> rfl
  · have := popR_cost (T := T) (D := D) R S
    unfold costQ
    cases h : (popR R S).1 <;> rw [h] at this <;> simp only at this ⊢ <;> omega
theorem popR_len : ∀ (R : List UIt) (S : List (Int × Int)), (popR R S).2.1.length ≤ R.length := by
  intro R
  induction R with
  | nil => intro S; exact Nat.le_refl _
  | cons x R ih =>
    intro S
    obtain ⟨p, e⟩ := x
    cases e with
    | true => have := ih (S.filter fun q => decide (q ≠ p)); show _ ≤ R.length + 1; exact Nat.le_succ_of_le this
    | false => show R.length ≤ R.length + 1; omega
theorem depP_arc {n : Nat} {T : List Ar} {D : Ar → Nat} (hT : NetOk n T) {a : Ar} (ha : a ∈ T) : depP T D (a.f, a.t) = D a := by
  unfold depP; simp only; rw [findN_some hT.sort ha]
section
variable {n N : Nat} {L T : List Ar} {D : Ar → Nat} {tot way : List Int} {R : List UIt} {S : List (Int × Int)} {m : Nat} {p : Int × Int} {a : Ar}
theorem pow_lt1 (d : Nat) : 1 ≤ 2 ^ (d + 1) - 1 := by
  have : 2 ^ 1 ≤ 2 ^ (d + 1) := Nat.pow_le_pow_right (by omega) (by omega)
  omega
theorem UfI.leaf (hT : NetOk n T) (h : UfI T D (N + 1) tot way R S (some (a.f, a.t)) m) (ha : a ∈ T) (hm : a.m < 0) :
    ∃ m', m' < m ∧ UfI T D (N + 1) tot (way ++ [a.t]) (popR R S).2.1 (popR R S).2.2 (popR R S).1 m' := by
  have hc := h.cost
  have h1 := pow_lt1 (depP T D (a.f, a.t))
  unfold costQ at hc
  simp only at hc
  refine ⟨costU T D R, by omega, UfI.pop h.nst h.opn h.arc ?_ (Nat.le_refl _)⟩
  have hs := h.sum
  have hr : rowU1 T (N + 1) (some (a.f, a.t)) = [a.t] := by
    unfold rowU1 unL; simp only; rw [findN_some hT.sort ha]; simp only; rw [if_pos hm]; rfl
  rw [hr] at hs
  rw [List.append_assoc]
  exact hs
theorem UfI.node (hT : NetOk n T) (hL : NetOk n L) (hD : UnOk T D N) (hin : ∀ a ∈ T, a.m < 0 → a ∈ L) (h : UfI T D (N + 1) tot way R S (some (a.f, a.t)) m) (ha : a ∈ T) (hm : ¬ a.m < 0) :
    ∃ m', m' < m ∧ (∀ x ∈ (((a.f, a.m), false) :: ((a.m, a.t), false) :: ((a.f, a.t), true) :: R : List UIt), ∃ a ∈ T, (a.f, a.t) = x.1) ∧ UfI T D (N + 1) tot way (popR (((a.f, a.m), false) :: ((a.m, a.t), false) :: ((a.f, a.t), true) :: R) ((a.f, a.t) :: S)).2.1 (popR (((a.f, a.m), false) :: ((a.m, a.t), false) :: ((a.f, a.t), true) :: R) ((a.f, a.t) :: S)).2.2 (popR (((a.f, a.m), false) :: ((a.m, a.t), false) :: ((a.f, a.t), true) :: R) ((a.f, a.t) :: S)).1 m' := by
  obtain ⟨p, hp, q, hq, g1, g2, g3, g4, g5, g6, g7⟩ := (hD a ha).2 (by omega)
  have hda := (hD a ha).1
  have dp : depP T D (a.f, a.m) = D p := by rw [← g1, ← g2]; exact depP_arc hT hp
  have dq : depP T D (a.m, a.t) = D q := by rw [← g3, ← g4]; exact depP_arc hT hq
  have da := depP_arc (D := D) hT ha
  have hcur := (h.cur _ rfl).2
  obtain ⟨n1, n2⟩ := unf_nst (x := (a.f, a.m)) (y := (a.m, a.t)) h.nst h.opn hcur (by omega) (by omega)
  have hc := h.cost
  unfold costQ at hc
  simp only at hc
  have hlt := unf_cost (R := R) (x := (a.f, a.m)) (y := (a.m, a.t)) (p := (a.f, a.t)) (show depP T D (a.f, a.m) < depP T D (a.f, a.t) by omega) (show depP T D (a.m, a.t) < depP T D (a.f, a.t) by omega)
  have harc : ∀ x ∈ (((a.f, a.m), false) :: ((a.m, a.t), false) :: ((a.f, a.t), true) :: R : List UIt), ∃ a ∈ T, (a.f, a.t) = x.1 := fun x hx => by
    rcases List.mem_cons.1 hx with rfl | hx
    · exact ⟨p, hp, by rw [g1, g2]⟩
    · rcases List.mem_cons.1 hx with rfl | hx
      · exact ⟨q, hq, by rw [g3, g4]⟩
      · rcases List.mem_cons.1 hx with rfl | hx
        · exact ⟨a, ha, rfl⟩
        · exact h.arc x hx
  refine ⟨_, Nat.lt_of_lt_of_le hlt hc, harc, UfI.pop n1 n2 harc ?_ (Nat.le_refl _)⟩
  · obtain ⟨x, x1, x2, x3, x4, x5, x6, x7⟩ := un_row hT hL hD hin (N + 1) p hp (by omega)
    obtain ⟨y, y1, y2, y3, y4, y5, y6, y7⟩ := un_row hT hL hD hin (N + 1) q hq (by omega)
    have e1 := x7 N (by omega)
    have e2 := y7 N (by omega)
    rw [g1, g2] at x1 e1
    rw [g3, g4] at y1 e2
    have hu : unL T (N + 1) a.f a.t = some (x ++ y.drop 1) := by
      unfold unL; rw [findN_some hT.sort ha]; simp only; rw [if_neg hm, e1, e2]
    have hs := h.sum
    have hr : rowU1 T (N + 1) (some (a.f, a.t)) = x.drop 1 ++ y.drop 1 := by
      unfold rowU1; simp only; rw [hu, Option.getD_some, List.drop_append_of_le_length (by omega)]
    rw [hr] at hs
    rw [tailsU_arc, tailsU_arc, tailsU_end, x1, y1, Option.getD_some, Option.getD_some, ← hs, List.append_assoc]
theorem UfI.begin (hT : NetOk n T) (hL : NetOk n L) (hD : UnOk T D N) (hin : ∀ a ∈ T, a.m < 0 → a ∈ L) (ha : a ∈ T) : ∃ r, unL T (N + 1) a.f a.t = some r ∧ UfI T D (N + 1) r [a.f] [] [] (some (a.f, a.t)) (2 ^ (N + 1)) := by
  obtain ⟨r, r1, r2, r3, r4, r5, r6, r7⟩ := un_row hT hL hD hin (N + 1) a ha (by have := (hD a ha).1; omega)
  refine ⟨r, r1, List.Pairwise.nil, fun q => ⟨fun h => (by cases h), fun h => (by cases h)⟩, fun x hx => (by cases hx), fun p hp => ?_, ?_, fun h => (by cases h), ?_⟩
  · cases hp; exact ⟨⟨a, ha, rfl⟩, fun y hy => (by cases hy)⟩
  · unfold rowU1; simp only; rw [r1, Option.getD_some]
    cases r with
    | nil => cases r3
    | cons z r => rw [List.head?_cons] at r3; cases r3; simp [tailsU]
  · unfold costQ; simp only; rw [depP_arc hT ha]
    have h1 : 2 ^ (D a + 1) ≤ 2 ^ (N + 1) := Nat.pow_le_pow_right (by omega) (by have := (hD a ha).1; omega)
    have : costU T D [] = 0 := rfl
    omega
theorem UfI.len (h : UfI T D (N + 1) tot way R S (some p) m) : way.length ≤ tot.length := by
  have := congrArg List.length h.sum
  rw [List.length_append] at this; omega
theorem UfI.done (h : UfI T D (N + 1) tot way R S none m) : way = tot := by
  have := h.sum
  rw [h.non rfl] at this
  simpa [rowU1, tailsU] using this
end
end Go.Proofs.YtjjedebjbgpimaaGreat
