/- Package heap: grow, Len, Key, Push, Pop, by the sorted list that a heap stands for. -/
import Derived.Test.YtheahhcbmknaoaaHeap2
import Derived.Test.YtheahhcbmknaoaaHeapS
import Derived.Deep.DeepCutAuto
namespace Mile
open Go Go.RowKit
/-- One element of two cells. -/
theorem Rd.one2 (w : World) (T : TypeId) (x y : Value) (b : Nat) (hb : b = w.heap.size) : Rd (w.alloc (.cells #[x, y] T)) 2 (.slice (some ⟨b, 0, none⟩) 1 1) 1 [x, y] := by
  subst hb
  refine ⟨rfl, some ⟨w.heap.size, 0, none⟩, 1, rfl, Nat.le_refl _, by decide, fun h => (by cases h), fun ad had => ?_⟩
  cases had
  refine ⟨fun _ => rfl, fun j u hj => ?_⟩
  rw [Addr.add_lit, Nat.zero_add]
  exact (Blk.new w T [x, y]).cell j hj
/-- A shorter piece of a row of one's own. -/
theorem Own.take {w : World} {base : Nat} {e : TypeId} {size gb n c m : Nat} {xs : List Value} (h : w.ownsRow base e size (.slice (some ⟨gb, 0, none⟩) n c) n xs) (hm : m ≤ n) : w.ownsRow base e size (.slice (some ⟨gb, 0, none⟩) m c) m (xs.take (m * size)) := by
  refine ⟨by rw [List.length_take, h.1]; exact Nat.min_eq_left (Nat.mul_le_mul_right _ hm), ?_⟩
  rcases h.2 with ⟨h', _⟩ | ⟨g', cap', cur, h', hb, hg, hnc, hcm, hcs, htake⟩
  · cases h'
  · cases h'
    refine .inr ⟨gb, c, cur, rfl, hb, hg, by omega, hcm, hcs, ?_⟩
    rw [← htake, List.take_take, Nat.min_eq_left (Nat.mul_le_mul_right _ hm)]
end Mile
namespace Go.Proofs.Ytheahhcbmknaoaa
open Go.RowKit Mile

/-- A heap.Heap at block p, that stands for the sorted list S; F: the blocks that are its own. -/
def HpO (w : World) (p : Nat) (S : List It) (F : Nat → Prop) : Prop :=
  ∃ v l mb f, HRaw w p v l mb f F ∧ HOrd l ∧ Full f l ∧ l.Perm S ∧ Srt S ∧ Ids S

theorem HpO.keep {w w' : World} {p : Nat} {S : List It} {F G : Nat → Prop} (h : HpO w p S F) (hm : Mod G w w') (hd : ∀ k, F k → ¬ G k) : HpO w' p S F := by
  obtain ⟨v, l, mb, f, h1, rest⟩ := h
  exact ⟨v, l, mb, f, h1.keep hm hd, rest⟩
theorem HpO.lt {w : World} {p : Nat} {S : List It} {F : Nat → Prop} (h : HpO w p S F) : ∀ k, F k → k < w.heap.size := by
  obtain ⟨v, l, mb, f, h1, rest⟩ := h; exact h1.lt
theorem HpO.self {w : World} {p : Nat} {S : List It} {F : Nat → Prop} (h : HpO w p S F) : F p := by
  obtain ⟨v, l, mb, f, h1, rest⟩ := h; exact h1.self
theorem HpO.ok {w : World} {p : Nat} {S : List It} {F : Nat → Prop} (h : HpO w p S F) : Srt S ∧ Ids S ∧ ∀ x ∈ S, okIt x := by
  obtain ⟨v, l, mb, f, h1, _, _, hp, hs, hi⟩ := h; exact ⟨hs, hi, fun x hx => h1.ok x (hp.mem_iff.2 hx)⟩
theorem HpO.new (w : World) (p : Nat) (hp : p = w.heap.size) : HpO (w.alloc (.cells #[.slice none 0 0, .map none] 28)) p [] (fun k => k = p) := by
  subst hp
  exact ⟨.slice none 0 0, [], none, fun _ => none, ⟨Blk.new w _ [.slice none 0 0, .map none], World.ownsRow_nil _ _ _ _, fun _ => rfl, rfl, by simp [Value.ownBlock], by simp, fun k hk => by subst hk; simp, by simp⟩,
    fun i _ h => by simp at h, fun k j => by simp, List.Perm.refl _, List.Pairwise.nil, List.Pairwise.nil⟩

theorem len_nil (w : World) : Calls Try.prog 14 #[.pointer none] w fun e w' => e = .returned (.int .i64 0) ∧ w = w' := by
  go_enter Try.func14, Try.ntmps14
  go_wp2
  go_ret
  exact ⟨rfl, rfl⟩
theorem len_any (p : Nat) (w : World) (S : List It) (F : Nat → Prop) (h : HpO w p S F) : Calls Try.prog 14 #[.pointer (some ⟨p, 0, none⟩)] w fun e w' => e = .returned (.int .i64 S.length) ∧ w = w' := by
  obtain ⟨v, l, mb, f, h1, _, _, hp, _, _⟩ := h
  rw [← hp.length_eq]
  have c0 := h1.blk.cell 0 rfl
  obtain ⟨a, c, hv⟩ : ∃ a c, v = .slice a l.length c := own_form h1.own
  subst hv
  go_enter Try.func14, Try.ntmps14
  go_wp2
  go_ret
  exact ⟨rfl, rfl⟩

theorem hkey_nil (id : Int) (w : World) : Calls Try.prog 12 #[.pointer none, .int .i64 id] w fun e w' => e = .returned (.tuple #[.int .i64 0, .bool false]) ∧ w = w' := by
  go_enter Try.func12, Try.ntmps12
  go_wp2
  go_ret2
  exact ⟨rfl, rfl⟩

/-- What the map of places tells. -/
theorem look_place {w : World} {mb : Option Nat} {f : Int → Option Int} (h : PlaceOk w mb f) (id : Int) (hid : (Lit.int .i64 id).wf = true) :
    (Instr.lookup 26 (.map mb) (.int .i64 id) true).run Try.prog w = .ok (.tuple #[.int .i64 ((f id).getD 0), .bool (f id).isSome]) w := by
  cases mb with
  | none => rw [h id]; exact look_none Try.underlying26 Try.underlying3 (Hp.zero3 w) id hid
  | some b => exact IMap.look h Try.underlying26 Try.underlying3 Try.underlying3 (Hp.zero3 w) id hid

theorem hkey_any (p : Nat) (w : World) (S : List It) (F : Nat → Prop) (h : HpO w p S F) (id : Int) (hid : (Lit.int .i64 id).wf = true) :
    Calls Try.prog 12 #[.pointer (some ⟨p, 0, none⟩), .int .i64 id] w fun e w' => e = .returned (.tuple #[.int .i64 ((keyS S id).getD 0), .bool (keyS S id).isSome]) ∧ w = w' := by
  obtain ⟨iI, hiI, zI, sI, bI⟩ := info_parts Hp.infoI
  obtain ⟨v, l, mb, f, h1, _, hf, hp, _, hids⟩ := h
  have c0 := h1.blk.cell 0 rfl
  have c1 := h1.blk.cell 1 rfl
  have hlk := look_place h1.place id hid
  rcases full_key hf hids hp id with ⟨e1, e2⟩ | ⟨i, hi, e1, e2, e3⟩
  · rw [e1] at hlk
    simp only [Option.getD_none, Option.isSome_none] at hlk
    rw [e2]
    clear e1 e2
    go_enter Try.func12, Try.ntmps12
    go_wp2
    go_ret2
    exact ⟨rfl, rfl⟩
  · rw [e1] at hlk
    simp only [Option.getD_some, Option.isSome_some] at hlk
    obtain ⟨gb, cap, hv⟩ := h1.slice (by omega)
    subst hv
    obtain ⟨f1, f2⟩ := cell_it h1.own i hi
    rw [e3]
    clear e1 e2 e3
    have hq : (i : Int) < (l.length : Int) := by omega
    go_enter Try.func12, Try.ntmps12
    go_wp2
    go_ret2
    exact ⟨rfl, rfl⟩

/-- Behind an append that is stored into the object. -/
theorem HRaw.grown {w w0 w' : World} {p : Nat} {v v' : Value} {l : List It} {mb : Option Nat} {f : Int → Option Int} {F : Nat → Prop} (h : HRaw w p v l mb f F) (hm : Mod (fun _ => False) w w0)
    (hap : Appended w0 w' 52 2 v v' (l.length + 1) (l.flatMap cellsIt ++ [.int .i64 0, .int .i64 0])) :
    HRaw (w'.setCell ⟨p, 0, none⟩ v') p v' (l ++ [(0, 0)]) mb f (fun k => F k ∨ v'.ownBlock = some k) ∧ Aft w (w'.setCell ⟨p, 0, none⟩ v') F (fun k => F k ∨ v'.ownBlock = some k) := by
  have h0 := h.keep hm (fun _ _ e => e)
  have hm2 := hap.mod
  have hsz : w.heap.size ≤ w'.heap.size := Nat.le_trans hm.size hm2.size
  have hnew : ∀ k, v'.ownBlock = some k → v.ownBlock = some k ∨ w.heap.size ≤ k := fun k hk => (hap.row k hk).imp id (fun e => Nat.le_trans hm.size e)
  have hpv : v'.ownBlock ≠ some p := by
    intro e
    rcases hnew p e with e | e
    · exact (h.row p e).2 rfl
    · have := h.lt p h.self; omega
  have hset : Mod (fun k => k = p) w' (w'.setCell ⟨p, 0, none⟩ v') := Mod.setCell _ _ _ rfl
  have hmall : Mod F w (w'.setCell ⟨p, 0, none⟩ v') := ((hm.mono (fun _ _ e => e.elim) : Mod F w w0).trans hm2 (H := F) (fun _ _ e => e) (fun i _ e => (h.row i e).1)).thenSet _ _ (fun _ => h.self)
  refine ⟨⟨(h0.blk.keep hm2 (fun e => (h.row p e).2 rfl)).set 0 v', ?_, ?_, .inl h.self, fun k hk => ⟨.inr hk, fun e => hpv (by rw [← e]; exact hk)⟩, fun b hb => ?_, ?_, ?_⟩, hmall, fun k hk => hk.elim .inl (fun e => (hnew k e).elim (fun e => .inl (h.row k e).1) .inr)⟩
  · have ho := Own.keep hap.own hset (fun k hk e => hpv (by rw [← e]; exact hk))
    simpa [List.flatMap_append, cellsIt] using ho
  · exact ((h0.place.keep hm2 (fun b hb e => (h.map b hb).2.2 e)).keep hset (fun b hb e => (h.map b hb).2.1 e))
  · have hb' := h.map b hb
    refine ⟨.inl hb'.1, hb'.2.1, fun e => ?_⟩
    rcases hnew b e with e | e
    · exact hb'.2.2 e
    · have := h.lt b hb'.1; omega
  · rintro k (hk | hk)
    · have := h.lt k hk; simp; omega
    · simpa using Own.lt hap.own hk
  · intro x hx
    rw [List.mem_append, List.mem_singleton] at hx
    rcases hx with hx | rfl
    · exact h.ok x hx
    · exact ⟨by decide, by decide⟩

set_option maxHeartbeats 1000000 in
theorem grow_any (p : Nat) (w : World) (v : Value) (l : List It) (mb : Option Nat) (f : Int → Option Int) (F : Nat → Prop) (h : HRaw w p v l mb f F) (hl : l.length ≤ 1000000000) :
    Calls Try.prog 17 #[.pointer (some ⟨p, 0, none⟩)] w fun e w' => e = .returned (.int .i64 l.length) ∧ ∃ v' b F', HRaw w' p v' (l ++ [(0, 0)]) (some b) f F' ∧ Aft w w' F F' := by
  obtain ⟨iI, hiI, zI, sI, bI⟩ := info_parts Hp.infoI
  have c0 := h.blk.cell 0 rfl
  have c1 := h.blk.cell 1 rfl
  have d0 := h.blk.free 0
  have d1 := h.blk.free 1
  have hap1 : l.length + 1 ≤ maxLen := by unfold maxLen; omega
  have hap2 : (l.length + 1) * 16 ≤ 140737488355328 := by omega
  have h1c : ∀ u ∈ [Value.int .i64 0, .int .i64 0], u.oneCell' = true := by simp [Value.oneCell']
  have hne := fun (wx : World) => run_eql_map_nil wx 26 3 3 mb Try.underlying26
  cases mb with
  | some b =>
    go_enter Try.func17, Try.ntmps17
    go_wp2_with (at_builtin; refine wpList_append_any rfl (.tmp 16) (.tmp 18) 25 rfl 52 iI (.agg #[.int .i64 0, .int .i64 0]) 2 16 Try.underlying25 hiI zI sI bI rfl (by decide) _ l.length (l.flatMap cellsIt) rfl (World.ownsRow.alloc h.own _) _ 1 [.int .i64 0, .int .i64 0] rfl (Rd.one2 w 52 _ _ _ rfl) h1c hap1 hap2 ?_; intro v' w' hap; obtain ⟨a3, c3, rfl⟩ := hap.form; have hb1 : Blk w' p 28 [v, .map (some b)] := (h.blk.alloc _).keep hap.mod (fun e => (h.row p e).2 rfl); have c0' := hb1.cell 0 rfl; have d0' := hb1.free 0)
    go_ret
    have hg := h.grown (Mod.alloc (fun _ => False) w _) hap
    exact ⟨by simp, _, b, _, hg.1, hg.2⟩
  | none =>
    have hmm := @run_makeMap Try.prog
    have hba := h.blk.alloc (.map #[] 0)
    have c1a := hba.cell 1 rfl
    have d1a := hba.free 1
    clear hba
    go_enter Try.func17, Try.ntmps17
    go_upto_region 3 with fail
    have hmid : HRaw ((w.alloc (.map #[] 0)).setCell ⟨p, 1, none⟩ (.map (some w.heap.size))) p v l (some w.heap.size) f (fun k => F k ∨ k = w.heap.size) := by
      have h0 := h.keep (Mod.alloc (fun _ => False) w (.map #[] 0)) (fun _ _ e => e)
      have hset : Mod (fun k => k = p) (w.alloc (.map #[] 0)) ((w.alloc (.map #[] 0)).setCell ⟨p, 1, none⟩ (.map (some w.heap.size))) := Mod.setCell _ _ _ rfl
      have hpl := h.lt p h.self
      refine ⟨h0.blk.set 1 _, Own.keep h0.own hset (fun k hk e => (h.row k hk).2 e), ?_, .inl h.self, fun k hk => ⟨.inl (h.row k hk).1, (h.row k hk).2⟩, fun b hb => ?_, ?_, h.ok⟩
      · have hf : f = fun _ => none := funext h.place
        rw [hf]
        exact (IMap.made w).keep hset (fun e => by omega)
      · cases hb
        exact ⟨.inr rfl, by omega, fun e => by have := h.lt _ (h.row _ e).1; omega⟩
      · rintro k (hk | rfl)
        · have := h.lt k hk; simp; omega
        · simp
    have hAft : Aft w ((w.alloc (.map #[] 0)).setCell ⟨p, 1, none⟩ (.map (some w.heap.size))) F (fun k => F k ∨ k = w.heap.size) :=
      ⟨((Mod.refl F w).thenAlloc _).thenSet _ _ (fun _ => h.self), fun k hk => hk.elim .inl (fun e => .inr (by omega))⟩
    obtain ⟨W, hW⟩ : ∃ W, (w.alloc (.map #[] 0)).setCell ⟨p, 1, none⟩ (.map (some w.heap.size)) = W := ⟨_, rfl⟩
    rw [hW] at hmid hAft ⊢
    clear hW c0 c1 d0 d1 c1a d1a
    have c0 := hmid.blk.cell 0 rfl
    have c1 := hmid.blk.cell 1 rfl
    have d0 := hmid.blk.free 0
    go_wp2_with (at_builtin; refine wpList_append_any rfl (.tmp 16) (.tmp 18) 25 rfl 52 iI (.agg #[.int .i64 0, .int .i64 0]) 2 16 Try.underlying25 hiI zI sI bI rfl (by decide) _ l.length (l.flatMap cellsIt) rfl (World.ownsRow.alloc hmid.own _) _ 1 [.int .i64 0, .int .i64 0] rfl (Rd.one2 W 52 _ _ _ rfl) h1c hap1 hap2 ?_; intro v' w' hap; obtain ⟨a3, c3, rfl⟩ := hap.form; have hb1 : Blk w' p 28 [v, .map (some w.heap.size)] := (hmid.blk.alloc _).keep hap.mod (fun e => (hmid.row p e).2 rfl); have c0' := hb1.cell 0 rfl; have d0' := hb1.free 0)
    go_ret
    have hg := hmid.grown (Mod.alloc (fun _ => False) W _) hap
    exact ⟨by simp, _, _, _, hg.1, hAft.trans hg.2⟩
end Go.Proofs.Ytheahhcbmknaoaa
