/- The law HeapSorts, walked. -/
import Derived.Test.YtheahhcbmknaoaaActs4
namespace Mile
open Go Go.RowKit

theorem keyS_ins {S : List It} {id key : Int} (h : ∀ x ∈ S, x.1 ≠ id) (hi : Ids S) (k : Int) : keyS (insS S (id, key)) k = if k = id then some key else keyS S k := by
  have hp := insS_perm S (id, key)
  have hids : Ids (insS S (id, key)) := ids_perm hp.symm (by
    unfold Ids at hi ⊢
    rw [List.map_cons, List.pairwise_cons]
    exact ⟨fun a ha => by obtain ⟨x, hx, rfl⟩ := List.mem_map.1 ha; exact Ne.symm (h x hx), hi⟩)
  by_cases e : k = id
  · rw [if_pos e]
    exact keyS_some hids (hp.mem_iff.2 List.mem_cons_self) e.symm
  · rw [if_neg e]
    cases hk : keyS S k with
    | none =>
      refine keyS_none fun x hx hxk => ?_
      rcases List.mem_cons.1 (hp.mem_iff.1 hx) with hh | hh
      · subst hh; exact e hxk.symm
      · exact keyS_none_inv hk x hh hxk
    | some c =>
      have := keyS_inv hk
      exact keyS_some hids (hp.mem_iff.2 (List.mem_cons_of_mem _ this)) rfl
theorem keyS_drop {S : List It} (hi : Ids S) (id k : Int) : keyS (dropS S id) k = if k = id then none else keyS S k := by
  by_cases e : k = id
  · rw [if_pos e, e]; exact keyS_none fun x hx => (mem_dropS.1 hx).2
  · rw [if_neg e]
    cases hk : keyS S k with
    | none => exact keyS_none fun x hx => keyS_none_inv hk x (mem_dropS.1 hx).1
    | some c => exact keyS_some (ids_drop hi id) (mem_dropS.2 ⟨keyS_inv hk, e⟩) rfl
theorem keyS_push {S : List It} (hi : Ids S) (id key k : Int) : keyS (pushS S id key).2 k = if k = id then (if (pushS S id key).1 then some key else keyS S id) else keyS S k := by
  unfold pushS
  cases hk : keyS S id with
  | none =>
    simp only [if_true]
    exact keyS_ins (keyS_none_inv hk) hi k
  | some c =>
    by_cases hle : c ≤ key
    · simp only [hle, if_true, Bool.false_eq_true, if_false]
      by_cases e : k = id
      · rw [if_pos e, e, hk]
      · rw [if_neg e]
    · simp only [hle, if_false, if_true]
      rw [keyS_ins (fun x hx => (mem_dropS.1 hx).2) (ids_drop hi id), keyS_drop hi]
      by_cases e : k = id
      · rw [if_pos e, if_pos e]
      · rw [if_neg e, if_neg e, if_neg e]
theorem pushS_fst (S : List It) (id key : Int) : (pushS S id key).1 = (match keyS S id with | none => true | some c => decide (key < c)) := by
  unfold pushS
  cases keyS S id with
  | none => rfl
  | some c =>
    by_cases hle : c ≤ key
    · have : decide (key < c) = false := by simpa using hle
      simp [hle, this]
    · have : decide (key < c) = true := by simp; omega
      simp [hle, this]
theorem keyS_cons {y : It} {r : List It} (hi : Ids (y :: r)) : keyS r = fun k => if k = y.1 then none else keyS (y :: r) k := by
  unfold Ids at hi
  rw [List.map_cons, List.pairwise_cons] at hi
  funext k
  by_cases e : k = y.1
  · rw [if_pos e, e]; exact keyS_none fun x hx h => hi.1 x.1 (List.mem_map_of_mem hx) h.symm
  · rw [if_neg e]
    unfold keyS
    rw [List.find?_cons]
    have : (y.1 == k) = false := by rw [beq_eq_false_iff_ne]; exact Ne.symm e
    rw [this]

/-- How many there are: of a map that says what the list does. -/
theorem IMap.len {P : Program} {K E t : TypeId} {w : World} {b : Nat} {S : List It} (h : IMap P K E w b (keyS S)) (hi : Ids S) (hwf : ∀ x ∈ S, (Lit.int .i64 x.1).wf = true) (ht : P.underlying t = some (.map K E)) (hk : P.underlying K = some (.int .i64)) (ty : TypeId) :
    (Builtin.len_ #[t] ty #[.map (some b)]).run P w = .ok (.int .i64 (S.length : Int)) w := by
  obtain ⟨n, D, h, h1, h2⟩ := h
  rw [h.len ht ty]
  have hle : Maps.size D ≤ S.length := by
    have := size_le_of hk h (ks := S.map (·.1)) (fun k hkk => by
      have hw := has_wf hk h hkk
      rw [(h2 k hw).1] at hkk
      obtain ⟨c, hc⟩ := Option.isSome_iff_exists.1 hkk
      exact List.mem_map_of_mem (f := (·.1)) (keyS_inv hc))
    simpa using this
  have hge : S.length ≤ Maps.size D := by
    obtain ⟨es, rfl, hp, hkey⟩ := h.entries (Maps.int_keyed hk)
    rw [Maps.size_eq]
    have := nodup_length (S.map (fun x => Lit.int .i64 x.1)) (es.map (·.1)) (by
      unfold Ids at hi
      rw [List.pairwise_map] at hi ⊢
      exact hi.imp (fun {_ _} hne e => hne (by injection e))) (fun l hl => by
        obtain ⟨x, hx, rfl⟩ := List.mem_map.1 hl
        have hs : keyS S x.1 = some x.2 := keyS_some hi hx rfl
        have := (h2 x.1 (hwf x hx)).1
        rw [hs, Maps.has_eq] at this
        simp only [Option.isSome_some, List.any_eq_true] at this
        obtain ⟨e, he, hek⟩ := this
        have := (WideAt.sameKey_iff (isKey_int x.1)).1 hek
        rw [← this]; exact List.mem_map_of_mem he)
    simpa using this
  have : Maps.size D = S.length := by omega
  rw [this]
end Mile
namespace Go.Proofs.Ytheahhcbmknaoaa
open Go.RowKit Mile

/-- The heap, and the map of the least keys. -/
structure SortSt (w W : World) (p b : Nat) (S : List It) (F : Nat → Prop) : Prop where
  h : HeapSt w W p S F
  m : IMap Try.prog 3 3 W b (keyS S)
  dis : ¬ F b
  low : w.heap.size ≤ b

theorem SortSt.later {w W W' : World} {p b : Nat} {S : List It} {F : Nat → Prop} (h : SortSt w W p b S F) (hm : Mod (fun _ => False) W W') : SortSt w W' p b S F :=
  ⟨h.h.keep hm (fun _ e => e.elim) (fun _ _ e => e), h.m.keep hm (fun e => e), h.dis, h.low⟩
theorem HpO.ids {w : World} {p : Nat} {S : List It} {F : Nat → Prop} (h : HpO w p S F) : Ids S := h.ok.2.1

/-- What each operation of the statement leaves. -/
def sput_F (wr : World) (a : Option Addr) (n c j p bb o : Nat) (x1 x2 : Int) (pS : List It) (F : Nat → Prop) : List (Bool × (Value → World → Prop)) :=
  [(true, IsV (.pointer (some ⟨p, 0, none⟩))),
   (true, IsV (.slice a n c)),
   (true, IsV (.int .i64 j)),
   (true, IsV (.pointer (some ⟨bb, o, none⟩))),
   (true, IsV (.pointer (some ⟨bb, o, none⟩))),
   (true, IsV (.int .i64 x1)),
   (true, IsV (.slice a n c)),
   (true, IsV (.int .i64 j)),
   (true, IsV (.pointer (some ⟨bb, o, none⟩))),
   (true, IsV (.pointer (some ⟨bb, o + 1, none⟩))),
   (true, IsV (.int .i64 x2)),
   (false, fun v W => v = .bool true ∧ ∃ F1, HpO W p pS F1 ∧ Mod F wr W ∧ (∀ k, F1 k → F k ∨ wr.heap.size ≤ k)),
   (true, IsV (.bool false)),
   (true, IsV (.bool true)),
   (true, IsV (.bool true)),
   (true, IsV (undef)),
   (true, IsV (undef)),
   (true, IsV (undef)),
   (true, IsV (undef)),
   (true, IsV (undef)),
   (true, IsV (undef)),
   (true, IsV (undef)),
   (true, IsV (.bool true))]
def sput_D : List (List Nat) := [[], [], [], [1, 2], [3], [4], [], [], [6, 7], [8], [9], [0, 5, 10], [], [12], [13], [14], [14], [14], [14], [14], [14], [14], [14]]
def sput_C : List Nat := [1000, 1000, 1000, 1000, 1000, 1000, 1000, 1000, 1000, 1000, 1000, 1000, 1000, 1000, 1000, 1000, 1000, 1000, 1000, 1000, 1000, 1000, 1000]

def SortSt1 (w W : World) (p b j : Nat) : Prop := ∃ S F, SortSt w W p b S F ∧ S.length ≤ j
/-- The second loop: what is left, and what came last. -/
def SortSt2 (w W : World) (p b n i : Nat) (last key : Int) : Prop := ∃ T F, SortSt w W p b T F ∧ i + T.length = n ∧ (0 < i → ∀ y ∈ T, bef (last, key) y = true)

set_option maxHeartbeats 8000000 in
set_option maxRecDepth 100000 in
theorem sorts_walk (w : World) (a : Option Addr) (n c : Nat) (L : List It) (hn : L.length = n) (hr : Rd w 2 (.slice a n c) n (L.flatMap cellsIt)) (hok : ∀ x ∈ L, okIt x) :
    Calls Try.prog 4 #[.slice a n c] w fun e w' => e = .returned (.bool true) ∧ Mod (fun _ => False) w w' := by
  obtain ⟨i33, hi33, hs33⟩ := Option.map_eq_some_iff.1 HA.info33
  have HN := Lib.hid hn
  clear hn
  by_cases hbig : 150 < n
  · go_enter Try.func4, Try.ntmps4
    go_wp2_with fail
    refine (awake_any _).mono ?_
    rintro e w9 ⟨rfl, hM9⟩
    go_wp2
    go_ret
    exact ⟨rfl, hM9⟩
  have q1 : n ≤ 150 := by omega
  clear hbig
  have hmm := @run_makeMap Try.prog
  go_enter Try.func4, Try.ntmps4
  go_upto_block 0 with fail
  clear hmm
  have hT0 : SortSt w ((w.alloc (.cells #[.slice none 0 0, .map none] 28)).alloc (.map #[] 0)) w.heap.size (w.heap.size + 1) [] (fun k => k = w.heap.size) :=
    ⟨(HeapSt.new (Mod.refl (fun _ => False) w) _ rfl).keep (Mod.alloc (fun _ => False) _ _) (fun _ e => e.elim) (fun _ _ e => e), by
      have := IMap.made (P := Try.prog) (K := 3) (E := 3) (w.alloc (.cells #[.slice none 0 0, .map none] 28))
      have e0 : keyS [] = fun _ => none := rfl
      rw [e0]; simpa using this, fun e => by omega, by omega⟩
  obtain ⟨p, hp⟩ : ∃ p, w.heap.size = p := ⟨_, rfl⟩
  obtain ⟨b, hb⟩ : ∃ b, w.heap.size + 1 = b := ⟨_, rfl⟩
  rw [hb] at hT0 ⊢
  rw [hp] at hT0 ⊢
  have HPP := Lib.hid hp
  have HBB := Lib.hid hb
  clear hp hb
  go_cut [13] (fun _ wx => SortSt1 w wx p b n)
  case first =>
    go_wp2_with fail
    go_loopw [5, 6, 7] (fun i _ _ wr => ∃ (j : Nat), j ≤ n ∧ i = .int .i64 j ∧ SortSt1 w wr p b j) (fun i _ _ _ => n - (intOf i).toNat)
    case atStart => exact ⟨0, by omega, rfl, [], _, hT0, by simp⟩
    case round =>
      clear hT0
      obtain ⟨j, hj, rfl, S, F, hT, hSl⟩ := hrel
      by_cases hlt : j < n
      · have hjl : j < L.length := by rw [HN.out]; exact hlt
        obtain ⟨_, bb, o, hpl, e1, e2⟩ := rd_it hr j hjl
        have hix := fun wx => run_indexS (P := Try.prog) wx 22 33 i33 2 Try.underlying22 hi33 hs33 a n c j hlt (hr.some_ (by omega))
        rw [hpl] at hix
        have hxo := hok _ (g_mem hjl)
        obtain ⟨x, hx⟩ : ∃ x, g L j = x := ⟨_, rfl⟩
        rw [hx] at e1 e2 hxo
        clear hx hpl
        obtain ⟨x1, x2⟩ := x
        simp only at e1 e2
        have HC : Hid (∀ W, Mod (fun _ => False) w W → W.cell? ⟨bb, o, none⟩ = some (.int .i64 x1) ∧ W.cell? ⟨bb, o + 1, none⟩ = some (.int .i64 x2)) := Lib.hid fun W hm => ⟨hm.cell e1 (fun e => e), hm.cell e2 (fun e => e)⟩
        clear e1 e2
        obtain ⟨e1, e2⟩ := HC.out _ hT.h.mod
        have hlk := IMap.look hT.m Try.underlying26 Try.underlying3 Try.underlying3 (Hp.zero3 wr) x1 hxo.1
        have hfst := pushS_fst S x1 x2
        have hkp := keyS_push (hT.h.obj.ids) x1 x2
        have hSl9 : S.length ≤ 900000000 := by omega
        have hpl2 := pushS_len S x1 x2
        obtain ⟨pr, hpr⟩ : ∃ pr, pushS S x1 x2 = pr := ⟨_, rfl⟩
        rw [hpr] at hfst hkp hpl2
        obtain ⟨pb, pS⟩ := pr
        simp only at hfst hkp hpl2
        have HKP := Lib.hid hkp
        have HPR := Lib.hid hpr
        clear hkp hpr
        cases hks : keyS S x1 with
        | none =>
          rw [hks] at hfst hlk
          simp only at hfst
          simp only [Option.getD_none, Option.isSome_none] at hlk
          subst hfst
          have HKS := Lib.hid hks
          clear hks
          go_wp2_with fail
          have HIX := Lib.hid hix
          have HCR : Hid (∀ W, Mod (fun k => w.heap.size ≤ k) (World.drew wr) W → W.cell? ⟨bb, o, none⟩ = some (.int .i64 x1) ∧ W.cell? ⟨bb, o + 1, none⟩ = some (.int .i64 x2)) := Lib.hid fun W hm => HC.out W ((hT.later (Mod.drew _ _)).h.mod.trans hm (fun _ _ e => e) (fun i hi e => by show False; omega))
          have hlow := hT.h.low
          clear hix e1 e2
          have HST : ∀ (ix : Nat) (vx : Value) (wx wy : World), factOf (sput_F wr a n c j p bb o x1 x2 pS F) ix vx wx → Mod (fun _ => False) wx wy → factOf (sput_F wr a n c j p bb o x1 x2 pS F) ix vx wy := by
            refine fact_stays ?_
            intro f hf
            simp only [sput_F, List.mem_cons, List.not_mem_nil, or_false] at hf
            rcases hf with rfl | rfl | rfl | rfl | rfl | rfl | rfl | rfl | rfl | rfl | rfl | rfl | rfl | rfl | rfl | rfl | rfl | rfl | rfl | rfl | rfl | rfl | rfl <;> first | exact stable_val _ | exact stable_new | exact (fun _ _ _ ⟨h1, F1, h2, h3, h4⟩ hm => ⟨h1, F1, h2.keep hm (fun _ _ e => e), h3.trans hm (fun _ _ e => e) (fun _ _ e => e.elim), h4⟩)
          have HSO : ∀ px ∈ (sput_F wr a n c j p bb o x1 x2 pS F), px.1 = true → ∀ (vx : Value) (wx wy : World), px.2 vx wx → px.2 vx wy := by
            intro f hf
            simp only [sput_F, List.mem_cons, List.not_mem_nil, or_false] at hf
            rcases hf with rfl | rfl | rfl | rfl | rfl | rfl | rfl | rfl | rfl | rfl | rfl | rfl | rfl | rfl | rfl | rfl | rfl | rfl | rfl | rfl | rfl | rfl | rfl <;> first | exact fun _ _ _ _ h => h | (intro h; cases h)
          refine wp_region_obj (Mod (fun k => w.heap.size ≤ k)) (factOf (sput_F wr a n c j p bb o x1 x2 pS F)) (fun i => sput_C.getD i 1000) (fun W => HpO W p S F ∧ Mod (fun _ => False) wr W) 11 (fun i => sput_D.getD i []) 23 _ rfl rfl (by kernel_rfl) (by kernel_rfl) (by kernel_rfl) (by kernel_rfl) (by kernel_rfl) (fun _ => Mod.refl _ _)
            (fun _ _ _ h k => h.trans k (fun _ _ e => e) (fun _ _ e => e)) ⟨(hT.later (Mod.drew _ _)).h.obj, Mod.drew _ _⟩ ?_ ?_
          · refine opsOkO_cons ?_ ?_
            · intro K vs W hR hD hI hK
              clear hD hI
              simp only [putAll, Nat.zero_add, Nat.reduceAdd, Act.put, List.setIfInBounds_toArray, List.set_cons_succ, List.set_cons_zero] at hK ⊢
              go_wp2
              exact hK _ _ rfl (fun _ _ _ h => h) (fun _ _ h => h) (Mod.refl _ _)
            refine opsOkO_cons ?_ ?_
            · intro K vs W hR hD hI hK
              clear hD hI
              simp only [putAll, Nat.zero_add, Nat.reduceAdd, Act.put, List.setIfInBounds_toArray, List.set_cons_succ, List.set_cons_zero] at hK ⊢
              go_wp2
              exact hK _ _ rfl (fun _ _ _ h => h) (fun _ _ h => h) (Mod.refl _ _)
            refine opsOkO_cons ?_ ?_
            · intro K vs W hR hD hI hK
              clear hD hI
              simp only [putAll, Nat.zero_add, Nat.reduceAdd, Act.put, List.setIfInBounds_toArray, List.set_cons_succ, List.set_cons_zero] at hK ⊢
              go_wp2
              exact hK _ _ rfl (fun _ _ _ h => h) (fun _ _ h => h) (Mod.refl _ _)
            refine opsOkO_cons ?_ ?_
            · intro K vs W hR hD hI hK
              have d1 : vs 1 = .slice a n c := hD 1 (by decide)
              have d2 : vs 2 = .int .i64 j := hD 2 (by decide)
              clear hD hI
              simp only [putAll, Nat.zero_add, Nat.reduceAdd, Act.put, List.setIfInBounds_toArray, List.set_cons_succ, List.set_cons_zero] at hK ⊢
              generalize vs 1 = v1 at hK d1 ⊢
              subst d1
              generalize vs 2 = v2 at hK d2 ⊢
              subst d2
              have hx := HIX.out
              go_wp2
              exact hK _ _ rfl (fun _ _ _ h => h) (fun _ _ h => h) (Mod.refl _ _)
            refine opsOkO_cons ?_ ?_
            · intro K vs W hR hD hI hK
              have d3 : vs 3 = .pointer (some ⟨bb, o, none⟩) := hD 3 (by decide)
              clear hD hI
              simp only [putAll, Nat.zero_add, Nat.reduceAdd, Act.put, List.setIfInBounds_toArray, List.set_cons_succ, List.set_cons_zero] at hK ⊢
              generalize vs 3 = v3 at hK d3 ⊢
              subst d3
              go_wp2
              exact hK _ _ rfl (fun _ _ _ h => h) (fun _ _ h => h) (Mod.refl _ _)
            refine opsOkO_cons ?_ ?_
            · intro K vs W hR hD hI hK
              have d4 : vs 4 = .pointer (some ⟨bb, o, none⟩) := hD 4 (by decide)
              clear hD hI
              simp only [putAll, Nat.zero_add, Nat.reduceAdd, Act.put, List.setIfInBounds_toArray, List.set_cons_succ, List.set_cons_zero] at hK ⊢
              generalize vs 4 = v4 at hK d4 ⊢
              subst d4
              obtain ⟨e1, e2⟩ := HCR.out _ hR
              go_wp2
              exact hK _ _ rfl (fun _ _ _ h => h) (fun _ _ h => h) (Mod.refl _ _)
            refine opsOkO_cons ?_ ?_
            · intro K vs W hR hD hI hK
              clear hD hI
              simp only [putAll, Nat.zero_add, Nat.reduceAdd, Act.put, List.setIfInBounds_toArray, List.set_cons_succ, List.set_cons_zero] at hK ⊢
              go_wp2
              exact hK _ _ rfl (fun _ _ _ h => h) (fun _ _ h => h) (Mod.refl _ _)
            refine opsOkO_cons ?_ ?_
            · intro K vs W hR hD hI hK
              clear hD hI
              simp only [putAll, Nat.zero_add, Nat.reduceAdd, Act.put, List.setIfInBounds_toArray, List.set_cons_succ, List.set_cons_zero] at hK ⊢
              go_wp2
              exact hK _ _ rfl (fun _ _ _ h => h) (fun _ _ h => h) (Mod.refl _ _)
            refine opsOkO_cons ?_ ?_
            · intro K vs W hR hD hI hK
              have d6 : vs 6 = .slice a n c := hD 6 (by decide)
              have d7 : vs 7 = .int .i64 j := hD 7 (by decide)
              clear hD hI
              simp only [putAll, Nat.zero_add, Nat.reduceAdd, Act.put, List.setIfInBounds_toArray, List.set_cons_succ, List.set_cons_zero] at hK ⊢
              generalize vs 6 = v6 at hK d6 ⊢
              subst d6
              generalize vs 7 = v7 at hK d7 ⊢
              subst d7
              have hx := HIX.out
              go_wp2
              exact hK _ _ rfl (fun _ _ _ h => h) (fun _ _ h => h) (Mod.refl _ _)
            refine opsOkO_cons ?_ ?_
            · intro K vs W hR hD hI hK
              have d8 : vs 8 = .pointer (some ⟨bb, o, none⟩) := hD 8 (by decide)
              clear hD hI
              simp only [putAll, Nat.zero_add, Nat.reduceAdd, Act.put, List.setIfInBounds_toArray, List.set_cons_succ, List.set_cons_zero] at hK ⊢
              generalize vs 8 = v8 at hK d8 ⊢
              subst d8
              go_wp2
              exact hK _ _ rfl (fun _ _ _ h => h) (fun _ _ h => h) (Mod.refl _ _)
            refine opsOkO_cons ?_ ?_
            · intro K vs W hR hD hI hK
              have d9 : vs 9 = .pointer (some ⟨bb, o + 1, none⟩) := hD 9 (by decide)
              clear hD hI
              simp only [putAll, Nat.zero_add, Nat.reduceAdd, Act.put, List.setIfInBounds_toArray, List.set_cons_succ, List.set_cons_zero] at hK ⊢
              generalize vs 9 = v9 at hK d9 ⊢
              subst d9
              obtain ⟨e1, e2⟩ := HCR.out _ hR
              go_wp2
              exact hK _ _ rfl (fun _ _ _ h => h) (fun _ _ h => h) (Mod.refl _ _)
            refine opsOkO_cons ?_ ?_
            · intro K vs W hR hD hI hK
              have d0 : vs 0 = .pointer (some ⟨p, 0, none⟩) := hD 0 (by decide)
              have d5 : vs 5 = .int .i64 x1 := hD 5 (by decide)
              have d10 : vs 10 = .int .i64 x2 := hD 10 (by decide)
              clear hD
              replace hI := hI rfl
              simp only [putAll, Nat.zero_add, Nat.reduceAdd, Act.put, List.setIfInBounds_toArray, List.set_cons_succ, List.set_cons_zero] at hK ⊢
              generalize vs 0 = v0 at hK d0 ⊢
              subst d0
              generalize vs 5 = v5 at hK d5 ⊢
              subst d5
              generalize vs 10 = v10 at hK d10 ⊢
              subst d10
              go_wp2_with fail
              refine (hpush_any p _ S F hI.1 hSl9 x1 x2 hxo.1 hxo.2).mono ?_
              rintro e w1 ⟨rfl, F1, hO1, hA1⟩
              rw [HPR.out] at hO1 ⊢
              go_wp2
              exact hK _ _ ⟨rfl, F1, hO1, hI.2.trans hA1.1 (fun _ _ e => e.elim) (fun _ _ e => e), fun k hk => (hA1.2 k hk).imp id (fun e => Nat.le_trans hI.2.size e)⟩ (fact_solid HSO 11 (by kernel_rfl)) (fun h => absurd rfl h) (hA1.1.mono (fun k _ e => hlow k e))
            refine opsOkO_cons ?_ ?_
            · intro K vs W hR hD hI hK
              clear hD hI
              simp only [putAll, Nat.zero_add, Nat.reduceAdd, Act.put, List.setIfInBounds_toArray, List.set_cons_succ, List.set_cons_zero] at hK ⊢
              go_wp2
              exact hK _ _ rfl (fun _ _ _ h => h) (fun _ _ h => h) (Mod.refl _ _)
            refine opsOkO_cons ?_ ?_
            · intro K vs W hR hD hI hK
              have d12 : vs 12 = .bool false := hD 12 (by decide)
              clear hD hI
              simp only [putAll, Nat.zero_add, Nat.reduceAdd, Act.put, List.setIfInBounds_toArray, List.set_cons_succ, List.set_cons_zero] at hK ⊢
              generalize vs 12 = v12 at hK d12 ⊢
              subst d12
              go_wp2
              exact hK _ _ rfl (fun _ _ _ h => h) (fun _ _ h => h) (Mod.refl _ _)
            refine opsOkO_cons ?_ ?_
            · intro K vs W hR hD hI hK
              have d13 : vs 13 = .bool true := hD 13 (by decide)
              clear hD hI
              simp only [putAll, Nat.zero_add, Nat.reduceAdd, Act.put, List.setIfInBounds_toArray, List.set_cons_succ, List.set_cons_zero] at hK ⊢
              generalize vs 13 = v13 at hK d13 ⊢
              subst d13
              go_wp2
              exact hK _ _ rfl (fun _ _ _ h => h) (fun _ _ h => h) (Mod.refl _ _)
            refine opsOkO_cons ?_ ?_
            · intro K vs W hR hD hI hK
              have d14 : vs 14 = .bool true := hD 14 (by decide)
              clear hD hI
              simp only [putAll, Nat.zero_add, Nat.reduceAdd, Act.put, List.setIfInBounds_toArray, List.set_cons_succ, List.set_cons_zero] at hK ⊢
              generalize vs 14 = v14 at hK d14 ⊢
              subst d14
              go_wp2
              exact hK _ _ rfl (fun _ _ _ h => h) (fun _ _ h => h) (Mod.refl _ _)
            refine opsOkO_cons ?_ ?_
            · intro K vs W hR hD hI hK
              have d14 : vs 14 = .bool true := hD 14 (by decide)
              clear hD hI
              simp only [putAll, Nat.zero_add, Nat.reduceAdd, Act.put, List.setIfInBounds_toArray, List.set_cons_succ, List.set_cons_zero] at hK ⊢
              generalize vs 14 = v14 at hK d14 ⊢
              subst d14
              go_wp2
              exact hK _ _ rfl (fun _ _ _ h => h) (fun _ _ h => h) (Mod.refl _ _)
            refine opsOkO_cons ?_ ?_
            · intro K vs W hR hD hI hK
              have d14 : vs 14 = .bool true := hD 14 (by decide)
              clear hD hI
              simp only [putAll, Nat.zero_add, Nat.reduceAdd, Act.put, List.setIfInBounds_toArray, List.set_cons_succ, List.set_cons_zero] at hK ⊢
              generalize vs 14 = v14 at hK d14 ⊢
              subst d14
              go_wp2
              exact hK _ _ rfl (fun _ _ _ h => h) (fun _ _ h => h) (Mod.refl _ _)
            refine opsOkO_cons ?_ ?_
            · intro K vs W hR hD hI hK
              have d14 : vs 14 = .bool true := hD 14 (by decide)
              clear hD hI
              simp only [putAll, Nat.zero_add, Nat.reduceAdd, Act.put, List.setIfInBounds_toArray, List.set_cons_succ, List.set_cons_zero] at hK ⊢
              generalize vs 14 = v14 at hK d14 ⊢
              subst d14
              go_wp2
              exact hK _ _ rfl (fun _ _ _ h => h) (fun _ _ h => h) (Mod.refl _ _)
            refine opsOkO_cons ?_ ?_
            · intro K vs W hR hD hI hK
              have d14 : vs 14 = .bool true := hD 14 (by decide)
              clear hD hI
              simp only [putAll, Nat.zero_add, Nat.reduceAdd, Act.put, List.setIfInBounds_toArray, List.set_cons_succ, List.set_cons_zero] at hK ⊢
              generalize vs 14 = v14 at hK d14 ⊢
              subst d14
              go_wp2
              exact hK _ _ rfl (fun _ _ _ h => h) (fun _ _ h => h) (Mod.refl _ _)
            refine opsOkO_cons ?_ ?_
            · intro K vs W hR hD hI hK
              have d14 : vs 14 = .bool true := hD 14 (by decide)
              clear hD hI
              simp only [putAll, Nat.zero_add, Nat.reduceAdd, Act.put, List.setIfInBounds_toArray, List.set_cons_succ, List.set_cons_zero] at hK ⊢
              generalize vs 14 = v14 at hK d14 ⊢
              subst d14
              go_wp2
              exact hK _ _ rfl (fun _ _ _ h => h) (fun _ _ h => h) (Mod.refl _ _)
            refine opsOkO_cons ?_ ?_
            · intro K vs W hR hD hI hK
              have d14 : vs 14 = .bool true := hD 14 (by decide)
              clear hD hI
              simp only [putAll, Nat.zero_add, Nat.reduceAdd, Act.put, List.setIfInBounds_toArray, List.set_cons_succ, List.set_cons_zero] at hK ⊢
              generalize vs 14 = v14 at hK d14 ⊢
              subst d14
              go_wp2
              exact hK _ _ rfl (fun _ _ _ h => h) (fun _ _ h => h) (Mod.refl _ _)
            refine opsOkO_cons ?_ ?_
            · intro K vs W hR hD hI hK
              have d14 : vs 14 = .bool true := hD 14 (by decide)
              clear hD hI
              simp only [putAll, Nat.zero_add, Nat.reduceAdd, Act.put, List.setIfInBounds_toArray, List.set_cons_succ, List.set_cons_zero] at hK ⊢
              generalize vs 14 = v14 at hK d14 ⊢
              subst d14
              go_wp2
              exact hK _ _ rfl (fun _ _ _ h => h) (fun _ _ h => h) (Mod.refl _ _)
            exact opsOkO_nil
          · intro vs W hR hF
            have d11 : (fun v W => v = .bool true ∧ ∃ F1, HpO W p pS F1 ∧ Mod F wr W ∧ (∀ k, F1 k → F k ∨ wr.heap.size ≤ k)) (vs 11) W := hF 11 (by decide) (by decide)
            have d22 : vs 22 = .bool true := hF 22 (by decide) (by decide)
            clear hF
            simp only [putAll, Nat.zero_add, Nat.reduceAdd, Act.put, List.setIfInBounds_toArray, List.set_cons_succ, List.set_cons_zero]
            generalize vs 11 = v11 at d11 ⊢
            generalize vs 22 = v22 at d22 ⊢
            subst d22
            obtain ⟨rfl, F1, hO1, hMF, hF1⟩ := d11
            have hH1 : HeapSt w W p pS F1 := hT.h.aft hO1 ⟨hMF, hF1⟩
            have hm1 := hT.m.keep hMF hT.dis
            have hd1 : ¬ F1 b := fun e => (hF1 b e).elim hT.dis (fun e => by have := hT.m.lt; omega)
            obtain ⟨w1, hw1⟩ : ∃ w1, W = w1 := ⟨_, rfl⟩
            subst hw1
            have hix := HIX.out
            obtain ⟨e1, e2⟩ := HC.out W hH1.mod
            obtain ⟨e1d, e2d⟩ := HC.out W.drew hH1.mod.thenDrew
            obtain ⟨w2, hrun, hmap, hM2⟩ := IMap.store (w := W.drew) (hm1.keep (Mod.drew (fun _ => False) _) (fun e => e)) Try.underlying26 Try.underlying3 Try.underlying3 (S.map (·.1)) (fun k hk => by
              obtain ⟨c, hc⟩ := Option.ne_none_iff_exists'.1 hk
              exact List.mem_map_of_mem (f := (·.1)) (keyS_inv hc)) (by rw [List.length_map]; unfold maxLen; omega) x1 x2 hxo.1 hxo.2
            have hfin : SortSt w w2 p b pS F1 := by
              have e : (fun j => if j = x1 then some x2 else keyS S j) = keyS pS := by
                funext k; rw [HKP.out]; simp
              rw [e] at hmap
              exact ⟨hH1.keep ((Mod.drew (fun i => i = b) _).trans hM2 (fun _ _ e => e) (fun _ _ e => e)) (fun k e => by rw [e]; exact hT.low) (fun k hk e => hd1 (by rw [← e]; exact hk)), hmap, hd1, hT.low⟩
            have HFIN := Lib.hid hfin
            have e6 := HC.out w2 hfin.h.mod
            clear hfin hmap
            go_wp2_with fail
            go_region_held3 (fun w' => w'.cell? ⟨bb, o, none⟩ = some (.int .i64 x1) ∧ w'.cell? ⟨bb, o + 1, none⟩ = some (.int .i64 x2)) (first | exact e6 | go_keep) (fail)
            go_wp2_with fail
            go_roundw
            case rel => exact ⟨j + 1, hlt, by go_num, pS, F1, HFIN.out, by omega⟩
            case measure => simp [intOf]; omega
        | some k =>
          rw [hks] at hfst hlk
          simp only at hfst
          simp only [Option.getD_some, Option.isSome_some] at hlk
          have HKS := Lib.hid hks
          clear hks
          by_cases hlk2 : x2 < k
          · have hd : decide (x2 < k) = true := by simpa using hlk2
            rw [hd] at hfst
            subst hfst
            go_wp2_with fail
            go_region_held3 (fun w' => w'.cell? ⟨bb, o, none⟩ = some (.int .i64 x1) ∧ w'.cell? ⟨bb, o + 1, none⟩ = some (.int .i64 x2)) (first | exact e3 | go_keep) ((go_at_call 10; refine (hpush_any p _ S F (hT.later (Mod.drew _ _)).h.obj hSl9 x1 x2 hxo.1 hxo.2).mono ?_; rintro e w1 ⟨rfl, F1, hO1, hA1⟩; rw [HPR.out] at hO1 ⊢; have hH1 := (hT.later (Mod.drew _ _)).h.aft hO1 hA1; have e3 := HC.out w1 hH1.mod))
            have hm1 := (hT.later (Mod.drew (fun _ => False) wr)).m.keep hA1.1 hT.dis
            have hd1 : ¬ F1 b := fun e => (hA1.2 b e).elim hT.dis (fun e => by have := hT.m.lt; simp at e; omega)
            clear e1 e2
            obtain ⟨e1, e2⟩ := e3
            obtain ⟨e1d, e2d⟩ := HC.out w1.drew hH1.mod.thenDrew
            obtain ⟨w2, hrun, hmap, hM2⟩ := IMap.store (w := w1.drew) (hm1.keep (Mod.drew (fun _ => False) _) (fun e => e)) Try.underlying26 Try.underlying3 Try.underlying3 (S.map (·.1)) (fun k hk => by
              obtain ⟨c, hc⟩ := Option.ne_none_iff_exists'.1 hk
              exact List.mem_map_of_mem (f := (·.1)) (keyS_inv hc)) (by rw [List.length_map]; unfold maxLen; omega) x1 x2 hxo.1 hxo.2
            have hfin : SortSt w w2 p b pS F1 := by
              have e : (fun j => if j = x1 then some x2 else keyS S j) = keyS pS := by
                funext k; rw [HKP.out]; simp
              rw [e] at hmap
              exact ⟨hH1.keep ((Mod.drew (fun i => i = b) _).trans hM2 (fun _ _ e => e) (fun _ _ e => e)) (fun k e => by rw [e]; exact hT.low) (fun k hk e => hd1 (by rw [← e]; exact hk)), hmap, hd1, hT.low⟩
            have HFIN := Lib.hid hfin
            have e6 := HC.out w2 hfin.h.mod
            clear hfin hmap
            go_wp2_with fail
            go_region_held3 (fun w' => w'.cell? ⟨bb, o, none⟩ = some (.int .i64 x1) ∧ w'.cell? ⟨bb, o + 1, none⟩ = some (.int .i64 x2)) (first | exact e6 | go_keep) (fail)
            go_wp2_with fail
            go_roundw
            case rel => exact ⟨j + 1, hlt, by go_num, pS, F1, HFIN.out, by omega⟩
            case measure => simp [intOf]; omega
          · have hd : decide (x2 < k) = false := by simpa using hlk2
            rw [hd] at hfst
            subst hfst
            go_wp2_with fail
            go_region_held3 (fun w' => w'.cell? ⟨bb, o, none⟩ = some (.int .i64 x1) ∧ w'.cell? ⟨bb, o + 1, none⟩ = some (.int .i64 x2)) (first | exact e3 | go_keep) ((go_at_call 10; refine (hpush_any p _ S F (hT.later (Mod.drew _ _)).h.obj hSl9 x1 x2 hxo.1 hxo.2).mono ?_; rintro e w1 ⟨rfl, F1, hO1, hA1⟩; rw [HPR.out] at hO1 ⊢; have hH1 := (hT.later (Mod.drew _ _)).h.aft hO1 hA1; have e3 := HC.out w1 hH1.mod))
            have hm1 := (hT.later (Mod.drew (fun _ => False) wr)).m.keep hA1.1 hT.dis
            have hd1 : ¬ F1 b := fun e => (hA1.2 b e).elim hT.dis (fun e => by have := hT.m.lt; simp at e; omega)
            clear e1 e2
            obtain ⟨e1, e2⟩ := e3
            obtain ⟨e1d, e2d⟩ := HC.out w1.drew hH1.mod.thenDrew
            have hfin : SortSt w w1 p b pS F1 := by
              have e : keyS S = keyS pS := by
                funext k'; rw [HKP.out]; simp
                intro h; rw [h]
              rw [e] at hm1
              exact ⟨hH1, hm1, hd1, hT.low⟩
            have HFIN := Lib.hid hfin
            clear hfin
            go_wp2_with fail
            go_roundw
            case rel => exact ⟨j + 1, hlt, by go_num, pS, F1, HFIN.out, by omega⟩
            case measure => simp [intOf]; omega
      · obtain rfl : j = n := by omega
        go_wp2_with fail
        go_meet
        exact ⟨S, F, hT, hSl⟩
  case rest =>
    clear hT0
    obtain ⟨S, F, hT, hSl⟩ := hcut
    have hids := hT.h.obj.ids
    have hwf : ∀ x ∈ S, okIt x := hT.h.obj.ok.2.2
    have hlen := IMap.len hT.m hids (fun x hx => (hwf x hx).1) Try.underlying26 Try.underlying3 3
    have hSm : (S.length : Int) ≤ 1000 := by omega
    obtain ⟨m, hm⟩ : ∃ m, S.length = m := ⟨_, rfl⟩
    rw [hm] at hlen hSm
    have HM := Lib.hid hm
    clear hm
    go_wp2_with fail
    go_loopw [9, 10, 11] (fun la ke i wr => ∃ (k : Nat) (l1 l2 : Int), k ≤ m ∧ la = .int .i64 l1 ∧ ke = .int .i64 l2 ∧ i = .int .i64 k ∧ SortSt2 w wr p b m k l1 l2) (fun _ _ i _ => m - (intOf i).toNat)
    case atStart => exact ⟨0, 0, 0, Nat.zero_le _, rfl, rfl, rfl, S, F, hT, by rw [HM.out]; omega, fun h => by omega⟩
    case round =>
      clear hT hids hwf hlen hSl
      obtain ⟨k, l1, l2, hk, rfl, rfl, rfl, T, F, hT, hTl, hbef⟩ := hrel
      have hids := hT.h.obj.ids
      have hwf : ∀ x ∈ T, okIt x := hT.h.obj.ok.2.2
      have hsrt := hT.h.obj.ok.1
      by_cases hlt : k < m
      · cases T with
        | nil => simp at hTl; omega
        | cons y r =>
          obtain ⟨y1, y2⟩ := y
          have hy := hwf (y1, y2) List.mem_cons_self
          have hky : keyS ((y1, y2) :: r) y1 = some y2 := keyS_some hids List.mem_cons_self rfl
          have hb1 : 0 < k → l2 < y2 ∨ (l2 = y2 ∧ l1 < y1) := fun h0 => by
            have := (bef_iff _ _).1 (hbef h0 (y1, y2) List.mem_cons_self)
            simpa using this
          have hkr := keyS_cons hids
          have hnext : ∀ z ∈ r, bef (y1, y2) z = true := by rw [Srt, List.pairwise_cons] at hsrt; exact hsrt.1
          have HKR := Lib.hid hkr
          have HNX := Lib.hid hnext
          have hlenr : k + 1 + r.length = m := by rw [List.length_cons] at hTl; omega
          have hT9 : ((y1, y2) :: r).length ≤ 900000000 := by omega
          clear hkr hnext hbef hids hwf hsrt hTl
          go_wp2_with fail
          refine (hpop_any p _ ((y1, y2) :: r) F hT.h.obj hT9).mono ?_
          rintro e w1 ⟨rfl, hO, hM⟩
          have hH1 := hT.h.aft hO (Aft.ofMod hM)
          have hm1 := hT.m.keep hM hT.dis
          have hlk := IMap.look hm1 Try.underlying26 Try.underlying3 Try.underlying3 (Hp.zero3 w1) y1 hy.1
          rw [hky] at hlk
          simp only [Option.getD_some, Option.isSome_some] at hlk
          obtain ⟨w2, hrun, hmap, hM2⟩ := IMap.drop (w := w1) hm1 Try.underlying26 Try.underlying3 y1 hy.1 (ty := 0)
          have hfin : SortSt w w2 p b r F := by
            rw [← HKR.out] at hmap
            exact ⟨hH1.keep hM2 (fun k e => by rw [e]; exact hT.low) (fun k hk e => hT.dis (by rw [← e]; exact hk)), hmap, hT.dis, hT.low⟩
          have HFIN := Lib.hid hfin
          clear hfin hmap hky
          have q1 : (y2 == y2) = true := by simp
          by_cases hk0 : k = 0
          · have d0 : decide (0 < k) = false := by simp; omega
            have d0' : decide ((0 : Int) < (k : Int)) = false := by simp; omega
            go_wp2_with fail
            go_roundw
            case rel => exact ⟨k + 1, y1, y2, hlt, rfl, rfl, by go_num, r, F, HFIN.out, hlenr, fun _ => HNX.out⟩
            case measure => simp [intOf]; omega
          · have d0 : decide (0 < k) = true := by simp; omega
            have d0' : decide ((0 : Int) < (k : Int)) = true := by simp; omega
            have hb2 := hb1 (by omega)
            have d1 : decide (y2 < l2) = false := by simp; omega
            by_cases he : y2 = l2
            · have d2 : (y2 == l2) = true := by simpa using he
              have d3 : decide (y1 ≤ l1) = false := by simp; omega
              clear he hb1 hb2
              go_wp2_with fail
              go_roundw
              case rel => exact ⟨k + 1, y1, y2, hlt, rfl, rfl, by go_num, r, F, HFIN.out, hlenr, fun _ => HNX.out⟩
              case measure => simp [intOf]; omega
            · have d2 : (y2 == l2) = false := by simpa using he
              clear hb1 hb2
              go_wp2_with fail
              go_roundw
              case rel => exact ⟨k + 1, y1, y2, hlt, rfl, rfl, by go_num, r, F, HFIN.out, hlenr, fun _ => HNX.out⟩
              case measure => simp [intOf]; omega
      · have hk' : k = m := by omega
        have hT0 : T = [] := List.eq_nil_of_length_eq_zero (by omega)
        subst hT0
        clear hbef
        go_wp2_with fail
        refine (len_any p _ [] F hT.h.obj).mono ?_
        rintro e w1 ⟨rfl, rfl⟩
        go_wp2_with fail
        refine (awake_any _).mono ?_
        rintro e w9 ⟨rfl, hM9⟩
        go_wp2
        go_ret
        exact ⟨rfl, hT.h.mod.trans hM9 (fun _ _ e => e) (fun _ _ e => e)⟩

theorem sorts_all (w : World) (a : Option Addr) (n c : Nat) (L : List It) (ok : (encSlice (encPair (encInt .i64) (encInt .i64))).ok w (.slice a n c, L)) :
    Calls Try.prog 4 #[.slice a n c] w fun e w' => e = .returned (.bool true) ∧ Below w.heap.size w w' := by
  obtain ⟨hn, hr, hok⟩ := ok_pairs ok
  exact (sorts_walk w a n c L hn hr hok).mono fun e w' h => ⟨h.1, h.2.below (Nat.le_refl _) (fun _ e => e.elim)⟩
end Go.Proofs.Ytheahhcbmknaoaa
