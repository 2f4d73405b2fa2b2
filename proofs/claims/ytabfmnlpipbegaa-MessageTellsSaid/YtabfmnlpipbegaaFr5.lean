/- The document's own answer to frames, by contract: Unwrap. -/
import Derived.Test.YtabfmnlpipbegaaFr4
import Derived.Test.YtabfmnlpipbegaaTwo
import Derived.Test.YtabfmnlpipbegaaRegion
namespace Mile
open Go Go.RowKit
theorem run_midS3 {P : Program} (w : World) (t e : TypeId) (i : TypeInfo) (size : Nat) (ht : P.underlying t = some (.slice e)) (hi : P.info? e = some i) (hs : i.size = size) (a : Option Addr) (len cap n m : Nat) (h1 : n ≤ m) (h2 : m ≤ cap) :
    (Instr.slice t (.slice a len cap) (some (.int .i64 (n : Int))) (some (.int .i64 (m : Int))) none).run P w = .ok (.slice (dropA a cap n size) (m - n) (cap - n)) w := by
  have k1 : (n : Int) ≤ (m : Int) := by omega
  have k2 : (m : Int) ≤ (cap : Int) := by omega
  simp [Instr.slice, run_underlying ht, Instr.sliceBounds, run_sliceBound, k1, k2, Go.sizeOf, typeInfo, hi, hs, dropA]
theorem strOf_inj3 {cs bs : List Int} (hc : ∀ x ∈ cs, 0 ≤ x ∧ x < 256) (hb : ∀ x ∈ bs, 0 ≤ x ∧ x < 256) (h : strOf cs = strOf bs) : cs = bs := by
  have key : ∀ (l : List Int) (r : ByteArray), (l.foldl (fun r n => r.push (UInt8.ofNat n.toNat)) r).data.toList = r.data.toList ++ l.map (fun n => UInt8.ofNat n.toNat) := by
    intro l
    induction l with
    | nil => intro r; simp
    | cons n l ih => intro r; rw [List.foldl_cons, ih]; simp
  have e1 := key cs ByteArray.empty
  have e2 := key bs ByteArray.empty
  have h' : (cs.foldl (fun r n => r.push (UInt8.ofNat n.toNat)) ByteArray.empty).data.toList = (bs.foldl (fun r n => r.push (UInt8.ofNat n.toNat)) ByteArray.empty).data.toList := by
    have : strOf cs = strOf bs := h
    unfold strOf at this; rw [this]
  rw [e1, e2, List.append_cancel_left_eq] at h'
  clear e1 e2 h key
  induction cs generalizing bs with
  | nil => cases bs with
    | nil => rfl
    | cons b bs => simp at h'
  | cons c cs ih =>
    cases bs with
    | nil => simp at h'
    | cons b bs =>
      simp only [List.map_cons, List.cons.injEq] at h'
      have h1 := hc c (by simp)
      have h2 := hb b (by simp)
      have h3 := congrArg UInt8.toNat h'.1
      simp at h3
      rw [ih (fun x hx => hc x (by simp [hx])) (fun x hx => hb x (by simp [hx])) h'.2, show c = b by omega]
theorem bytes_beq_ne3 {a b : ByteArray} (h : a ≠ b) : (a == b) = false := by
  cases a with
  | mk x =>
    cases b with
    | mk y =>
      show (x == y) = false
      rw [beq_eq_false_iff_ne]
      intro e; exact h (by rw [e])
theorem map_at {b : List Int} {j : Nat} (h : j < b.length) : (b.map (Value.int .u8))[j]? = some (.int .u8 (b.getD j 0)) := by simp [List.getD, h]
end Mile
namespace Go.Proofs.Ytabfmnlpipbegaa
open Go.RowKit Mile
set_option maxRecDepth 100000

/-- A slice that reads so. -/
def RdRow (k : Nat) (xs : List Value) : Value → World → Prop := fun v W => ∃ a c, v = .slice a k c ∧ Rd W 1 (.slice a k c) k xs
theorem rdRow_stays {k : Nat} {xs : List Value} : ∀ v w w', RdRow k xs v w → Mod (fun _ => False) w w' → RdRow k xs v w' := by
  rintro v w w' ⟨a, c, rfl, h⟩ hm
  exact ⟨a, c, rfl, h.keepA hm (fun _ _ e => e.elim)⟩
/-- What each operation of the statement leaves. -/
def unw_F (a : Option Addr) (n c L m : Nat) (b : List Int) (X Y : ByteArray) (q : Bool) : List (Value → World → Prop) :=
  [IsV (.slice a n c),
   IsV (.int .i64 (n : Int)),
   IsV (.int .i64 (L : Int)),
   IsV (.int .i64 ((L : Int) + 9)),
   IsV (.bool false),
   IsV (.bool false),
   IsV (.slice a n c),
   IsV (.int .i64 (L : Int)),
   IsV (.int .i64 (m : Int)),
   IsV (.slice a m c),
   (RdRow (m + 4) ((frL (b.take m)).map (Value.int .u8))),
   IsV (.string X),
   IsV (.slice a n c),
   IsV (.string Y),
   IsV (.bool q),
   IsV (.bool q)]
def unw_D : List (List Nat) := [[], [0], [], [2], [1, 3], [4], [5], [5], [5, 7], [5, 6, 8], [5, 9], [5, 10], [5], [5, 12], [5, 11, 13], [5, 14]]
/-- A row of bytes of the call's own; an empty one has no room. -/
def OwnRow (B k : Nat) (xs : List Value) : Value → World → Prop := fun v W => ∃ a c, v = .slice a k c ∧ W.ownsRow B 5 1 (.slice a k c) k xs
theorem ownRow_stays {B k : Nat} {xs : List Value} : ∀ v w w', OwnRow B k xs v w → Mod (fun _ => False) w w' → OwnRow B k xs v w' := by
  rintro v w w' ⟨a, c, rfl, h⟩ hm
  exact ⟨a, c, rfl, Own.keep h hm (fun _ _ e => e)⟩
/-- A new empty row, without room. -/
def EmptyRow (B : Nat) : Value → World → Prop := fun v W => ∃ g, v = .slice (some ⟨g, 0, none⟩) 0 0 ∧ W.ownsRow B 5 1 (.slice (some ⟨g, 0, none⟩) 0 0) 0 []
theorem emptyRow_stays {B : Nat} : ∀ v w w', EmptyRow B v w → Mod (fun _ => False) w w' → EmptyRow B v w' := by
  rintro v w w' ⟨g, rfl, h⟩ hm
  exact ⟨g, rfl, Own.keep h hm (fun _ _ e => e)⟩
theorem emptyRow_new {B : Nat} (V : World) (h : B ≤ V.heap.size) : EmptyRow B (.slice (some ⟨V.heap.size, 0, none⟩) 0 0) (V.alloc (.cells #[] 5)) :=
  ⟨_, rfl, Own.rebase (own_empty V 5 1 _ rfl) (fun k hk => by have e : V.heap.size = k := Option.some.inj hk; omega)⟩
theorem own_appended {B g k : Nat} {V w5 : World} {v5 : Value} {xs : List Value} (hB : B ≤ V.heap.size) (ho : V.ownsRow B 5 1 (.slice (some ⟨g, 0, none⟩) 0 0) 0 []) (h : Appended V w5 5 1 (.slice (some ⟨g, 0, none⟩) 0 0) v5 (0 + k) ([] ++ xs)) :
    OwnRow B k xs v5 w5 ∧ Mod (fun _ => False) V w5 := by
  obtain ⟨a, c, rfl⟩ := h.form
  have hl := h.low hB (fun j hj => (ho.lt j hj).1)
  have h1 := h.own
  have h2 := h.still _ _ _ rfl (by omega)
  simp only [Nat.zero_add, List.nil_append] at h1 hl ⊢
  exact ⟨⟨a, c, rfl, Own.rebase h1 hl⟩, h2⟩
/-- What each operation of the statement leaves. -/
def unx_F (B : Nat) (a : Option Addr) (n c L m : Nat) (x2 : Int) (xs : List Int) : List (Value → World → Prop) :=
  [IsV (.slice a n c),
   IsV (.pointer (some (elemA a 2 1))),
   IsV (.int .u8 x2),
   IsV (.int .i64 x2),
   (EmptyRow B),
   IsV (.slice a n c),
   IsV (.int .i64 (L : Int)),
   IsV (.int .i64 (m : Int)),
   IsV (.slice (dropA a c 5 1) L (c - 5)),
   (OwnRow B L (xs.map (Value.int .u8))),
   IsV (.int .i64 x2),
   (OwnRow B L (xs.map (Value.int .u8))),
   IsV (.int .i64 0)]
def unx_D : List (List Nat) := [[], [0], [1], [2], [], [], [], [6], [5, 7], [4, 8], [3], [9], []]
set_option maxHeartbeats 8000000 in
theorem runwrap_any (w : World) (a : Option Addr) (n c : Nat) (b : List Int) (hn : b.length = n) (hr : Rd w 1 (.slice a n c) n (b.map (Value.int .u8))) (hb : ∀ x ∈ b, 0 ≤ x ∧ x < 256) (hm : n ≤ 1000000) :
    Calls Try.prog 38 #[.slice a n c] w (UnwrapP b w) := by
  obtain ⟨i0, hi, hz0, hz1, hz2⟩ := info_parts Chk.info5
  have HN := Lib.hid hn
  by_cases h9 : n < 9
  · have hun : Hid (unS b = ((0, []), 2)) := Lib.hid (unS_bad (fun h => by have := h.1.1; omega))
    clear hn hb
    go_enter Try.func38, Try.ntmps38
    go_wp2_with fail
    go_ret3
    exact ⟨_, _, by rw [hun.out]; rfl, by rw [hun.out]; exact World.ownsRow_nil _ _ _ _, Mod.refl _ _⟩
  have q9 : 9 ≤ n := by omega
  clear h9
  have ix := fun (j : Nat) (hj : j < n) wx => run_indexS (P := Try.prog) wx 27 5 i0 1 Try.underlying27 hi hz1 a n c j hj (hr.some_ (by omega))
  have ix0 : ∀ wx, (Instr.indexAt 27 (.slice a n c) (.int .i64 0)).run Try.prog wx = .ok (.pointer (some (elemA a 0 1))) wx := fun wx => ix 0 (by omega) wx
  have ix1 : ∀ wx, (Instr.indexAt 27 (.slice a n c) (.int .i64 1)).run Try.prog wx = .ok (.pointer (some (elemA a 1 1))) wx := fun wx => ix 1 (by omega) wx
  have ix2 : ∀ wx, (Instr.indexAt 27 (.slice a n c) (.int .i64 2)).run Try.prog wx = .ok (.pointer (some (elemA a 2 1))) wx := fun wx => ix 2 (by omega) wx
  have ix3 : ∀ wx, (Instr.indexAt 27 (.slice a n c) (.int .i64 3)).run Try.prog wx = .ok (.pointer (some (elemA a 3 1))) wx := fun wx => ix 3 (by omega) wx
  have ix4 : ∀ wx, (Instr.indexAt 27 (.slice a n c) (.int .i64 4)).run Try.prog wx = .ok (.pointer (some (elemA a 4 1))) wx := fun wx => ix 4 (by omega) wx
  have HC : Hid (∀ W, Mod (fun _ => False) w W → ∀ j, j < n → W.cell? (elemA a j 1) = some (.int .u8 (b.getD j 0))) := Lib.hid fun W hm j hj => (hr.keepA hm (fun _ _ e => e.elim)).elem (map_at (by omega))
  have c0 := HC.out w (Mod.refl _ _) 0 (by omega)
  have hrng : ∀ j, j < n → 0 ≤ b.getD j 0 ∧ b.getD j 0 < 256 := fun j hj => by
    have : b.getD j 0 = b[j]'(by omega) := by simp [List.getD, show j < b.length by omega]
    rw [this]; exact hb _ (List.getElem_mem _)
  have HB := Lib.hid hb
  clear hn hb ix
  by_cases h0 : b.getD 0 0 = 77
  · have H0 := Lib.hid h0
    rw [h0] at c0
    have c3 := HC.out w (Mod.refl _ _) 3 (by omega)
    have c4 := HC.out w (Mod.refl _ _) 4 (by omega)
    have hbn : bodyN b = b.getD 3 0 * 256 + b.getD 4 0 := rfl
    have r3 := hrng 3 (by omega)
    have r4 := hrng 4 (by omega)
    obtain ⟨x3, e3⟩ : ∃ x, b.getD 3 0 = x := ⟨_, rfl⟩
    obtain ⟨x4, e4⟩ : ∃ x, b.getD 4 0 = x := ⟨_, rfl⟩
    rw [e3] at c3 hbn r3
    rw [e4] at c4 hbn r4
    obtain ⟨L, hL⟩ := Int.eq_ofNat_of_zero_le (show 0 ≤ x3 * 256 + x4 by omega)
    rw [hL] at hbn
    have HBN := Lib.hid hbn
    have HL := Lib.hid hL
    clear h0 hbn hL e3 e4
    go_enter Try.func38, Try.ntmps38
    have hor : bits .or .i64 (x3 * 256) x4 = (L : Int) := by rw [or_byte x3 x4 r3.1 (by omega) r4.1 r4.2, HL.out]
    have hL16 : L < 65536 := by have := HL.out; omega
    go_wp2_with fail
    go_quiet (fail)
    have hMD := Mod.drewN (fun _ => False) w nq
    obtain ⟨W, hW⟩ : ∃ W, w.drewN nq = W := ⟨_, rfl⟩
    rw [hW] at hMD ⊢
    clear hW c0 c3 c4 ix0 ix3 ix4
    have c1 := HC.out W hMD 1 (by omega)
    have c2 := HC.out W hMD 2 (by omega)
    by_cases hlen : n = L + 9
    · obtain ⟨m, hm5⟩ : ∃ m, L + 5 = m := ⟨_, rfl⟩
      have hcast : (L : Int) + 5 = (m : Int) := by omega
      have HLEN : Hid (n = m + 4) := Lib.hid (by omega)
      have z1 : ((n : Int) != (L : Int) + 9) = false := by simp; omega
      have z2 : ((n : Int) == (L : Int) + 9) = true := by simp; omega
      have hmc : m ≤ c := by obtain ⟨_, a', c', he, h1, _⟩ := hr; cases he; omega
      have hts := fun wx => run_takeS (P := Try.prog) wx 27 5 i0 Try.underlying27 hi a n c m hmc
      have hrW := hr.keepA hMD (fun _ _ e => e.elim)
      have hrt := hrW.take (n := m) (by have := HLEN.out; omega)
      rw [Nat.mul_one, ← List.map_take] at hrt
      have hfi := framed_iff (b := b) (m := m) (by rw [HN.out]; exact HLEN.out) (by omega) (by rw [HBN.out]; omega) HB.out H0.out
      have HFI := Lib.hid hfi
      have hfl : (frL (b.take m)).length = m + 4 := by rw [fr_len, List.length_take, HN.out]; have := HLEN.out; omega
      have hfb : ∀ x ∈ frL (b.take m), 0 ≤ x ∧ x < 256 := fr_range (fun x hx => HB.out x (List.mem_of_mem_take hx))
      have HFB := Lib.hid hfb
      have HLN := Lib.hid hlen
      clear hfi hfl hfb hlen
      have htk : (b.take m).length = m := by rw [List.length_take, HN.out]; have := HLEN.out; omega
      have htb : ∀ x ∈ b.take m, 0 ≤ x ∧ x < 256 := fun x hx => HB.out x (List.mem_of_mem_take hx)
      have HTK := Lib.hid htk
      have HTB := Lib.hid htb
      have HRT := Lib.hid hrt
      have HRW := Lib.hid hrW
      have HTS := Lib.hid hts
      have HMD := Lib.hid hMD
      have HR := Lib.hid hr
      obtain ⟨X, hX⟩ : ∃ X, strOf (frL (b.take m)) = X := ⟨_, rfl⟩
      obtain ⟨Y, hY⟩ : ∃ Y, strOf b = Y := ⟨_, rfl⟩
      obtain ⟨q, hq⟩ : ∃ q, (!(X.toList == Y.toList)) = q := ⟨_, rfl⟩
      have HX := Lib.hid hX
      have HY := Lib.hid hY
      have HQ := Lib.hid hq
      have HC1 := Lib.hid c1
      have HC2 := Lib.hid c2
      clear htk htb hrt hrW hts hMD hr hX hY hq c1 c2
      go_wp2_with fail
      refine wp_region_inv (Mod (fun _ => False)) (fun i => (unw_F a n c L m b X Y q).getD i (fun _ _ => True)) (fun i => unw_D.getD i []) (by kernel_rfl) (by kernel_rfl) (by kernel_rfl) (by kernel_rfl) (fun _ => Mod.refl _ _)
        (fun _ _ _ h k => h.trans k (fun _ _ e => e) (fun _ _ e => e)) (stable_list ?_) ?_ ?_
      · intro f hf
        simp only [unw_F, List.mem_cons, List.not_mem_nil, or_false] at hf
        rcases hf with rfl | rfl | rfl | rfl | rfl | rfl | rfl | rfl | rfl | rfl | rfl | rfl | rfl | rfl | rfl | rfl <;> first | exact stable_val _ | exact stable_new | exact rdRow_stays
      · refine opsOk_cons ?_ ?_
        · intro K vs W' hR hD hK
          clear hD
          simp only [putAll, Nat.zero_add, Nat.reduceAdd, Act.put, List.setIfInBounds_toArray, List.set_cons_succ, List.set_cons_zero] at hK ⊢
          go_wp2
          exact hK _ _ rfl (Mod.refl _ _)
        refine opsOk_cons ?_ ?_
        · intro K vs W' hR hD hK
          have d0 : vs 0 = .slice a n c := hD 0 (by decide)
          clear hD
          simp only [putAll, Nat.zero_add, Nat.reduceAdd, Act.put, List.setIfInBounds_toArray, List.set_cons_succ, List.set_cons_zero] at hK ⊢
          generalize vs 0 = v0 at hK d0 ⊢
          subst d0
          go_wp2
          exact hK _ _ rfl (Mod.refl _ _)
        refine opsOk_cons ?_ ?_
        · intro K vs W' hR hD hK
          clear hD
          simp only [putAll, Nat.zero_add, Nat.reduceAdd, Act.put, List.setIfInBounds_toArray, List.set_cons_succ, List.set_cons_zero] at hK ⊢
          go_wp2
          exact hK _ _ rfl (Mod.refl _ _)
        refine opsOk_cons ?_ ?_
        · intro K vs W' hR hD hK
          have d2 : vs 2 = .int .i64 (L : Int) := hD 2 (by decide)
          clear hD
          simp only [putAll, Nat.zero_add, Nat.reduceAdd, Act.put, List.setIfInBounds_toArray, List.set_cons_succ, List.set_cons_zero] at hK ⊢
          generalize vs 2 = v2 at hK d2 ⊢
          subst d2
          go_wp2
          exact hK _ _ rfl (Mod.refl _ _)
        refine opsOk_cons ?_ ?_
        · intro K vs W' hR hD hK
          have d1 : vs 1 = .int .i64 (n : Int) := hD 1 (by decide)
          have d3 : vs 3 = .int .i64 ((L : Int) + 9) := hD 3 (by decide)
          clear hD
          simp only [putAll, Nat.zero_add, Nat.reduceAdd, Act.put, List.setIfInBounds_toArray, List.set_cons_succ, List.set_cons_zero] at hK ⊢
          generalize vs 1 = v1 at hK d1 ⊢
          subst d1
          generalize vs 3 = v3 at hK d3 ⊢
          subst d3
          go_wp2
          exact hK _ _ rfl (Mod.refl _ _)
        refine opsOk_cons ?_ ?_
        · intro K vs W' hR hD hK
          have d4 : vs 4 = .bool false := hD 4 (by decide)
          clear hD
          simp only [putAll, Nat.zero_add, Nat.reduceAdd, Act.put, List.setIfInBounds_toArray, List.set_cons_succ, List.set_cons_zero] at hK ⊢
          generalize vs 4 = v4 at hK d4 ⊢
          subst d4
          go_wp2
          exact hK _ _ rfl (Mod.refl _ _)
        refine opsOk_cons ?_ ?_
        · intro K vs W' hR hD hK
          have d5 : vs 5 = .bool false := hD 5 (by decide)
          clear hD
          simp only [putAll, Nat.zero_add, Nat.reduceAdd, Act.put, List.setIfInBounds_toArray, List.set_cons_succ, List.set_cons_zero] at hK ⊢
          generalize vs 5 = v5 at hK d5 ⊢
          subst d5
          go_wp2
          exact hK _ _ rfl (Mod.refl _ _)
        refine opsOk_cons ?_ ?_
        · intro K vs W' hR hD hK
          have d5 : vs 5 = .bool false := hD 5 (by decide)
          clear hD
          simp only [putAll, Nat.zero_add, Nat.reduceAdd, Act.put, List.setIfInBounds_toArray, List.set_cons_succ, List.set_cons_zero] at hK ⊢
          generalize vs 5 = v5 at hK d5 ⊢
          subst d5
          go_wp2
          exact hK _ _ rfl (Mod.refl _ _)
        refine opsOk_cons ?_ ?_
        · intro K vs W' hR hD hK
          have d5 : vs 5 = .bool false := hD 5 (by decide)
          have d7 : vs 7 = .int .i64 (L : Int) := hD 7 (by decide)
          clear hD
          simp only [putAll, Nat.zero_add, Nat.reduceAdd, Act.put, List.setIfInBounds_toArray, List.set_cons_succ, List.set_cons_zero] at hK ⊢
          generalize vs 5 = v5 at hK d5 ⊢
          subst d5
          generalize vs 7 = v7 at hK d7 ⊢
          subst d7
          go_wp2
          exact hK _ _ rfl (Mod.refl _ _)
        refine opsOk_cons ?_ ?_
        · intro K vs W' hR hD hK
          have d5 : vs 5 = .bool false := hD 5 (by decide)
          have d6 : vs 6 = .slice a n c := hD 6 (by decide)
          have d8 : vs 8 = .int .i64 (m : Int) := hD 8 (by decide)
          clear hD
          simp only [putAll, Nat.zero_add, Nat.reduceAdd, Act.put, List.setIfInBounds_toArray, List.set_cons_succ, List.set_cons_zero] at hK ⊢
          generalize vs 5 = v5 at hK d5 ⊢
          subst d5
          generalize vs 6 = v6 at hK d6 ⊢
          subst d6
          generalize vs 8 = v8 at hK d8 ⊢
          subst d8
          have hts' := HTS.out
          go_wp2
          exact hK _ _ rfl (Mod.refl _ _)
        refine opsOk_cons ?_ ?_
        · intro K vs W' hR hD hK
          have d5 : vs 5 = .bool false := hD 5 (by decide)
          have d9 : vs 9 = .slice a m c := hD 9 (by decide)
          clear hD
          simp only [putAll, Nat.zero_add, Nat.reduceAdd, Act.put, List.setIfInBounds_toArray, List.set_cons_succ, List.set_cons_zero] at hK ⊢
          generalize vs 5 = v5 at hK d5 ⊢
          subst d5
          generalize vs 9 = v9 at hK d9 ⊢
          subst d9
          go_wp2_with fail
          refine (summed_any W' a m c (b.take m) HTK.out (HRT.out.drew.keepA hR (fun _ _ e => e.elim)) HTB.out (by omega)).mono ?_
          rintro e' w5 ⟨a5, c5, rfl, ho5, hM5⟩
          have N9 : Hid (RdRow (m + 4) ((frL (b.take m)).map (Value.int .u8)) (.slice a5 (m + 4) c5) w5) := Lib.hid ⟨a5, c5, rfl, Rd.ofOwn ho5⟩
          have M9 := Lib.hid hM5
          clear ho5 hM5
          go_wp2
          exact hK _ _ N9.out M9.out
        refine opsOk_cons ?_ ?_
        · intro K vs W' hR hD hK
          have d5 : vs 5 = .bool false := hD 5 (by decide)
          have d10 : (RdRow (m + 4) ((frL (b.take m)).map (Value.int .u8))) (vs 10) W' := hD 10 (by decide)
          clear hD
          simp only [putAll, Nat.zero_add, Nat.reduceAdd, Act.put, List.setIfInBounds_toArray, List.set_cons_succ, List.set_cons_zero] at hK ⊢
          generalize vs 5 = v5 at hK d5 ⊢
          subst d5
          generalize vs 10 = v10 at hK d10 ⊢
          obtain ⟨a5, c5, rfl, hr5⟩ := d10
          have k1' := run_strS (P := Try.prog) W' 27 9 5 Try.underlying27 Try.underlying5 Try.underlying9 hr5
          rw [HX.out] at k1'
          clear hr5
          go_wp2
          exact hK _ _ rfl (Mod.refl _ _)
        refine opsOk_cons ?_ ?_
        · intro K vs W' hR hD hK
          have d5 : vs 5 = .bool false := hD 5 (by decide)
          clear hD
          simp only [putAll, Nat.zero_add, Nat.reduceAdd, Act.put, List.setIfInBounds_toArray, List.set_cons_succ, List.set_cons_zero] at hK ⊢
          generalize vs 5 = v5 at hK d5 ⊢
          subst d5
          go_wp2
          exact hK _ _ rfl (Mod.refl _ _)
        refine opsOk_cons ?_ ?_
        · intro K vs W' hR hD hK
          have d5 : vs 5 = .bool false := hD 5 (by decide)
          have d12 : vs 12 = .slice a n c := hD 12 (by decide)
          clear hD
          simp only [putAll, Nat.zero_add, Nat.reduceAdd, Act.put, List.setIfInBounds_toArray, List.set_cons_succ, List.set_cons_zero] at hK ⊢
          generalize vs 5 = v5 at hK d5 ⊢
          subst d5
          generalize vs 12 = v12 at hK d12 ⊢
          subst d12
          have k2' := run_strS (P := Try.prog) W' 27 9 5 Try.underlying27 Try.underlying5 Try.underlying9 (HRW.out.drew.keepA hR (fun _ _ e => e.elim))
          rw [HY.out] at k2'
          go_wp2
          exact hK _ _ rfl (Mod.refl _ _)
        refine opsOk_cons ?_ ?_
        · intro K vs W' hR hD hK
          have d5 : vs 5 = .bool false := hD 5 (by decide)
          have d11 : vs 11 = .string X := hD 11 (by decide)
          have d13 : vs 13 = .string Y := hD 13 (by decide)
          clear hD
          simp only [putAll, Nat.zero_add, Nat.reduceAdd, Act.put, List.setIfInBounds_toArray, List.set_cons_succ, List.set_cons_zero] at hK ⊢
          generalize vs 5 = v5 at hK d5 ⊢
          subst d5
          generalize vs 11 = v11 at hK d11 ⊢
          subst d11
          generalize vs 13 = v13 at hK d13 ⊢
          subst d13
          have hq' := HQ.out
          go_wp2
          exact hK _ _ rfl (Mod.refl _ _)
        refine opsOk_cons ?_ ?_
        · intro K vs W' hR hD hK
          have d5 : vs 5 = .bool false := hD 5 (by decide)
          have d14 : vs 14 = .bool q := hD 14 (by decide)
          clear hD
          simp only [putAll, Nat.zero_add, Nat.reduceAdd, Act.put, List.setIfInBounds_toArray, List.set_cons_succ, List.set_cons_zero] at hK ⊢
          generalize vs 5 = v5 at hK d5 ⊢
          subst d5
          generalize vs 14 = v14 at hK d14 ⊢
          subst d14
          go_wp2
          exact hK _ _ rfl (Mod.refl _ _)
        exact opsOk_nil
      · intro vs W' hR hF
        have d15 : vs 15 = .bool q := hF 15 (by decide)
        clear hF
        simp only [putAll, Nat.zero_add, Nat.reduceAdd, Act.put, List.setIfInBounds_toArray, List.set_cons_succ, List.set_cons_zero]
        generalize vs 15 = v15 at d15 ⊢
        subst d15
        have HRR := Lib.hid (HMD.out.trans ((Mod.drew (fun _ => False) W).trans hR (H := fun _ => False) (fun _ _ e => e) (fun _ _ e => e)) (H := fun _ => False) (fun _ _ e => e) (fun _ _ e => e))
        clear hR
        cases q with
        | true =>
          have hfr : ¬ frL (b.take m) = b := fun e => by
            have := HQ.out
            rw [← HX.out, ← HY.out, e] at this
            simp at this
          have hun : Hid (unS b = ((0, []), 2)) := Lib.hid (unS_bad (fun h => hfr (HFI.out.1 h)))
          have HFR := Lib.hid hfr
          clear hfr
          go_wp2_with fail
          go_ret3
          exact ⟨_, _, by rw [hun.out]; rfl, by rw [hun.out]; exact World.ownsRow_nil _ _ _ _, HRR.out⟩
        | false =>
          have hfr : frL (b.take m) = b := by
            by_cases e : frL (b.take m) = b
            · exact e
            · exfalso
              have hne : strOf (frL (b.take m)) ≠ strOf b := fun e' => e (strOf_inj3 HFB.out HB.out e')
              rw [HX.out, HY.out] at hne
              have hxy : (X.toList == Y.toList) = false := by rw [← beq_toListBytes]; exact bytes_beq_ne3 hne
              have := HQ.out
              rw [hxy] at this
              cases this
          have hframed := HFI.out.2 hfr
          have HF := Lib.hid hframed
          clear hfr hframed
          have c1 := HC.out W' HRR.out 1 (by omega)
          have c2 := HC.out W' HRR.out 2 (by omega)
          obtain ⟨x1, e1⟩ : ∃ x, b.getD 1 0 = x := ⟨_, rfl⟩
          obtain ⟨x2, e2⟩ : ∃ x, b.getD 2 0 = x := ⟨_, rfl⟩
          have r2 := hrng 2 (by omega)
          rw [e2] at c2 r2
          rw [e1] at c1
          have E1 := Lib.hid e1
          have E2 := Lib.hid e2
          have HRNG := Lib.hid hrng
          clear e1 e2 hrng
          by_cases hv : x1 = 3
          · subst hv
            by_cases hlg : 2000 < L
            · have hun : Hid (unS b = ((0, []), 2)) := Lib.hid (by unfold unS; rw [if_pos HF.out, if_pos E1.out, if_neg (by rw [HBN.out]; omega)])
              go_wp2_with fail
              go_ret3
              exact ⟨_, _, by rw [hun.out]; rfl, by rw [hun.out]; exact World.ownsRow_nil _ _ _ _, HRR.out⟩
            · have hun : Hid (unS b = ((x2, (b.drop 5).take (b.length - 9)), 0)) := Lib.hid (by unfold unS; rw [if_pos HF.out, if_pos E1.out, if_pos (by rw [HBN.out]; omega), E2.out])
              obtain ⟨xs, hxs⟩ : ∃ xs, (b.drop 5).take (b.length - 9) = xs := ⟨_, rfl⟩
              rw [hxs] at hun
              have hm5' : m ≤ n := by have := HLEN.out; omega
              have hxs2 : (b.take m).drop 5 = xs := by rw [← hxs, List.drop_take, HN.out]; congr 1; have := HLEN.out; omega
              have hxl : xs.length = L := by rw [← hxs, List.length_take, List.length_drop, HN.out]; have := HLEN.out; omega
              have HXL := Lib.hid hxl
              obtain ⟨B, hBd⟩ : ∃ B, w.heap.size = B := ⟨_, rfl⟩
              have HBD := Lib.hid hBd
              have HRX : Hid (∀ V, Mod (fun _ => False) W'.drew V → Rd V 1 (.slice (dropA a c 5 1) L (c - 5)) L (xs.map (Value.int .u8))) := Lib.hid fun V hm => by
                have h1 := ((HR.out.keepA (HRR.out.trans ((Mod.drew (fun _ => False) W').trans hm (H := fun _ => False) (fun _ _ e => e) (fun _ _ e => e)) (H := fun _ => False) (fun _ _ e => e) (fun _ _ e => e)) (fun _ _ e => e.elim)).take (n := m) hm5').drop (n := 5) (by omega)
                rw [Nat.mul_one, Nat.mul_one, ← List.map_take, ← List.map_drop, hxs2, show m - 5 = L by omega] at h1
                exact h1
              have HC2 : Hid (∀ V, Mod (fun _ => False) W'.drew V → V.cell? (elemA a 2 1) = some (.int .u8 x2)) := Lib.hid fun V hm => ((Mod.drew (fun _ => False) W').trans hm (H := fun _ => False) (fun _ _ e => e) (fun _ _ e => e)).cell c2 (fun e => e)
              have HBV : Hid (∀ V, Mod (fun _ => False) W'.drew V → B ≤ V.heap.size) := Lib.hid fun V hm => by rw [← hBd]; exact Nat.le_trans HRR.out.size ((Mod.drew (fun _ => False) W').trans hm (H := fun _ => False) (fun _ _ e => e) (fun _ _ e => e)).size
              have HMS : Hid (∀ wx, (Instr.slice 27 (.slice a n c) (some (.int .i64 5)) (some (.int .i64 (m : Int))) none).run Try.prog wx = .ok (.slice (dropA a c 5 1) L (c - 5)) wx) := Lib.hid fun wx => by
                have h1 := run_midS3 (P := Try.prog) wx 27 5 i0 1 Try.underlying27 hi hz1 a n c 5 m (by omega) hmc
                rw [show m - 5 = L by omega] at h1
                exact h1
              have HH1 : Hid (∀ u ∈ xs.map (Value.int .u8), u.oneCell' = true) := Lib.hid (by intro u hu; simp at hu; obtain ⟨x, _, rfl⟩ := hu; rfl)
              have HH2 : Hid (0 + L ≤ maxLen) := Lib.hid (by unfold maxLen; omega)
              have HH3 : Hid ((0 + L) * 1 ≤ 140737488355328) := Lib.hid (by omega)
              clear hxs hxs2 hxl hBd c2
              go_wp2_with fail
              refine wp_region_inv (Mod (fun _ => False)) (fun i => (unx_F B a n c L m x2 xs).getD i (fun _ _ => True)) (fun i => unx_D.getD i []) (by kernel_rfl) (by kernel_rfl) (by kernel_rfl) (by kernel_rfl) (fun _ => Mod.refl _ _)
                (fun _ _ _ h k => h.trans k (fun _ _ e => e) (fun _ _ e => e)) (stable_list ?_) ?_ ?_
              · intro f hf
                simp only [unx_F, List.mem_cons, List.not_mem_nil, or_false] at hf
                rcases hf with rfl | rfl | rfl | rfl | rfl | rfl | rfl | rfl | rfl | rfl | rfl | rfl | rfl <;> first | exact stable_val _ | exact stable_new | exact ownRow_stays | exact emptyRow_stays
              · refine opsOk_cons ?_ ?_
                · intro K vs V hR hD hK
                  clear hD
                  simp only [putAll, Nat.zero_add, Nat.reduceAdd, Act.put, List.setIfInBounds_toArray, List.set_cons_succ, List.set_cons_zero] at hK ⊢
                  go_wp2
                  exact hK _ _ rfl (Mod.refl _ _)
                refine opsOk_cons ?_ ?_
                · intro K vs V hR hD hK
                  have d0 : vs 0 = .slice a n c := hD 0 (by decide)
                  clear hD
                  simp only [putAll, Nat.zero_add, Nat.reduceAdd, Act.put, List.setIfInBounds_toArray, List.set_cons_succ, List.set_cons_zero] at hK ⊢
                  generalize vs 0 = v0 at hK d0 ⊢
                  subst d0
                  go_wp2
                  exact hK _ _ rfl (Mod.refl _ _)
                refine opsOk_cons ?_ ?_
                · intro K vs V hR hD hK
                  have d1 : vs 1 = .pointer (some (elemA a 2 1)) := hD 1 (by decide)
                  clear hD
                  simp only [putAll, Nat.zero_add, Nat.reduceAdd, Act.put, List.setIfInBounds_toArray, List.set_cons_succ, List.set_cons_zero] at hK ⊢
                  generalize vs 1 = v1 at hK d1 ⊢
                  subst d1
                  have c2 := HC2.out V hR
                  go_wp2
                  exact hK _ _ rfl (Mod.refl _ _)
                refine opsOk_cons ?_ ?_
                · intro K vs V hR hD hK
                  have d2 : vs 2 = .int .u8 x2 := hD 2 (by decide)
                  clear hD
                  simp only [putAll, Nat.zero_add, Nat.reduceAdd, Act.put, List.setIfInBounds_toArray, List.set_cons_succ, List.set_cons_zero] at hK ⊢
                  generalize vs 2 = v2 at hK d2 ⊢
                  subst d2
                  go_wp2
                  exact hK _ _ rfl (Mod.refl _ _)
                refine opsOk_cons ?_ ?_
                · intro K vs V hR hD hK
                  clear hD
                  simp only [putAll, Nat.zero_add, Nat.reduceAdd, Act.put, List.setIfInBounds_toArray, List.set_cons_succ, List.set_cons_zero] at hK ⊢
                  have hbv := HBV.out V hR
                  go_wp2
                  exact hK _ _ (emptyRow_new V hbv) (Mod.alloc _ _ _)
                refine opsOk_cons ?_ ?_
                · intro K vs V hR hD hK
                  clear hD
                  simp only [putAll, Nat.zero_add, Nat.reduceAdd, Act.put, List.setIfInBounds_toArray, List.set_cons_succ, List.set_cons_zero] at hK ⊢
                  go_wp2
                  exact hK _ _ rfl (Mod.refl _ _)
                refine opsOk_cons ?_ ?_
                · intro K vs V hR hD hK
                  clear hD
                  simp only [putAll, Nat.zero_add, Nat.reduceAdd, Act.put, List.setIfInBounds_toArray, List.set_cons_succ, List.set_cons_zero] at hK ⊢
                  go_wp2
                  exact hK _ _ rfl (Mod.refl _ _)
                refine opsOk_cons ?_ ?_
                · intro K vs V hR hD hK
                  have d6 : vs 6 = .int .i64 (L : Int) := hD 6 (by decide)
                  clear hD
                  simp only [putAll, Nat.zero_add, Nat.reduceAdd, Act.put, List.setIfInBounds_toArray, List.set_cons_succ, List.set_cons_zero] at hK ⊢
                  generalize vs 6 = v6 at hK d6 ⊢
                  subst d6
                  go_wp2
                  exact hK _ _ rfl (Mod.refl _ _)
                refine opsOk_cons ?_ ?_
                · intro K vs V hR hD hK
                  have d5 : vs 5 = .slice a n c := hD 5 (by decide)
                  have d7 : vs 7 = .int .i64 (m : Int) := hD 7 (by decide)
                  clear hD
                  simp only [putAll, Nat.zero_add, Nat.reduceAdd, Act.put, List.setIfInBounds_toArray, List.set_cons_succ, List.set_cons_zero] at hK ⊢
                  generalize vs 5 = v5 at hK d5 ⊢
                  subst d5
                  generalize vs 7 = v7 at hK d7 ⊢
                  subst d7
                  have hms' := HMS.out
                  go_wp2
                  exact hK _ _ rfl (Mod.refl _ _)
                refine opsOk_cons ?_ ?_
                · intro K vs V hR hD hK
                  have d4 : (EmptyRow B) (vs 4) V := hD 4 (by decide)
                  have d8 : vs 8 = .slice (dropA a c 5 1) L (c - 5) := hD 8 (by decide)
                  clear hD
                  simp only [putAll, Nat.zero_add, Nat.reduceAdd, Act.put, List.setIfInBounds_toArray, List.set_cons_succ, List.set_cons_zero] at hK ⊢
                  generalize vs 4 = v4 at hK d4 ⊢
                  generalize vs 8 = v8 at hK d8 ⊢
                  subst d8
                  obtain ⟨g4, rfl, ho4⟩ := d4
                  have hrx := HRX.out V hR
                  have hbv := HBV.out V hR
                  go_wp2_with (at_builtin; refine wpList_append_any rfl (.tmp 51) (.tmp 55) 27 rfl 5 i0 (.int .u8 0) 1 1 Try.underlying27 hi hz0 hz1 hz2 rfl (by decide) _ 0 [] rfl (Own.base ho4 (Nat.zero_le _)) _ L (xs.map (Value.int .u8)) rfl hrx HH1.out HH2.out HH3.out ?_; intro v5 w5 hap)
                  obtain ⟨N9, M9⟩ := own_appended hbv ho4 hap
                  have HN9 := Lib.hid N9
                  have HM9 := Lib.hid M9
                  clear N9 M9 hap ho4 hrx
                  first | exact hK _ _ HN9.out HM9.out | (go_wp2; exact hK _ _ HN9.out HM9.out)
                refine opsOk_cons ?_ ?_
                · intro K vs V hR hD hK
                  have d3 : vs 3 = .int .i64 x2 := hD 3 (by decide)
                  clear hD
                  simp only [putAll, Nat.zero_add, Nat.reduceAdd, Act.put, List.setIfInBounds_toArray, List.set_cons_succ, List.set_cons_zero] at hK ⊢
                  generalize vs 3 = v3 at hK d3 ⊢
                  subst d3
                  go_wp2
                  exact hK _ _ rfl (Mod.refl _ _)
                refine opsOk_cons ?_ ?_
                · intro K vs V hR hD hK
                  have d9 : (OwnRow B L (xs.map (Value.int .u8))) (vs 9) V := hD 9 (by decide)
                  clear hD
                  simp only [putAll, Nat.zero_add, Nat.reduceAdd, Act.put, List.setIfInBounds_toArray, List.set_cons_succ, List.set_cons_zero] at hK ⊢
                  generalize vs 9 = v9 at hK d9 ⊢
                  obtain ⟨a4, c4, rfl, ho4⟩ := d9
                  have N9 : Hid (OwnRow B L (xs.map (Value.int .u8)) (.slice a4 L c4) V) := Lib.hid ⟨_, _, rfl, ho4⟩
                  clear ho4
                  go_wp2
                  exact hK _ _ N9.out (Mod.refl _ _)
                refine opsOk_cons ?_ ?_
                · intro K vs V hR hD hK
                  clear hD
                  simp only [putAll, Nat.zero_add, Nat.reduceAdd, Act.put, List.setIfInBounds_toArray, List.set_cons_succ, List.set_cons_zero] at hK ⊢
                  go_wp2
                  exact hK _ _ rfl (Mod.refl _ _)
                exact opsOk_nil
              · intro vs V hR hF
                have d10 : vs 10 = .int .i64 x2 := hF 10 (by decide)
                have d11 : (OwnRow B L (xs.map (Value.int .u8))) (vs 11) V := hF 11 (by decide)
                have d12 : vs 12 = .int .i64 0 := hF 12 (by decide)
                clear hF
                simp only [putAll, Nat.zero_add, Nat.reduceAdd, Act.put, List.setIfInBounds_toArray, List.set_cons_succ, List.set_cons_zero]
                generalize vs 10 = v10 at d10 ⊢
                generalize vs 11 = v11 at d11 ⊢
                generalize vs 12 = v12 at d12 ⊢
                subst d10 d12
                obtain ⟨a9, c9, rfl, ho9⟩ := d11
                have HO9 := Lib.hid ho9
                have HMF := Lib.hid (HRR.out.trans ((Mod.drew (fun _ => False) W').trans hR (H := fun _ => False) (fun _ _ e => e) (fun _ _ e => e)) (H := fun _ => False) (fun _ _ e => e) (fun _ _ e => e))
                clear ho9 hR
                go_wp2_with fail
                go_ret3
                refine ⟨a9, c9, by rw [hun.out]; show _ = Ending.returned (.tuple #[_, .slice a9 xs.length c9, _]); rw [HXL.out]; rfl, ?_, HMF.out⟩
                rw [hun.out]
                unfold Fresh
                show World.ownsRow _ _ _ _ (.slice a9 xs.length c9) xs.length _
                rw [HXL.out, HBD.out]
                exact HO9.out
          · have g1 : (x1 != 3) = true := by simpa using hv
            have g2 : (x1 == 3) = false := by simpa using hv
            have hun : Hid (unS b = ((0, []), 3)) := Lib.hid (by unfold unS; rw [if_pos HF.out, if_neg (by rw [E1.out]; exact hv)])
            go_wp2_with fail
            go_ret3
            exact ⟨_, _, by rw [hun.out]; rfl, by rw [hun.out]; exact World.ownsRow_nil _ _ _ _, HRR.out⟩
    · have z1 : ((n : Int) != (L : Int) + 9) = true := by simp; omega
      have z2 : ((n : Int) == (L : Int) + 9) = false := by simp; omega
      have hun : Hid (unS b = ((0, []), 2)) := Lib.hid (unS_bad (fun h => hlen (by have := h.1.2; rw [HBN.out, HN.out] at this; omega)))
      have HMD := Lib.hid hMD
      have HLN := Lib.hid hlen
      clear hMD c1 c2 hlen
      go_wp2_with fail
      go_quiet (fail)
      go_wp2_with fail
      go_ret3
      exact ⟨_, _, by rw [hun.out]; rfl, by rw [hun.out]; exact World.ownsRow_nil _ _ _ _, HMD.out.trans (Mod.drewN _ _ _) (fun _ _ e => e) (fun _ _ e => e)⟩
  · have hun : Hid (unS b = ((0, []), 2)) := Lib.hid (unS_bad (fun h => h0 h.2.1))
    obtain ⟨x0, e0⟩ : ∃ x, b.getD 0 0 = x := ⟨_, rfl⟩
    rw [e0] at c0 h0
    have g1 : (x0 != 77) = true := by simpa using h0
    have g2 : (x0 == 77) = false := by simpa using h0
    clear hrng e0 h0
    go_enter Try.func38, Try.ntmps38
    go_wp2_with fail
    go_ret3
    exact ⟨_, _, by rw [hun.out]; rfl, by rw [hun.out]; exact World.ownsRow_nil _ _ _ _, Mod.refl _ _⟩
end Go.Proofs.Ytabfmnlpipbegaa
