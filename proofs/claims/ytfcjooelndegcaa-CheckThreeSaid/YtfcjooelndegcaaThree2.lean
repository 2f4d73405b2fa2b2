/- The law CheckThree, walked. -/
import Derived.Test.YtfcjooelndegcaaAwake2
import Derived.Test.YtfcjooelndegcaaOpens
import Derived.Test.YtfcjooelndegcaaRegion
import Derived.Laws.OwnMore
import Derived.BigRegion
import Derived.Outline
namespace Mile
open Go Go.RowKit

theorem opens_array3 {α : Type} {P : Program} {t e : TypeId} {E : Enc α} (ht : P.underlying t = some (.array 3 e)) (hc : P.cellsOf t = E.cells + (E.cells + E.cells)) (hce : P.cellsOf e = E.cells) (hE : Opens P e E) : Opens P t (encPair E (encPair E E)) := by
  intro H enc w base spare held fuel cs x h
  obtain ⟨xs, m, _, _, hl, hxl, hf⟩ := DataW.trod_array ht h
  have h0 := hf 0 (by omega)
  have h1 := hf 1 (by omega)
  have h2 := hf 2 (by omega)
  rw [List.getElem?_eq_getElem (show 0 < xs.length by omega)] at h0
  rw [List.getElem?_eq_getElem (show 1 < xs.length by omega)] at h1
  rw [List.getElem?_eq_getElem (show 2 < xs.length by omega)] at h2
  rw [hce] at h0 h1 h2
  obtain ⟨a, ha, hoka⟩ := hE H enc w base spare held m _ _ h0
  obtain ⟨b, hb, hokb⟩ := hE H enc w base spare held m _ _ h1
  obtain ⟨c, hc', hokc⟩ := hE H enc w base spare held m _ _ h2
  refine ⟨(a, b, c), ?_, hoka, hokb, hokc⟩
  show cs = E.img a ++ (E.img b ++ E.img c)
  rw [← ha, ← hb, ← hc']
  simp only [Nat.zero_mul, List.drop_zero, Nat.one_mul]
  rw [List.take_of_length_le (show (cs.drop (2 * E.cells)).length ≤ E.cells by rw [List.length_drop]; omega), show 2 * E.cells = E.cells + E.cells by omega, ← List.drop_drop, List.take_append_drop, List.take_append_drop]

theorem bytes_beq_ne {a b : ByteArray} (h : a ≠ b) : (a == b) = false := by
  cases a with
  | mk x =>
    cases b with
    | mk y =>
      show (x == y) = false
      rw [beq_eq_false_iff_ne]
      intro e; exact h (by rw [e])
theorem strOf_inj {cs bs : List Int} (hc : ∀ x ∈ cs, 0 ≤ x ∧ x < 256) (hb : ∀ x ∈ bs, 0 ≤ x ∧ x < 256) (h : strOf cs = strOf bs) : cs = bs := by
  have key : ∀ (l : List Int) (r : ByteArray), (l.foldl (fun r n => r.push (UInt8.ofNat n.toNat)) r).data.toList = r.data.toList ++ l.map (fun n => UInt8.ofNat n.toNat) := by
    intro l
    induction l with
    | nil => intro r; simp
    | cons n l ih => intro r; rw [List.foldl_cons, ih]; simp
  have e1 := key cs ByteArray.empty
  have e2 := key bs ByteArray.empty
  have h' : (cs.foldl (fun r n => r.push (UInt8.ofNat n.toNat)) ByteArray.empty).data.toList = (bs.foldl (fun r n => r.push (UInt8.ofNat n.toNat)) ByteArray.empty).data.toList := by
    have : strOf cs = strOf bs := h
    unfold strOf at this; rw [this]
  rw [e1, e2, List.append_cancel_left_eq] at h'
  clear e1 e2 h key
  induction cs generalizing bs with
  | nil => cases bs with
    | nil => rfl
    | cons b bs => simp at h'
  | cons c cs ih =>
    cases bs with
    | nil => simp at h'
    | cons b bs =>
      simp only [List.map_cons, List.cons.injEq] at h'
      have h1 := hc c (by simp)
      have h2 := hb b (by simp)
      have h3 := congrArg UInt8.toNat h'.1
      simp at h3
      rw [ih (fun x hx => hc x (by simp [hx])) (fun x hx => hb x (by simp [hx])) h'.2, show c = b by omega]

end Mile
namespace Go.Proofs.Ytfcjooelndegcaa
open Go.RowKit Mile

theorem opens_three : Opens Try.prog 31 (encPair (encInt .i64) (encPair (encInt .i64) (encInt .i64))) := opens_array3 Try.underlying31 (by kernel_rfl) (by kernel_rfl) (opens_int Try.underlying3)

/-- What each operation of the statement leaves. -/
def three_F (a : Option Addr) (n c g c3 : Nat) (cs bs : List Int) : List (Value → World → Prop) :=
  [IsV (.slice (some ⟨g, 0, none⟩) n c3),
   (NewRow 1 [.slice (some ⟨g, 0, none⟩) n c3]),
   IsV (.int .u32 ((csum cs).toNat : Int)),
   IsV (.slice a n c),
   (NewRow 1 [.slice a n c]),
   IsV (.int .u32 ((csum bs).toNat : Int)),
   IsV (.bool false),
   IsV (.slice (some ⟨g, 0, none⟩) n c3),
   IsV (.string (strOf cs)),
   IsV (.slice a n c),
   IsV (.string (strOf bs)),
   IsV (.bool false),
   IsV (.bool true),
   IsV (.bool true),
   IsV (.bool true),
   IsV (.bool true),
   IsV (.bool true)]
def three_D : List (List Nat) := [[], [0], [1], [], [3], [4], [2, 5], [], [7], [], [9], [8, 10], [6, 11], [12], [13], [13, 14], [15]]

set_option maxHeartbeats 4000000 in
set_option maxRecDepth 100000 in
theorem three_walk (w : World) (a : Option Addr) (n c : Nat) (bs : List Int) (hn : bs.length = n) (hr : Rd w 1 (.slice a n c) n (bs.map (Value.int .u8))) (hb : ∀ x ∈ bs, 0 ≤ x ∧ x < 256) (x y z : Int) :
    Calls Try.prog 4 #[.slice a n c, .agg #[.int .i64 x, .int .i64 y, .int .i64 z]] w fun e w' => e = .returned (.bool true) ∧ Mod (fun _ => False) w w' := by
  obtain ⟨i0, hi, hz0, hz1, hz2⟩ := info_parts Chk.info5
  have HN := Lib.hid hn
  clear hn
  by_cases hsmall : n < 1 ∨ 500 < n
  · by_cases h1 : n < 1
    · go_enter Try.func4, Try.ntmps4
      go_wp2_with fail
      refine (awake_any _).mono ?_
      rintro e w9 ⟨rfl, hM9⟩
      go_wp2
      go_ret
      exact ⟨rfl, (Mod.alloc _ w _).trans hM9 (fun _ _ e => e) (fun _ _ e => e)⟩
    · have h2 : 500 < n := by omega
      go_enter Try.func4, Try.ntmps4
      go_wp2_with fail
      refine (awake_any _).mono ?_
      rintro e w9 ⟨rfl, hM9⟩
      go_wp2
      go_ret
      exact ⟨rfl, (Mod.alloc _ w _).trans hM9 (fun _ _ e => e) (fun _ _ e => e)⟩
  have q1 : 1 ≤ n := by omega
  have q2 : n ≤ 500 := by omega
  clear hsmall
  have hap1 : 0 + n ≤ maxLen := by unfold maxLen; omega
  have hap2 : (0 + n) * 1 ≤ 140737488355328 := by omega
  have h1c : ∀ u ∈ bs.map (Value.int .u8), u.oneCell' = true := by intro u hu; simp at hu; obtain ⟨x, _, rfl⟩ := hu; rfl
  go_enter Try.func4, Try.ntmps4
  go_wp2_with (at_builtin; refine wpList_append_any rfl (.tmp 17) (.tmp 18) 22 rfl 5 i0 (.int .u8 0) 1 1 Try.underlying22 hi hz0 hz1 hz2 rfl (by decide) _ 0 [] rfl (own_empty _ _ _ _ (by simp)) _ n (bs.map (Value.int .u8)) rfl ((hr.alloc _).alloc _) h1c hap1 hap2 ?_; intro v' w' hap; obtain ⟨a3, c3, rfl⟩ := hap.form)
  obtain ⟨g, hg, hgl⟩ : ∃ g, a3 = some ⟨g, 0, none⟩ ∧ w.heap.size + 1 ≤ g := by
    have ho := hap.own
    rcases ho.2 with ⟨h, _⟩ | ⟨g, cap, cur, h, _⟩
    · have h := congrArg (fun v => match v with | Value.slice _ k _ => k | _ => 0) h
      simp at h; omega
    · cases h
      refine ⟨g, rfl, ?_⟩
      rcases hap.row g rfl with h | h
      · have : w.heap.size + 1 = g := Option.some.inj h
        omega
      · simp at h; omega
  subst hg
  have hown := hap.own
  simp only [Nat.zero_add, List.nil_append] at hown
  have hM := (((Mod.refl (fun _ => False) w).thenAlloc (.cells #[.int .i64 x, .int .i64 y, .int .i64 z] 31)).thenAlloc (.cells #[] 5)).trans hap.mod (H := fun _ => False) (fun _ _ e => e) (fun i hi e => by
    have : w.heap.size + 1 = i := Option.some.inj e
    omega)
  have hbox : Blk w' w.heap.size 31 [.int .i64 x, .int .i64 y, .int .i64 z] := ((Blk.new w 31 [.int .i64 x, .int .i64 y, .int .i64 z]).alloc _).keep hap.mod (fun e => by
    have : w.heap.size + 1 = w.heap.size := Option.some.inj e
    omega)
  clear hap
  go_loopw [6, 7] (fun i _ wr => ∃ (j : Nat) (cs : List Int), j ≤ 3 ∧ i = .int .i64 j ∧ wr.ownsRow 0 5 1 (.slice (some ⟨g, 0, none⟩) n c3) n (cs.map (Value.int .u8)) ∧ (∀ x ∈ cs, 0 ≤ x ∧ x < 256) ∧ parL cs = (parL bs ^^ (j % 2 == 1)) ∧
      Blk wr w.heap.size 31 [.int .i64 x, .int .i64 y, .int .i64 z] ∧ Mod (fun _ => False) w wr) (fun i _ _ => 3 - (intOf i).toNat)
  case atStart => exact ⟨0, bs, by omega, rfl, hown, hb, by simp, hbox, hM⟩
  case round =>
    clear hown hM hbox
    obtain ⟨j, cs, hj, rfl, hown, hcb, hpar, hbox, hM⟩ := hrel
    have HP := Lib.hid hpar
    clear hpar
    have hcl : cs.length = n := by have := hown.1; simpa using this
    have HCL := Lib.hid hcl
    clear hcl
    by_cases hlt : j < 3
    · obtain ⟨u, hu⟩ : ∃ u, wr.cell? ⟨w.heap.size, j, none⟩ = some (.int .i64 u) := by
        have : j = 0 ∨ j = 1 ∨ j = 2 := by omega
        rcases this with rfl | rfl | rfl
        · exact ⟨x, hbox.cell 0 rfl⟩
        · exact ⟨y, hbox.cell 1 rfl⟩
        · exact ⟨z, hbox.cell 2 rfl⟩
      have hmod := Int.emod_nonneg u (show (8 * (n : Int)) ≠ 0 by omega)
      have hmod2 := Int.emod_lt_of_pos u (show 0 < (8 * (n : Int)) by omega)
      obtain ⟨m, hm⟩ := Int.eq_ofNat_of_zero_le hmod
      have hmn : m < 8 * n := by omega
      have HM := Lib.hid hm
      clear hmod hmod2 hm
      obtain ⟨q, hq⟩ : ∃ q, m / 8 = q := ⟨_, rfl⟩
      obtain ⟨r, hr8⟩ : ∃ r, m % 8 = r := ⟨_, rfl⟩
      have hqn : q < n := by omega
      have hrl : r < 8 := by omega
      have hql : q < cs.length := by rw [HCL.out]; exact hqn
      have hq' : (m : Int) / 8 = (q : Int) := by omega
      have hr' : (m : Int) % 8 = (r : Int) := by omega
      clear hq hr8
      have hst := hown.stored q (.int .u8 (bxor cs[q] (2 ^ r)))
      have hpt := Lib.hid (parL_turn cs q r hql hrl hcb)
      have hbt := bytes_set hcb q cs[q] (2 ^ r)
      have c1 : wr.cell? ⟨g, q, none⟩ = some (.int .u8 cs[q]) := by rw [hown.cellAt q (by omega)]; simp [hql]
      have c2 := hown.frozenAt q
      obtain ⟨e, he⟩ : ∃ e, cs[q] = e := ⟨_, rfl⟩
      rw [he] at hst hpt hbt c1
      clear he
      go_wp2_with fail
      refine (round_any _ _ _ (by omega) (by omega)).mono ?_
      rintro e' w' ⟨rfl, rfl⟩
      rw [HM.out]
      have hx : Hid (bits .xor .u8 e (2 ^ r % 256) = bxor e (2 ^ r)) := by
        refine Lib.hid ?_
        rw [bxor_bits]
        congr 1
        have : r = 0 ∨ r = 1 ∨ r = 2 ∨ r = 3 ∨ r = 4 ∨ r = 5 ∨ r = 6 ∨ r = 7 := by omega
        rcases this with rfl | rfl | rfl | rfl | rfl | rfl | rfl | rfl <;> decide
      have hst1 := Lib.hid hst.1
      have hst2 := hM.trans (Mod.ofGrown hst.2) (H := fun _ => False) (fun _ _ e => e) (fun i hi e => by
        have : g = i := Option.some.inj e
        have := hM.size
        omega)
      have hbx2 := hbox.setOther ⟨g, q, none⟩ (.int .u8 (bxor e (2 ^ r))) (by show w.heap.size ≠ g; omega)
      clear hst
      go_wp2_with fail
      go_region
      go_wp2
      go_roundw
      case rel =>
        rw [hx.out]
        refine ⟨j + 1, cs.set q (bxor e (2 ^ r)), hlt, by go_num, ?_, hbt, ?_, hbx2.drew, hst2.thenDrew⟩
        · rw [List.map_set]; exact World.ownsRow.drew hst1.out
        · rw [hpt.out, HP.out]
          have : j = 0 ∨ j = 1 ∨ j = 2 := by omega
          rcases this with rfl | rfl | rfl <;> cases parL bs <;> rfl
      case measure => simp [intOf]; omega
    · obtain rfl : j = 3 := by omega
      have hne : parL cs ≠ parL bs := by rw [HP.out]; cases parL bs <;> decide
      have hs1 := csum_ne hne
      have e1 : (((csum cs).toNat : Int) == ((csum bs).toNat : Int)) = false := by
        rw [beq_eq_false_iff_ne]
        intro h
        exact hs1 (BitVec.eq_of_toNat_eq (by omega))
      have e2 : (strOf cs == strOf bs) = false := by
        exact bytes_beq_ne (fun h => hne (by rw [strOf_inj hcb hb h]))
      have hRC : ∀ W, Mod (fun _ => False) wr W → Rd W 1 (.slice (some ⟨g, 0, none⟩) n c3) n (cs.map (Value.int .u8)) := fun W h => (Rd.ofOwn hown).keepA h (fun _ _ e => e.elim)
      have hRB : ∀ W, Mod (fun _ => False) wr W → Rd W 1 (.slice a n c) n (bs.map (Value.int .u8)) := fun W h => (hr.keepA hM (fun _ _ e => e.elim)).keepA h (fun _ _ e => e.elim)
      have HRC := Lib.hid hRC
      have HRB := Lib.hid hRB
      have HE1 := Lib.hid e1
      have HE2 := Lib.hid e2
      clear hRC hRB hne hs1 e1 e2 hown
      go_wp2_with fail
      refine wp_region_inv (Mod (fun _ => False)) (fun i => (three_F a n c g c3 cs bs).getD i (fun _ _ => True)) (fun i => three_D.getD i []) (by kernel_rfl) (by kernel_rfl) (by kernel_rfl) (by kernel_rfl) (fun _ => Mod.refl _ _)
        (fun _ _ _ h k => h.trans k (fun _ _ e => e) (fun _ _ e => e)) (stable_list ?_) ?_ ?_
      · intro f hf
        simp only [three_F, List.mem_cons, List.not_mem_nil, or_false] at hf
        rcases hf with rfl | rfl | rfl | rfl | rfl | rfl | rfl | rfl | rfl | rfl | rfl | rfl | rfl | rfl | rfl | rfl | rfl <;> first | exact stable_val _ | exact stable_new
      · refine opsOk_cons ?_ ?_
        · intro K vs W hR hD hK
          clear hD
          simp only [putAll, Nat.zero_add, Nat.reduceAdd, Act.put, List.setIfInBounds_toArray, List.set_cons_succ, List.set_cons_zero] at hK ⊢
          go_wp2
          exact hK _ _ rfl (Mod.refl _ _)
        refine opsOk_cons ?_ ?_
        · intro K vs W hR hD hK
          have d0 : vs 0 = .slice (some ⟨g, 0, none⟩) n c3 := hD 0 (by decide)
          clear hD
          simp only [putAll, Nat.zero_add, Nat.reduceAdd, Act.put, List.setIfInBounds_toArray, List.set_cons_succ, List.set_cons_zero] at hK ⊢
          generalize vs 0 = v0 at hK d0 ⊢
          subst d0
          go_wp2
          exact hK _ _ ⟨_, rfl, Rd.lit _ [.slice (some ⟨g, 0, none⟩) n c3] _ _ 1 rfl rfl (by omega)⟩ (Mod.alloc _ _ _)
        refine opsOk_cons ?_ ?_
        · intro K vs W hR hD hK
          have d1 : (NewRow 1 [.slice (some ⟨g, 0, none⟩) n c3]) (vs 1) W := hD 1 (by decide)
          clear hD
          simp only [putAll, Nat.zero_add, Nat.reduceAdd, Act.put, List.setIfInBounds_toArray, List.set_cons_succ, List.set_cons_zero] at hK ⊢
          generalize vs 1 = v1 at hK d1 ⊢
          obtain ⟨p, rfl, hr1⟩ := d1
          go_wp2_with fail
          refine (sum_any _ 1 1 _ _ rfl (Parts.one hr1 (by rw [HCL.out]; exact HRC.out _ ((Mod.drew _ _).trans hR (fun _ _ e => e) (fun _ _ e => e))) hcb)).mono ?_
          rintro e' w' ⟨rfl, rfl⟩
          rw [show flat [(.slice (some ⟨g, 0, none⟩) n c3, cs)] = cs by simp [flat]]
          go_wp2
          exact hK _ _ rfl (Mod.refl _ _)
        refine opsOk_cons ?_ ?_
        · intro K vs W hR hD hK
          clear hD
          simp only [putAll, Nat.zero_add, Nat.reduceAdd, Act.put, List.setIfInBounds_toArray, List.set_cons_succ, List.set_cons_zero] at hK ⊢
          go_wp2
          exact hK _ _ rfl (Mod.refl _ _)
        refine opsOk_cons ?_ ?_
        · intro K vs W hR hD hK
          have d3 : vs 3 = .slice a n c := hD 3 (by decide)
          clear hD
          simp only [putAll, Nat.zero_add, Nat.reduceAdd, Act.put, List.setIfInBounds_toArray, List.set_cons_succ, List.set_cons_zero] at hK ⊢
          generalize vs 3 = v3 at hK d3 ⊢
          subst d3
          go_wp2
          exact hK _ _ ⟨_, rfl, Rd.lit _ [.slice a n c] _ _ 1 rfl rfl (by omega)⟩ (Mod.alloc _ _ _)
        refine opsOk_cons ?_ ?_
        · intro K vs W hR hD hK
          have d4 : (NewRow 1 [.slice a n c]) (vs 4) W := hD 4 (by decide)
          clear hD
          simp only [putAll, Nat.zero_add, Nat.reduceAdd, Act.put, List.setIfInBounds_toArray, List.set_cons_succ, List.set_cons_zero] at hK ⊢
          generalize vs 4 = v4 at hK d4 ⊢
          obtain ⟨p, rfl, hr1⟩ := d4
          go_wp2_with fail
          refine (sum_any _ 1 1 _ _ rfl (Parts.one hr1 (by rw [HN.out]; exact HRB.out _ ((Mod.drew _ _).trans hR (fun _ _ e => e) (fun _ _ e => e))) hb)).mono ?_
          rintro e' w' ⟨rfl, rfl⟩
          rw [show flat [(.slice a n c, bs)] = bs by simp [flat]]
          go_wp2
          exact hK _ _ rfl (Mod.refl _ _)
        refine opsOk_cons ?_ ?_
        · intro K vs W hR hD hK
          have d2 : vs 2 = .int .u32 ((csum cs).toNat : Int) := hD 2 (by decide)
          have d5 : vs 5 = .int .u32 ((csum bs).toNat : Int) := hD 5 (by decide)
          clear hD
          simp only [putAll, Nat.zero_add, Nat.reduceAdd, Act.put, List.setIfInBounds_toArray, List.set_cons_succ, List.set_cons_zero] at hK ⊢
          generalize vs 2 = v2 at hK d2 ⊢
          subst d2
          generalize vs 5 = v5 at hK d5 ⊢
          subst d5
          have e1 := HE1.out
          go_wp2
          exact hK _ _ rfl (Mod.refl _ _)
        refine opsOk_cons ?_ ?_
        · intro K vs W hR hD hK
          clear hD
          simp only [putAll, Nat.zero_add, Nat.reduceAdd, Act.put, List.setIfInBounds_toArray, List.set_cons_succ, List.set_cons_zero] at hK ⊢
          go_wp2
          exact hK _ _ rfl (Mod.refl _ _)
        refine opsOk_cons ?_ ?_
        · intro K vs W hR hD hK
          have d7 : vs 7 = .slice (some ⟨g, 0, none⟩) n c3 := hD 7 (by decide)
          clear hD
          simp only [putAll, Nat.zero_add, Nat.reduceAdd, Act.put, List.setIfInBounds_toArray, List.set_cons_succ, List.set_cons_zero] at hK ⊢
          generalize vs 7 = v7 at hK d7 ⊢
          subst d7
          have k1 := run_strS (P := Try.prog) W 22 9 5 Try.underlying22 Try.underlying5 Try.underlying9 (HRC.out _ ((Mod.drew _ _).trans hR (fun _ _ e => e) (fun _ _ e => e)))
          go_wp2
          exact hK _ _ rfl (Mod.refl _ _)
        refine opsOk_cons ?_ ?_
        · intro K vs W hR hD hK
          clear hD
          simp only [putAll, Nat.zero_add, Nat.reduceAdd, Act.put, List.setIfInBounds_toArray, List.set_cons_succ, List.set_cons_zero] at hK ⊢
          go_wp2
          exact hK _ _ rfl (Mod.refl _ _)
        refine opsOk_cons ?_ ?_
        · intro K vs W hR hD hK
          have d9 : vs 9 = .slice a n c := hD 9 (by decide)
          clear hD
          simp only [putAll, Nat.zero_add, Nat.reduceAdd, Act.put, List.setIfInBounds_toArray, List.set_cons_succ, List.set_cons_zero] at hK ⊢
          generalize vs 9 = v9 at hK d9 ⊢
          subst d9
          have k1 := run_strS (P := Try.prog) W 22 9 5 Try.underlying22 Try.underlying5 Try.underlying9 (HRB.out _ ((Mod.drew _ _).trans hR (fun _ _ e => e) (fun _ _ e => e)))
          go_wp2
          exact hK _ _ rfl (Mod.refl _ _)
        refine opsOk_cons ?_ ?_
        · intro K vs W hR hD hK
          have d8 : vs 8 = .string (strOf cs) := hD 8 (by decide)
          have d10 : vs 10 = .string (strOf bs) := hD 10 (by decide)
          clear hD
          simp only [putAll, Nat.zero_add, Nat.reduceAdd, Act.put, List.setIfInBounds_toArray, List.set_cons_succ, List.set_cons_zero] at hK ⊢
          generalize vs 8 = v8 at hK d8 ⊢
          subst d8
          generalize vs 10 = v10 at hK d10 ⊢
          subst d10
          have e2 : ((strOf cs).toList == (strOf bs).toList) = false := by rw [← beq_toListBytes]; exact HE2.out
          go_wp2
          exact hK _ _ rfl (Mod.refl _ _)
        refine opsOk_cons ?_ ?_
        · intro K vs W hR hD hK
          have d6 : vs 6 = .bool false := hD 6 (by decide)
          have d11 : vs 11 = .bool false := hD 11 (by decide)
          clear hD
          simp only [putAll, Nat.zero_add, Nat.reduceAdd, Act.put, List.setIfInBounds_toArray, List.set_cons_succ, List.set_cons_zero] at hK ⊢
          generalize vs 6 = v6 at hK d6 ⊢
          subst d6
          generalize vs 11 = v11 at hK d11 ⊢
          subst d11
          go_wp2
          exact hK _ _ rfl (Mod.refl _ _)
        refine opsOk_cons ?_ ?_
        · intro K vs W hR hD hK
          have d12 : vs 12 = .bool true := hD 12 (by decide)
          clear hD
          simp only [putAll, Nat.zero_add, Nat.reduceAdd, Act.put, List.setIfInBounds_toArray, List.set_cons_succ, List.set_cons_zero] at hK ⊢
          generalize vs 12 = v12 at hK d12 ⊢
          subst d12
          go_wp2
          exact hK _ _ rfl (Mod.refl _ _)
        refine opsOk_cons ?_ ?_
        · intro K vs W hR hD hK
          have d13 : vs 13 = .bool true := hD 13 (by decide)
          clear hD
          simp only [putAll, Nat.zero_add, Nat.reduceAdd, Act.put, List.setIfInBounds_toArray, List.set_cons_succ, List.set_cons_zero] at hK ⊢
          generalize vs 13 = v13 at hK d13 ⊢
          subst d13
          go_wp2_with fail
          refine (awake_any _).mono ?_
          rintro e' w' ⟨rfl, hM9⟩
          go_wp2
          exact hK _ _ rfl hM9
        refine opsOk_cons ?_ ?_
        · intro K vs W hR hD hK
          have d13 : vs 13 = .bool true := hD 13 (by decide)
          have d14 : vs 14 = .bool true := hD 14 (by decide)
          clear hD
          simp only [putAll, Nat.zero_add, Nat.reduceAdd, Act.put, List.setIfInBounds_toArray, List.set_cons_succ, List.set_cons_zero] at hK ⊢
          generalize vs 13 = v13 at hK d13 ⊢
          subst d13
          generalize vs 14 = v14 at hK d14 ⊢
          subst d14
          go_wp2
          exact hK _ _ rfl (Mod.refl _ _)
        refine opsOk_cons ?_ ?_
        · intro K vs W hR hD hK
          have d15 : vs 15 = .bool true := hD 15 (by decide)
          clear hD
          simp only [putAll, Nat.zero_add, Nat.reduceAdd, Act.put, List.setIfInBounds_toArray, List.set_cons_succ, List.set_cons_zero] at hK ⊢
          generalize vs 15 = v15 at hK d15 ⊢
          subst d15
          go_wp2
          exact hK _ _ rfl (Mod.refl _ _)
        exact opsOk_nil
      · intro vs W hR hF
        have d16 : vs 16 = .bool true := hF 16 (by decide)
        clear hF
        simp only [putAll, Nat.zero_add, Nat.reduceAdd, Act.put, List.setIfInBounds_toArray, List.set_cons_succ, List.set_cons_zero]
        go_wp2
        go_ret
        exact ⟨by simp [d16], hM.trans ((Mod.drew (fun _ => False) wr).trans hR (fun _ _ e => e) (fun _ _ e => e)) (fun _ _ e => e) (fun _ _ e => e)⟩

theorem three_all (w : World) (a : Option Addr) (n c : Nat) (xs : List Int) (ok : (encSlice (encInt .u8)).ok w (.slice a n c, xs)) (cs : Array Value) (x : Int × Int × Int) (hcs : cs.toList = (encPair (encInt .i64) (encPair (encInt .i64) (encInt .i64))).img x) (_ : (encPair (encInt .i64) (encPair (encInt .i64) (encInt .i64))).ok w x) :
    Calls Try.prog 4 #[.slice a n c, .agg cs] w fun e w' => e = .returned (.bool true) ∧ Below w.heap.size w w' := by
  obtain ⟨hn, hr, hb⟩ := ok_ints ok
  obtain ⟨x, y, z⟩ := x
  have e : cs = #[.int .i64 x, .int .i64 y, .int .i64 z] := Array.toList_inj.1 hcs
  subst e
  exact (three_walk w a n c xs hn hr (u8_range hb) x y z).mono fun e w' h => ⟨h.1, h.2.below (Nat.le_refl _) (fun _ e => e.elim)⟩

end Go.Proofs.Ytfcjooelndegcaa
