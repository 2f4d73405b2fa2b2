/- TurnsBoth walked. -/
import Derived.Test.YtmpcpmgpnccphaaMade7
import Derived.Test.YtmpcpmgpnccphaaAwake7
import Derived.Test.YtmpcpmgpnccphaaArcs
import Derived.Test.YtmpcpmgpnccphaaTurns2
import Derived.Test.YtmpcpmgpnccphaaOnlyP
import Derived.Test.YtmpcpmgpnccphaaRegion5
import Derived.Deep.DeepCutAuto
import Derived.Deep.CutBlock
namespace Go.Proofs.Ytmpcpmgpnccphaa
open Go.RowKit Mile
set_option maxRecDepth 100000
theorem prv_has (G : GD) (a b : Nat) (h : turnB G (a : Int) (b : Int) = true) : (prvR G (b : Int)).contains (a : Int) = true := by
  have ha := (of_decide_eq_true h).1
  rw [List.contains_iff_mem]
  unfold prvR
  exact List.mem_map.2 ⟨a, List.mem_filter.2 ⟨List.mem_range.2 (by omega), h⟩, rfl⟩
theorem contains_snoc (l : List Int) (k : Nat) (h : k < l.length) (x : Int) : (l.take (k + 1)).contains x = ((l.take k).contains x || l[k] == x) := by
  rw [List.take_succ_eq_append_getElem h, Bool.eq_iff_iff]
  simp only [List.contains_iff_mem, Bool.or_eq_true, List.mem_append, List.mem_singleton, beq_iff_eq]
  constructor
  · rintro (h | h)
    · exact .inl h
    · exact .inr h.symm
  · rintro (h | h)
    · exact .inl h
    · exact .inr h.symm
theorem prvR_at (G : GD) (e : Int) (i : Nat) (h : i < (prvR G e).length) : ∃ k : Nat, (prvR G e)[i] = (k : Int) ∧ k < G.E.length := by
  have hm : (prvR G e)[i] ∈ prvR G e := List.getElem_mem h
  unfold prvR at hm
  obtain ⟨k, hk, he⟩ := List.mem_map.1 hm
  exact ⟨k, he.symm, List.mem_range.1 (List.mem_filter.1 hk).1⟩
theorem arcsR_at (G : GD) (i : Nat) (h : i < (arcsR G).length) : ∃ a b : Nat, (arcsR G)[i] = ((a : Int), (b : Int), (eAt G (b : Int)).2.2, -1) ∧ b < G.E.length ∧ turnB G (a : Int) (b : Int) = true := by
  have hm : (arcsR G)[i] ∈ arcsR G := List.getElem_mem h
  unfold arcsR at hm
  obtain ⟨a, _, ha⟩ := List.mem_flatMap.1 hm
  unfold arcsOf at ha
  obtain ⟨x, hx, he⟩ := List.mem_map.1 ha
  unfold nxtR at hx
  obtain ⟨b, hb, hbx⟩ := List.mem_map.1 hx
  obtain ⟨h1, h2⟩ := List.mem_filter.1 hb
  subst hbx
  exact ⟨a, b, he.symm, List.mem_range.1 h1, h2⟩
theorem turn_free (G : GD) (a b : Int) (h : turnB G a b = true) : decide ((a, b) ∈ G.B) = false := decide_eq_false (of_decide_eq_true h).2.2.2
/-- What each operation of the statement leaves. -/
def tb_r21_0_F (t p eb eo j k kb ln cn : Nat) (an : Option Addr) : List (Value → World → Prop) :=
  [IsV (.bool true),
   IsV (.bool false),
   IsV (.bool false),
   IsV (.pointer (some ⟨t, 0, none⟩)),
   IsV (.int .i64 (j : Int)),
   IsV (.slice an ln cn),
   IsV (.int .i64 (k : Int)),
   IsV (.pointer (some ⟨eb, eo, none⟩)),
   IsV (.int .i64 (kb : Int)),
   IsV (.bool true),
   IsV (.bool false),
   IsV (.bool false),
   IsV (.bool false),
   IsV (.pointer (some ⟨t, 0, none⟩)),
   IsV (.pointer (some ⟨t, 0, none⟩)),
   IsV (.pointer (some ⟨t, 0, none⟩)),
   IsV (.pointer (some ⟨p, 0, none⟩)),
   IsV (.int .i64 (j : Int)),
   IsV (.slice an ln cn),
   IsV (.int .i64 (k : Int)),
   IsV (.pointer (some ⟨eb, eo, none⟩)),
   IsV (.int .i64 (kb : Int)),
   IsV (.bool false),
   IsV (.bool false)]
def tb_r21_0_D : List (List Nat) := [[], [0], [1], [2], [2], [2], [2], [2, 5, 6], [2, 7], [2, 3, 4, 8], [2, 9], [2, 10], [11], [12], [12, 13], [12, 14], [12, 15], [12], [12], [12], [12, 18, 19], [12, 20], [12, 16, 17, 21], [12, 22]]

/-- What each operation of the statement leaves. -/
def tb_r27_1_V (t : Nat) (p : Nat) (qb : Nat) (qo : Nat) (k : Nat) (kb : Nat) (x : Nat) (xb : Int) (yb : Int) (zb : Int) (ar : Option Addr) (cr : Nat) : List Value :=
  [.pointer (some ⟨t, 0, none⟩),
   .pointer (some ⟨t, 0, none⟩),
   .pointer (some ⟨t, 0, none⟩),
   .pointer (some ⟨p, 0, none⟩),
   .slice ar x cr,
   .int .i64 (k : Int),
   .pointer (some ⟨qb, qo, none⟩),
   .pointer (some ⟨qb, qo + 1, none⟩),
   .int .i64 (kb : Int),
   .tuple #[.agg #[.int .i64 xb, .int .i64 yb, .int .i64 zb], .bool true],
   .tuple #[.agg #[.int .i64 xb, .int .i64 yb, .int .i64 zb], .bool true],
   .agg #[.int .i64 xb, .int .i64 yb, .int .i64 zb],
   .bool true,
   undef,
   undef,
   .bool true]
def tb_r27_1_D : List (List Nat) := [[], [0], [1], [2], [], [], [4, 5], [6], [7], [3, 8], [9], [10], [10], [], [11, 13], [12]]

/-- What each operation of the statement leaves. -/
def tb_r28_2_F (t : Nat) (qb : Nat) (qo : Nat) (k : Nat) (ka : Nat) (kb : Nat) (x : Nat) (zb : Int) (ar : Option Addr) (cr : Nat) (be : Nat) : List (Value → World → Prop) :=
  [IsV (.bool true),
   IsV (.bool false),
   IsV (.bool false),
   IsV (.pointer (some ⟨t, 0, none⟩)),
   IsV (.slice ar x cr),
   IsV (.int .i64 (k : Int)),
   IsV (.pointer (some ⟨qb, qo, none⟩)),
   IsV (.pointer (some ⟨qb, qo, none⟩)),
   IsV (.int .i64 (ka : Int)),
   IsV (.slice ar x cr),
   IsV (.int .i64 (k : Int)),
   IsV (.pointer (some ⟨qb, qo, none⟩)),
   IsV (.pointer (some ⟨qb, qo + 1, none⟩)),
   IsV (.int .i64 (kb : Int)),
   IsV (.bool true),
   IsV (.bool false),
   IsV (.bool false),
   IsV (.bool false),
   IsV (.slice ar x cr),
   IsV (.int .i64 (k : Int)),
   IsV (.pointer (some ⟨qb, qo, none⟩)),
   IsV (.pointer (some ⟨qb, qo + 2, none⟩)),
   IsV (.int .i64 zb),
   IsV (.pointer (some ⟨be, 2, none⟩)),
   IsV (.int .i64 zb),
   IsV (.bool false),
   IsV (.bool false),
   IsV (.bool false),
   IsV (.slice ar x cr),
   IsV (.int .i64 (k : Int)),
   IsV (.pointer (some ⟨qb, qo, none⟩)),
   IsV (.pointer (some ⟨qb, qo + 3, none⟩)),
   IsV (.int .i64 (-1)),
   IsV (.bool false),
   IsV (.bool false)]
def tb_r28_2_D : List (List Nat) := [[], [0], [1], [2], [2], [2], [2, 4, 5], [2, 6], [2, 7], [2], [2], [2, 9, 10], [2, 11], [2, 12], [2, 3, 8, 13], [2, 14], [2, 15], [16], [17], [17], [17, 18, 19], [17, 20], [17, 21], [17], [17, 23], [17, 22, 24], [17, 25], [26], [27], [27], [27, 28, 29], [27, 30], [27, 31], [27, 32], [27, 33]]

set_option maxHeartbeats 64000000 in
theorem tboth_all (w : World) (a0 : Option Addr) (m c0 : Nat) (l : List Int) (hm : l.length = m) (hr : Rd w 1 (.slice a0 m c0) m (l.map (Value.int .i64))) :
    Calls Try.prog 4 #[.slice a0 m c0] w fun e w' => e = .returned (.bool true) ∧ Mod (fun _ => False) w w' := by
  obtain ⟨iI, hiI, hzI, hsI, hbI⟩ := info_parts GR.infoI
  obtain ⟨iA, hiA, hzA, hsA, hbA⟩ := info_parts infoA
  by_cases hlen : m ≤ 100
  case neg =>
    have HS : Hid (Ev (Mod (fun _ => False) w) w) := Lib.hid (Ev.mod w)
    have z0 : decide (100 < (m : Int)) = true := by simp; omega
    have z1 : decide (100 < m) = true := by simp; omega
    go_enter Try.func4, Try.ntmps4
    go_wp2_with fail
    refine (awake7_any _).mono ?_
    rintro e wq1 ⟨rfl, hm⟩
    replace HS := Lib.hid (HS.out.step hm)
    clear hm
    go_wp2_with fail
    go_ret
    exact ⟨rfl, HS.out.now⟩
  have HS : Hid (Ev (Mod (fun _ => False) w) w) := Lib.hid (Ev.mod w)
  replace HS := Lib.hid ((Ev.rd hr).and HS.out)
  have z0 : decide (100 < (m : Int)) = false := by simp; omega
  have z1 : decide (100 < m) = false := by simp; omega
  go_enter Try.func4, Try.ntmps4
  go_wp2_with fail
  refine (made7_any _ a0 m c0 l hm ((HS.out.now).1)).mono ?_
  rintro e wq2 ⟨a1, n1, d1, a2, n2, d2, a3, n3, d3, t, p, B, C, rfl, hg, hto, hmm⟩
  replace HS := Lib.hid (HS.out.step hmm)
  clear hmm
  replace HS := Lib.hid ((Ev.gv hg).and HS.out)
  replace HS := Lib.hid ((Ev.to hto).and HS.out)
  clear hg hto z0 z1
  have hmay := Lib.hid (town_may l)
  have hfew := Lib.hid (town_few l)
  obtain ⟨G, hG⟩ : ∃ G, townG l = G := ⟨_, rfl⟩
  rw [hG] at hmay hfew
  rw [hG] at HS
  clear hG
  have he := Lib.hid ((HS.out.now).2.1.e)
  have h2n : n2 ≤ 67 := by have := hfew.out.2.1.2; have := he.out; omega
  go_wp2_with fail
  obtain ⟨bg, hbg⟩ : ∃ b, wq2.heap.size = b := ⟨_, rfl⟩
  obtain ⟨wq3, hwq3⟩ : ∃ W, World.alloc wq2 (.cells #[.slice a1 n1 d1, .slice a2 n2 d2, .slice a3 n3 d3] 28) = W := ⟨_, rfl⟩
  have hBbg : Blk wq3 bg 28 [.slice a1 n1 d1, .slice a2 n2 d2, .slice a3 n3 d3] := by rw [← hwq3, ← hbg]; exact Blk.new _ 28 [.slice a1 n1 d1, .slice a2 n2 d2, .slice a3 n3 d3]
  have hzbg : wq3.heap.size = bg + 1 := by rw [← hwq3, ← hbg]; exact heap_size_alloc _ _
  replace HS := Lib.hid (HS.out.step (w' := wq3) (by rw [← hwq3]; exact Mod.alloc _ _ _))
  replace HS := Lib.hid ((Ev.blk hBbg).and HS.out)
  try rw [hwq3]
  try rw [hbg]
  clear hzbg hBbg hbg hwq3
  have hbbg := (HS.out.now).1
  have qbg_0 := hbbg.cell 0 rfl
  have qbg_1 := hbbg.cell 1 rfl
  have qbg_2 := hbbg.cell 2 rfl
  have lbg := hbbg.lt
  clear hbbg
  go_wp2_with fail
  clear qbg_0 qbg_1 qbg_2 lbg
  replace HS := Lib.hid ((Ev.mod wq3).and HS.out)
  go_loopw [5, 6] (fun s i wr => ∃ j x : Nat, j ≤ n2 ∧ i = .int .i64 j ∧ s = .int .i64 x ∧ x = sumN (fun a : Nat => (nxtR G (a : Int)).length) j ∧ Mod (fun _ => False) wq3 wr) (fun _ i _ => n2 - (intOf i).toNat)
  case atStart => exact ⟨0, 0, by omega, rfl, rfl, rfl, Mod.refl _ _⟩
  case round =>
    obtain ⟨j, x, hj, rfl, rfl, hx, hmr⟩ := hrel
    obtain ⟨wo, hwo⟩ : ∃ x : World, x = wr := ⟨_, rfl⟩
    subst hwo
    have hxb : x ≤ 4489 := by rw [hx]; have h1 := sumN_le (f := (fun a : Nat => (nxtR G (a : Int)).length)) (c := 67) (n := j) (fun i _ => by have := nxtR_len G (i : Int); have := he.out; show (nxtR G (i : Int)).length ≤ 67; omega); have h2 : j * 67 ≤ 67 * 67 := Nat.mul_le_mul_right _ (by omega); omega
    have HX := Lib.hid hx
    clear hx
    replace HS := Lib.hid (HS.out.step hmr)
    clear hmr
    have hbbg := (HS.out.now).2.1
    have qbg_0 := hbbg.cell 0 rfl
    have qbg_1 := hbbg.cell 1 rfl
    have qbg_2 := hbbg.cell 2 rfl
    have lbg := hbbg.lt
    clear hbbg
    by_cases hlt : j < n2
    case pos =>
      have z0 : decide ((j : Int) < (n2 : Int)) = true := by simp; omega
      go_wp2_with fail
      refine (next_any t p B C G _ ((HS.out.now).2.2.1) (j : Int)).mono ?_
      rintro e wq4 ⟨x', rfl, ⟨an, cn, rfl, hx'⟩, hmm⟩
      replace HS := Lib.hid (HS.out.step hmm)
      clear hmm
      replace HS := Lib.hid ((Ev.rd hx').and HS.out)
      clear hx'
      obtain ⟨ln, hln⟩ : ∃ n, (nxtR G (j : Int)).length = n := ⟨_, rfl⟩
      rw [hln] at HS ⊢
      have hl1 : ln ≤ 67 := by rw [← hln]; have := nxtR_len G (j : Int); have := he.out; omega
      have HLN := Lib.hid hln
      clear hln
      clear qbg_0 qbg_1 qbg_2 lbg
      go_wp2_with fail
      replace HS := Lib.hid ((Ev.mod wq4).and HS.out)
      go_loopw [8] (fun i wr => ∃ k : Nat, k ≤ ln ∧ i = .int .i64 k ∧ Mod (fun _ => False) wq4 wr) (fun i _ => ln - (intOf i).toNat)
      case atStart => exact ⟨0, by omega, rfl, Mod.refl _ _⟩
      case round =>
        obtain ⟨k, hk, rfl, hmr⟩ := hrel
        obtain ⟨wi, hwo⟩ : ∃ x : World, x = wr := ⟨_, rfl⟩
        subst hwo
        replace HS := Lib.hid (HS.out.step hmr)
        clear hmr
        by_cases hlk : k < ln
        case pos =>
          have z1 : decide ((k : Int) < (ln : Int)) = true := by simp; omega
          have hkl : k < (nxtR G (j : Int)).length := by rw [HLN.out]; exact hlk
          obtain ⟨kb, hkb, hkbe, htr⟩ := nxtR_at G (j : Int) k hkl
          have HKB := Lib.hid hkb
          have HTR := Lib.hid htr
          clear hkb htr
          obtain ⟨eb, eo, hpl, e0⟩ := rd1 (HS.out.now).2.1 k hkl
          have hix := fun wx => run_indexS (P := Try.prog) wx 22 3 iI 1 Try.underlying22 hiI hsI an ln cn k hlk ((HS.out.now).2.1.some_ (by have := hlk; omega))
          rw [hpl] at hix
          have HIe := Lib.hid hix
          clear hix hpl
          rw [HKB.out] at e0
          replace HS := Lib.hid ((Ev.cell e0).and HS.out)
          clear e0
          have qe := (HS.out.now).1
          have hix := HIe.out
          go_wp2_with fail
          refine (prev_any t p B C G _ ((HS.out.now).2.2.2.2.2.1) (kb : Int)).mono ?_
          rintro e wq5 ⟨x', rfl, ⟨ap, cp, rfl, hx'⟩, hmm⟩
          replace HS := Lib.hid (HS.out.step hmm)
          clear hmm
          replace HS := Lib.hid ((Ev.rd hx').and HS.out)
          clear hx' qe hix
          obtain ⟨lp, hlp⟩ : ∃ n, (prvR G (kb : Int)).length = n := ⟨_, rfl⟩
          rw [hlp] at HS ⊢
          have hl2 : lp ≤ 67 := by rw [← hlp]; have := prvR_len G (kb : Int); have := he.out; omega
          have HLP := Lib.hid hlp
          clear hlp
          go_wp2_with fail
          replace HS := Lib.hid ((Ev.mod wq5).and HS.out)
          go_loopw [9, 11] (fun b i wr => ∃ q : Nat, q ≤ lp ∧ i = .int .i64 q ∧ b = .bool (((prvR G (kb : Int)).take q).contains (j : Int)) ∧ Mod (fun _ => False) wq5 wr) (fun _ i _ => lp - (intOf i).toNat)
          case atStart => exact ⟨0, by omega, rfl, by simp, Mod.refl _ _⟩
          case round =>
            obtain ⟨q, hq, rfl, rfl, hmr⟩ := hrel
            obtain ⟨wk, hwo⟩ : ∃ x : World, x = wr := ⟨_, rfl⟩
            subst hwo
            replace HS := Lib.hid (HS.out.step hmr)
            clear hmr
            obtain ⟨mt, hmt⟩ : ∃ b, ((prvR G (kb : Int)).take q).contains (j : Int) = b := ⟨_, rfl⟩
            rw [hmt]
            have HMT := Lib.hid hmt
            clear hmt
            by_cases hlq : q < lp
            case pos =>
              have z2 : decide ((q : Int) < (lp : Int)) = true := by simp; omega
              have hql : q < (prvR G (kb : Int)).length := by rw [HLP.out]; exact hlq
              obtain ⟨ka, hka, _⟩ := prvR_at G (kb : Int) q hql
              have HKA := Lib.hid hka
              clear hka
              obtain ⟨fb, fo, hpl, e0⟩ := rd1 (HS.out.now).2.1 q hql
              have hix := fun wx => run_indexS (P := Try.prog) wx 22 3 iI 1 Try.underlying22 hiI hsI ap lp cp q hlq ((HS.out.now).2.1.some_ (by have := hlq; omega))
              rw [hpl] at hix
              have HIf := Lib.hid hix
              clear hix hpl
              rw [HKA.out] at e0
              replace HS := Lib.hid ((Ev.cell e0).and HS.out)
              clear e0
              have qf := (HS.out.now).1
              have hix := HIf.out
              have hs := contains_snoc (prvR G (kb : Int)) q hql (j : Int)
              rw [HMT.out, HKA.out] at hs
              have HSN := Lib.hid hs
              clear hs
              cases mt with
              | true =>
                go_wp2_with fail
                go_roundw
                case rel => exact ⟨q + 1, hlq, by go_num, by rw [HSN.out]; rfl, (HS.out.now).2.1⟩
                case measure => simp [intOf]; omega
              | false =>
                obtain ⟨eqb, hqb⟩ : ∃ b, ((ka : Int) == (j : Int)) = b := ⟨_, rfl⟩
                rw [hqb] at HSN
                go_wp2_with fail
                go_roundw
                case rel => exact ⟨q + 1, hlq, by go_num, by rw [HSN.out]; rfl, (HS.out.now).2.1⟩
                case measure => simp [intOf]; omega
            case neg =>
              obtain rfl : q = lp := by omega
              have z2 : decide ((q : Int) < (q : Int)) = false := by simp
              obtain rfl : mt = true := by rw [← HMT.out, List.take_of_length_le (by rw [HLP.out]; exact Nat.le_refl _)]; exact prv_has G j kb HTR.out
              go_upto_region 21 with fail
              have HSd := Lib.hid HS.out.drew
              refine wp_region_inv3 (act := ?acttb_r21_0) (Mod (fun _ => False)) (fun i => (tb_r21_0_F t p eb eo j k kb ln cn an).getD i (fun _ _ => True)) (fun i => tb_r21_0_D.getD i []) (by kernel_rfl) (by kernel_rfl) (by kernel_rfl) (by kernel_rfl) (fun _ => Mod.refl _ _)
                (fun _ _ _ h k => h.trans k (fun _ _ e => e) (fun _ _ e => e)) ?hacttb_r21_0 (stable_list ?_) ?_ ?_
              case hacttb_r21_0 => intro vs; simp only [putAll, Nat.zero_add, Nat.reduceAdd, Act.put, List.setIfInBounds_toArray, List.set_cons_succ, List.set_cons_zero]; exact rfl
              · unfold tb_r21_0_F
                exact stable_cons (stable_val _) <| stable_cons (stable_val _) <| stable_cons (stable_val _) <| stable_cons (stable_val _) <| stable_cons (stable_val _) <| stable_cons (stable_val _) <| stable_cons (stable_val _) <| stable_cons (stable_val _) <| stable_cons (stable_val _) <| stable_cons (stable_val _) <| stable_cons (stable_val _) <| stable_cons (stable_val _) <| stable_cons (stable_val _) <| stable_cons (stable_val _) <| stable_cons (stable_val _) <| stable_cons (stable_val _) <| stable_cons (stable_val _) <| stable_cons (stable_val _) <| stable_cons (stable_val _) <| stable_cons (stable_val _) <| stable_cons (stable_val _) <| stable_cons (stable_val _) <| stable_cons (stable_val _) <| stable_cons (stable_val _) <| stable_nil
              · refine opsOkA_cons ?_ ?_
                · intro K vs W hR hD hK
                  clear hD
                  try dsimp only at hK ⊢
                  simp only [Act.put, List.setIfInBounds_toArray, List.set_cons_succ, List.set_cons_zero] at hK
                  go_wp2
                  exact hK _ _ rfl (Mod.refl _ _)
                refine opsOkA_cons ?_ ?_
                · intro K vs W hR hD hK
                  have dq0 : vs 0 = .bool true := hD 0 (by decide)
                  clear hD
                  try dsimp only at hK ⊢
                  simp only [Act.put, List.setIfInBounds_toArray, List.set_cons_succ, List.set_cons_zero] at hK
                  generalize vs 0 = vq0 at hK dq0 ⊢
                  subst vq0
                  go_wp2
                  exact hK _ _ rfl (Mod.refl _ _)
                refine opsOkA_cons ?_ ?_
                · intro K vs W hR hD hK
                  have dq1 : vs 1 = .bool false := hD 1 (by decide)
                  clear hD
                  try dsimp only at hK ⊢
                  simp only [Act.put, List.setIfInBounds_toArray, List.set_cons_succ, List.set_cons_zero] at hK
                  generalize vs 1 = vq1 at hK dq1 ⊢
                  subst vq1
                  go_wp2
                  exact hK _ _ rfl (Mod.refl _ _)
                refine opsOkA_cons ?_ ?_
                · intro K vs W hR hD hK
                  have dq2 : vs 2 = .bool false := hD 2 (by decide)
                  clear hD
                  try dsimp only at hK ⊢
                  simp only [Act.put, List.setIfInBounds_toArray, List.set_cons_succ, List.set_cons_zero] at hK
                  generalize vs 2 = vq2 at hK dq2 ⊢
                  subst vq2
                  go_wp2
                  exact hK _ _ rfl (Mod.refl _ _)
                refine opsOkA_cons ?_ ?_
                · intro K vs W hR hD hK
                  have dq2 : vs 2 = .bool false := hD 2 (by decide)
                  clear hD
                  try dsimp only at hK ⊢
                  simp only [Act.put, List.setIfInBounds_toArray, List.set_cons_succ, List.set_cons_zero] at hK
                  generalize vs 2 = vq2 at hK dq2 ⊢
                  subst vq2
                  go_wp2
                  exact hK _ _ rfl (Mod.refl _ _)
                refine opsOkA_cons ?_ ?_
                · intro K vs W hR hD hK
                  have dq2 : vs 2 = .bool false := hD 2 (by decide)
                  clear hD
                  try dsimp only at hK ⊢
                  simp only [Act.put, List.setIfInBounds_toArray, List.set_cons_succ, List.set_cons_zero] at hK
                  generalize vs 2 = vq2 at hK dq2 ⊢
                  subst vq2
                  go_wp2
                  exact hK _ _ rfl (Mod.refl _ _)
                refine opsOkA_cons ?_ ?_
                · intro K vs W hR hD hK
                  have dq2 : vs 2 = .bool false := hD 2 (by decide)
                  clear hD
                  try dsimp only at hK ⊢
                  simp only [Act.put, List.setIfInBounds_toArray, List.set_cons_succ, List.set_cons_zero] at hK
                  generalize vs 2 = vq2 at hK dq2 ⊢
                  subst vq2
                  go_wp2
                  exact hK _ _ rfl (Mod.refl _ _)
                refine opsOkA_cons ?_ ?_
                · intro K vs W hR hD hK
                  have dq2 : vs 2 = .bool false := hD 2 (by decide)
                  have dq5 : vs 5 = .slice an ln cn := hD 5 (by decide)
                  have dq6 : vs 6 = .int .i64 (k : Int) := hD 6 (by decide)
                  clear hD
                  try dsimp only at hK ⊢
                  simp only [Act.put, List.setIfInBounds_toArray, List.set_cons_succ, List.set_cons_zero] at hK
                  generalize vs 2 = vq2 at hK dq2 ⊢
                  subst vq2
                  generalize vs 5 = vq5 at hK dq5 ⊢
                  subst vq5
                  generalize vs 6 = vq6 at hK dq6 ⊢
                  subst vq6
                  have hix := HIe.out
                  go_wp2_with fail
                  exact hK _ _ rfl (Mod.refl _ _)
                refine opsOkA_cons ?_ ?_
                · intro K vs W hR hD hK
                  have dq2 : vs 2 = .bool false := hD 2 (by decide)
                  have dq7 : vs 7 = .pointer (some ⟨eb, eo, none⟩) := hD 7 (by decide)
                  clear hD
                  try dsimp only at hK ⊢
                  simp only [Act.put, List.setIfInBounds_toArray, List.set_cons_succ, List.set_cons_zero] at hK
                  generalize vs 2 = vq2 at hK dq2 ⊢
                  subst vq2
                  generalize vs 7 = vq7 at hK dq7 ⊢
                  subst vq7
                  have c0 := (HSd.out.at (hR)).2.2.1
                  go_wp2
                  exact hK _ _ rfl (Mod.refl _ _)
                refine opsOkA_cons ?_ ?_
                · intro K vs W hR hD hK
                  have dq2 : vs 2 = .bool false := hD 2 (by decide)
                  have dq3 : vs 3 = .pointer (some ⟨t, 0, none⟩) := hD 3 (by decide)
                  have dq4 : vs 4 = .int .i64 (j : Int) := hD 4 (by decide)
                  have dq8 : vs 8 = .int .i64 (kb : Int) := hD 8 (by decide)
                  clear hD
                  try dsimp only at hK ⊢
                  simp only [Act.put, List.setIfInBounds_toArray, List.set_cons_succ, List.set_cons_zero] at hK
                  generalize vs 2 = vq2 at hK dq2 ⊢
                  subst vq2
                  generalize vs 3 = vq3 at hK dq3 ⊢
                  subst vq3
                  generalize vs 4 = vq4 at hK dq4 ⊢
                  subst vq4
                  generalize vs 8 = vq8 at hK dq8 ⊢
                  subst vq8
                  go_wp2_with (go_at_call 23; refine (may_any t p B C G W ((HSd.out.at (hR)).2.2.2.2.2.2.2.1) (j : Int) (kb : Int)).mono ?_; rintro e' w' ⟨rfl, hm'⟩; rw [HTR.out])
                  exact hK _ _ rfl hm'
                refine opsOkA_cons ?_ ?_
                · intro K vs W hR hD hK
                  have dq2 : vs 2 = .bool false := hD 2 (by decide)
                  have dq9 : vs 9 = .bool true := hD 9 (by decide)
                  clear hD
                  try dsimp only at hK ⊢
                  simp only [Act.put, List.setIfInBounds_toArray, List.set_cons_succ, List.set_cons_zero] at hK
                  generalize vs 2 = vq2 at hK dq2 ⊢
                  subst vq2
                  generalize vs 9 = vq9 at hK dq9 ⊢
                  subst vq9
                  go_wp2
                  exact hK _ _ rfl (Mod.refl _ _)
                refine opsOkA_cons ?_ ?_
                · intro K vs W hR hD hK
                  have dq2 : vs 2 = .bool false := hD 2 (by decide)
                  have dq10 : vs 10 = .bool false := hD 10 (by decide)
                  clear hD
                  try dsimp only at hK ⊢
                  simp only [Act.put, List.setIfInBounds_toArray, List.set_cons_succ, List.set_cons_zero] at hK
                  generalize vs 2 = vq2 at hK dq2 ⊢
                  subst vq2
                  generalize vs 10 = vq10 at hK dq10 ⊢
                  subst vq10
                  go_wp2
                  exact hK _ _ rfl (Mod.refl _ _)
                refine opsOkA_cons ?_ ?_
                · intro K vs W hR hD hK
                  have dq11 : vs 11 = .bool false := hD 11 (by decide)
                  clear hD
                  try dsimp only at hK ⊢
                  simp only [Act.put, List.setIfInBounds_toArray, List.set_cons_succ, List.set_cons_zero] at hK
                  generalize vs 11 = vq11 at hK dq11 ⊢
                  subst vq11
                  go_wp2
                  exact hK _ _ rfl (Mod.refl _ _)
                refine opsOkA_cons ?_ ?_
                · intro K vs W hR hD hK
                  have dq12 : vs 12 = .bool false := hD 12 (by decide)
                  clear hD
                  try dsimp only at hK ⊢
                  simp only [Act.put, List.setIfInBounds_toArray, List.set_cons_succ, List.set_cons_zero] at hK
                  generalize vs 12 = vq12 at hK dq12 ⊢
                  subst vq12
                  go_wp2
                  exact hK _ _ rfl (Mod.refl _ _)
                refine opsOkA_cons ?_ ?_
                · intro K vs W hR hD hK
                  have dq12 : vs 12 = .bool false := hD 12 (by decide)
                  have dq13 : vs 13 = .pointer (some ⟨t, 0, none⟩) := hD 13 (by decide)
                  clear hD
                  try dsimp only at hK ⊢
                  simp only [Act.put, List.setIfInBounds_toArray, List.set_cons_succ, List.set_cons_zero] at hK
                  generalize vs 12 = vq12 at hK dq12 ⊢
                  subst vq12
                  generalize vs 13 = vq13 at hK dq13 ⊢
                  subst vq13
                  go_wp2
                  exact hK _ _ rfl (Mod.refl _ _)
                refine opsOkA_cons ?_ ?_
                · intro K vs W hR hD hK
                  have dq12 : vs 12 = .bool false := hD 12 (by decide)
                  have dq14 : vs 14 = .pointer (some ⟨t, 0, none⟩) := hD 14 (by decide)
                  clear hD
                  try dsimp only at hK ⊢
                  simp only [Act.put, List.setIfInBounds_toArray, List.set_cons_succ, List.set_cons_zero] at hK
                  generalize vs 12 = vq12 at hK dq12 ⊢
                  subst vq12
                  generalize vs 14 = vq14 at hK dq14 ⊢
                  subst vq14
                  go_wp2
                  exact hK _ _ rfl (Mod.refl _ _)
                refine opsOkA_cons ?_ ?_
                · intro K vs W hR hD hK
                  have dq12 : vs 12 = .bool false := hD 12 (by decide)
                  have dq15 : vs 15 = .pointer (some ⟨t, 0, none⟩) := hD 15 (by decide)
                  clear hD
                  try dsimp only at hK ⊢
                  simp only [Act.put, List.setIfInBounds_toArray, List.set_cons_succ, List.set_cons_zero] at hK
                  generalize vs 12 = vq12 at hK dq12 ⊢
                  subst vq12
                  generalize vs 15 = vq15 at hK dq15 ⊢
                  subst vq15
                  have q0 := ((HSd.out.at (hR)).2.2.2.2.2.2.2.1).blk.cell 0 rfl
                  go_wp2
                  exact hK _ _ rfl (Mod.refl _ _)
                refine opsOkA_cons ?_ ?_
                · intro K vs W hR hD hK
                  have dq12 : vs 12 = .bool false := hD 12 (by decide)
                  clear hD
                  try dsimp only at hK ⊢
                  simp only [Act.put, List.setIfInBounds_toArray, List.set_cons_succ, List.set_cons_zero] at hK
                  generalize vs 12 = vq12 at hK dq12 ⊢
                  subst vq12
                  go_wp2
                  exact hK _ _ rfl (Mod.refl _ _)
                refine opsOkA_cons ?_ ?_
                · intro K vs W hR hD hK
                  have dq12 : vs 12 = .bool false := hD 12 (by decide)
                  clear hD
                  try dsimp only at hK ⊢
                  simp only [Act.put, List.setIfInBounds_toArray, List.set_cons_succ, List.set_cons_zero] at hK
                  generalize vs 12 = vq12 at hK dq12 ⊢
                  subst vq12
                  go_wp2
                  exact hK _ _ rfl (Mod.refl _ _)
                refine opsOkA_cons ?_ ?_
                · intro K vs W hR hD hK
                  have dq12 : vs 12 = .bool false := hD 12 (by decide)
                  clear hD
                  try dsimp only at hK ⊢
                  simp only [Act.put, List.setIfInBounds_toArray, List.set_cons_succ, List.set_cons_zero] at hK
                  generalize vs 12 = vq12 at hK dq12 ⊢
                  subst vq12
                  go_wp2
                  exact hK _ _ rfl (Mod.refl _ _)
                refine opsOkA_cons ?_ ?_
                · intro K vs W hR hD hK
                  have dq12 : vs 12 = .bool false := hD 12 (by decide)
                  have dq18 : vs 18 = .slice an ln cn := hD 18 (by decide)
                  have dq19 : vs 19 = .int .i64 (k : Int) := hD 19 (by decide)
                  clear hD
                  try dsimp only at hK ⊢
                  simp only [Act.put, List.setIfInBounds_toArray, List.set_cons_succ, List.set_cons_zero] at hK
                  generalize vs 12 = vq12 at hK dq12 ⊢
                  subst vq12
                  generalize vs 18 = vq18 at hK dq18 ⊢
                  subst vq18
                  generalize vs 19 = vq19 at hK dq19 ⊢
                  subst vq19
                  have hix := HIe.out
                  go_wp2_with fail
                  exact hK _ _ rfl (Mod.refl _ _)
                refine opsOkA_cons ?_ ?_
                · intro K vs W hR hD hK
                  have dq12 : vs 12 = .bool false := hD 12 (by decide)
                  have dq20 : vs 20 = .pointer (some ⟨eb, eo, none⟩) := hD 20 (by decide)
                  clear hD
                  try dsimp only at hK ⊢
                  simp only [Act.put, List.setIfInBounds_toArray, List.set_cons_succ, List.set_cons_zero] at hK
                  generalize vs 12 = vq12 at hK dq12 ⊢
                  subst vq12
                  generalize vs 20 = vq20 at hK dq20 ⊢
                  subst vq20
                  have c0 := (HSd.out.at (hR)).2.2.1
                  go_wp2
                  exact hK _ _ rfl (Mod.refl _ _)
                refine opsOkA_cons ?_ ?_
                · intro K vs W hR hD hK
                  have dq12 : vs 12 = .bool false := hD 12 (by decide)
                  have dq16 : vs 16 = .pointer (some ⟨p, 0, none⟩) := hD 16 (by decide)
                  have dq17 : vs 17 = .int .i64 (j : Int) := hD 17 (by decide)
                  have dq21 : vs 21 = .int .i64 (kb : Int) := hD 21 (by decide)
                  clear hD
                  try dsimp only at hK ⊢
                  simp only [Act.put, List.setIfInBounds_toArray, List.set_cons_succ, List.set_cons_zero] at hK
                  generalize vs 12 = vq12 at hK dq12 ⊢
                  subst vq12
                  generalize vs 16 = vq16 at hK dq16 ⊢
                  subst vq16
                  generalize vs 17 = vq17 at hK dq17 ⊢
                  subst vq17
                  generalize vs 21 = vq21 at hK dq21 ⊢
                  subst vq21
                  go_wp2_with (go_at_call 28; refine (banned_any p B C W G ((HSd.out.at (hR)).2.2.2.2.2.2.2.1).go (j : Int) (kb : Int)).mono ?_; rintro e' w' ⟨rfl, hm'⟩; rw [turn_free G _ _ HTR.out])
                  exact hK _ _ rfl hm'
                refine opsOkA_cons ?_ ?_
                · intro K vs W hR hD hK
                  have dq12 : vs 12 = .bool false := hD 12 (by decide)
                  have dq22 : vs 22 = .bool false := hD 22 (by decide)
                  clear hD
                  try dsimp only at hK ⊢
                  simp only [Act.put, List.setIfInBounds_toArray, List.set_cons_succ, List.set_cons_zero] at hK
                  generalize vs 12 = vq12 at hK dq12 ⊢
                  subst vq12
                  generalize vs 22 = vq22 at hK dq22 ⊢
                  subst vq22
                  go_wp2
                  exact hK _ _ rfl (Mod.refl _ _)
                exact opsOkA_nil
              · intro vs wq6 hR hF
                have dq23 : vs 23 = .bool false := hF 23 (by decide)
                clear hF
                try dsimp only
                generalize vs 23 = vq23 at dq23 ⊢
                subst dq23
                replace HS := Lib.hid (HSd.out.step hR)
                clear HSd hR
                have hbbg := (HS.out.now).2.2.2.2.2.2.1
                have qbg_0 := hbbg.cell 0 rfl
                have qbg_1 := hbbg.cell 1 rfl
                have qbg_2 := hbbg.cell 2 rfl
                have lbg := hbbg.lt
                clear hbbg
                go_wp2_with fail
                go_roundw
                case rel => exact ⟨k + 1, hlk, by go_num, (HS.out.now).2.2.2.1⟩
                case measure => simp [intOf]; omega
        case neg =>
          obtain rfl : k = ln := by omega
          have z1 : decide ((k : Int) < (k : Int)) = false := by simp
          go_wp2_with fail
          go_roundw
          case rel => exact ⟨j + 1, x + k, hlt, by go_num, by go_num, by rw [sumN_succ, ← HX.out, HLN.out], (HS.out.now).2.2.1⟩
          case measure => simp [intOf]; omega
    case neg =>
      obtain rfl : j = n2 := by omega
      have z0 : decide ((j : Int) < (j : Int)) = false := by simp
      have HAL : Hid ((arcsR G).length = x) := Lib.hid (by rw [arcs_count, he.out, HX.out])
      go_wp2_with fail
      refine (arcs_any t p B C G _ ((HS.out.now).2.2.1)).mono ?_
      rintro e wq7 ⟨x', rfl, ⟨ar, cr, rfl, hx'⟩, hmm⟩
      replace HS := Lib.hid (HS.out.step hmm)
      clear hmm
      rw [HAL.out] at hx' ⊢
      replace HS := Lib.hid ((Ev.rd hx').and HS.out)
      clear hx'
      clear qbg_0 qbg_1 qbg_2 lbg
      go_wp2_with fail
      replace HS := Lib.hid ((Ev.mod wq7).and HS.out)
      go_loopw [13] (fun i wr => ∃ k : Nat, k ≤ x ∧ i = .int .i64 k ∧ Mod (fun _ => False) wq7 wr) (fun i _ => x - (intOf i).toNat)
      case atStart => exact ⟨0, by omega, rfl, Mod.refl _ _⟩
      case round =>
        obtain ⟨k, hk, rfl, hmr⟩ := hrel
        obtain ⟨wi, hwo⟩ : ∃ x : World, x = wr := ⟨_, rfl⟩
        subst hwo
        replace HS := Lib.hid (HS.out.step hmr)
        clear hmr
        by_cases hlk : k < x
        case pos =>
          have z1 : decide ((k : Int) < (x : Int)) = true := by simp; omega
          have hkl : k < (arcsR G).length := by rw [HAL.out]; exact hlk
          obtain ⟨ka, kb, hkb, hkbe, htr⟩ := arcsR_at G k hkl
          obtain ⟨xb, hxb⟩ : ∃ x, (G.E[kb]).1 = x := ⟨_, rfl⟩
          have Hxb := Lib.hid hxb
          obtain ⟨yb, hyb⟩ : ∃ x, (G.E[kb]).2.1 = x := ⟨_, rfl⟩
          have Hyb := Lib.hid hyb
          obtain ⟨zb, hzb⟩ : ∃ x, (G.E[kb]).2.2 = x := ⟨_, rfl⟩
          have Hzb := Lib.hid hzb
          rw [eAt_eq G kb hkbe, hzb] at hkb
          clear hxb hyb hzb
          have HTR := Lib.hid htr
          clear htr
          obtain ⟨qb, qo, hpl, e0, e1, e2, e3⟩ := rd4 ((HS.out.now).2.1) k hkl
          rw [hkb] at e0 e1 e2 e3
          simp only at e0 e1 e2 e3
          have hix := fun wx => run_indexS (P := Try.prog) wx 38 50 iA 4 Try.underlying38 hiA hsA ar x cr k hlk (((HS.out.now).2.1).some_ (by omega))
          rw [hpl] at hix
          have HIq := Lib.hid hix
          clear hix hpl hkb
          replace HS := Lib.hid ((Ev.cell e0).and HS.out)
          replace HS := Lib.hid ((Ev.cell e1).and HS.out)
          replace HS := Lib.hid ((Ev.cell e2).and HS.out)
          replace HS := Lib.hid ((Ev.cell e3).and HS.out)
          clear e0 e1 e2 e3
          have HED : Hid (0 ≤ (kb : Int) ∧ (kb : Int) < (G.E.length : Int)) := Lib.hid ⟨by omega, by omega⟩
          have HEA : Hid (eAt G (kb : Int) = G.E[kb]) := Lib.hid (eAt_eq G kb hkbe)
          go_upto_region 27 with fail
          obtain ⟨B0, hB0⟩ : ∃ n, wi.heap.size = n := ⟨_, rfl⟩
          have HB0 := Lib.hid hB0
          clear hB0
          have HSd := Lib.hid HS.out.drew
          refine wp_region_box (act := ?acttb_r27_1) B0 46 [.int .i64 0, .int .i64 0, .int .i64 0] [.int .i64 xb, .int .i64 yb, .int .i64 zb] 13 14 (tb_r27_1_V t p qb qo k kb x xb yb zb ar cr) (fun i => tb_r27_1_D.getD i []) (by decide) (by kernel_rfl) (by kernel_rfl) (by kernel_rfl) (by kernel_rfl) ?hacttb_r27_1 ?_ ?_
          case hacttb_r27_1 => intro vs; simp only [putAll, Nat.zero_add, Nat.reduceAdd, Act.put, List.setIfInBounds_toArray, List.set_cons_succ, List.set_cons_zero]; exact rfl
          · refine opsOkV_cons ?_ ?_
            · intro K vs W hR hD hK
              clear hD
              try dsimp only at hK ⊢
              simp only [Act.put, List.setIfInBounds_toArray, List.set_cons_succ, List.set_cons_zero] at hK
              go_wp2
              exact hK _ _ (boxF_of (by decide) (by decide) rfl) (BoxR.refl _ _ _ _ _)
            refine opsOkV_cons ?_ ?_
            · intro K vs W hR hD hK
              have dq0 : vs 0 = .pointer (some ⟨t, 0, none⟩) := boxF_val (by decide) (by decide) (hD 0 (by decide))
              clear hD
              try dsimp only at hK ⊢
              simp only [Act.put, List.setIfInBounds_toArray, List.set_cons_succ, List.set_cons_zero] at hK
              generalize vs 0 = vq0 at hK dq0 ⊢
              subst vq0
              go_wp2
              exact hK _ _ (boxF_of (by decide) (by decide) rfl) (BoxR.refl _ _ _ _ _)
            refine opsOkV_cons ?_ ?_
            · intro K vs W hR hD hK
              have dq1 : vs 1 = .pointer (some ⟨t, 0, none⟩) := boxF_val (by decide) (by decide) (hD 1 (by decide))
              clear hD
              try dsimp only at hK ⊢
              simp only [Act.put, List.setIfInBounds_toArray, List.set_cons_succ, List.set_cons_zero] at hK
              generalize vs 1 = vq1 at hK dq1 ⊢
              subst vq1
              go_wp2
              exact hK _ _ (boxF_of (by decide) (by decide) rfl) (BoxR.refl _ _ _ _ _)
            refine opsOkV_cons ?_ ?_
            · intro K vs W hR hD hK
              have dq2 : vs 2 = .pointer (some ⟨t, 0, none⟩) := boxF_val (by decide) (by decide) (hD 2 (by decide))
              clear hD
              try dsimp only at hK ⊢
              simp only [Act.put, List.setIfInBounds_toArray, List.set_cons_succ, List.set_cons_zero] at hK
              generalize vs 2 = vq2 at hK dq2 ⊢
              subst vq2
              have q0 := ((HSd.out.at ((hR.mod.mono (fun k hk e => by have h := HB0.out; simp at hk; omega)))).2.2.2.2.2.2.2.2.1).blk.cell 0 rfl
              go_wp2
              exact hK _ _ (boxF_of (by decide) (by decide) rfl) (BoxR.refl _ _ _ _ _)
            refine opsOkV_cons ?_ ?_
            · intro K vs W hR hD hK
              clear hD
              try dsimp only at hK ⊢
              simp only [Act.put, List.setIfInBounds_toArray, List.set_cons_succ, List.set_cons_zero] at hK
              go_wp2
              exact hK _ _ (boxF_of (by decide) (by decide) rfl) (BoxR.refl _ _ _ _ _)
            refine opsOkV_cons ?_ ?_
            · intro K vs W hR hD hK
              clear hD
              try dsimp only at hK ⊢
              simp only [Act.put, List.setIfInBounds_toArray, List.set_cons_succ, List.set_cons_zero] at hK
              go_wp2
              exact hK _ _ (boxF_of (by decide) (by decide) rfl) (BoxR.refl _ _ _ _ _)
            refine opsOkV_cons ?_ ?_
            · intro K vs W hR hD hK
              have dq4 : vs 4 = .slice ar x cr := boxF_val (by decide) (by decide) (hD 4 (by decide))
              have dq5 : vs 5 = .int .i64 (k : Int) := boxF_val (by decide) (by decide) (hD 5 (by decide))
              clear hD
              try dsimp only at hK ⊢
              simp only [Act.put, List.setIfInBounds_toArray, List.set_cons_succ, List.set_cons_zero] at hK
              generalize vs 4 = vq4 at hK dq4 ⊢
              subst vq4
              generalize vs 5 = vq5 at hK dq5 ⊢
              subst vq5
              have hix := HIq.out
              go_wp2_with fail
              exact hK _ _ (boxF_of (by decide) (by decide) rfl) (BoxR.refl _ _ _ _ _)
            refine opsOkV_cons ?_ ?_
            · intro K vs W hR hD hK
              have dq6 : vs 6 = .pointer (some ⟨qb, qo, none⟩) := boxF_val (by decide) (by decide) (hD 6 (by decide))
              clear hD
              try dsimp only at hK ⊢
              simp only [Act.put, List.setIfInBounds_toArray, List.set_cons_succ, List.set_cons_zero] at hK
              generalize vs 6 = vq6 at hK dq6 ⊢
              subst vq6
              go_wp2
              exact hK _ _ (boxF_of (by decide) (by decide) rfl) (BoxR.refl _ _ _ _ _)
            refine opsOkV_cons ?_ ?_
            · intro K vs W hR hD hK
              have dq7 : vs 7 = .pointer (some ⟨qb, qo + 1, none⟩) := boxF_val (by decide) (by decide) (hD 7 (by decide))
              clear hD
              try dsimp only at hK ⊢
              simp only [Act.put, List.setIfInBounds_toArray, List.set_cons_succ, List.set_cons_zero] at hK
              generalize vs 7 = vq7 at hK dq7 ⊢
              subst vq7
              have c0 := (HSd.out.at ((hR.mod.mono (fun k hk e => by have h := HB0.out; simp at hk; omega)))).2.2.1
              go_wp2
              exact hK _ _ (boxF_of (by decide) (by decide) rfl) (BoxR.refl _ _ _ _ _)
            refine opsOkV_cons ?_ ?_
            · intro K vs W hR hD hK
              have dq3 : vs 3 = .pointer (some ⟨p, 0, none⟩) := boxF_val (by decide) (by decide) (hD 3 (by decide))
              have dq8 : vs 8 = .int .i64 (kb : Int) := boxF_val (by decide) (by decide) (hD 8 (by decide))
              clear hD
              try dsimp only at hK ⊢
              simp only [Act.put, List.setIfInBounds_toArray, List.set_cons_succ, List.set_cons_zero] at hK
              generalize vs 3 = vq3 at hK dq3 ⊢
              subst vq3
              generalize vs 8 = vq8 at hK dq8 ⊢
              subst vq8
              go_wp2_with (go_at_call 29; refine (edge_any p B C W G ((HSd.out.at ((hR.mod.mono (fun k hk e => by have h := HB0.out; simp at hk; omega)))).2.2.2.2.2.2.2.2.1).go (kb : Int)).mono ?_; rintro e' w' ⟨rfl, hm'⟩; rw [if_pos HED.out, decide_eq_true HED.out, HEA.out, Hxb.out, Hyb.out, Hzb.out])
              exact hK _ _ (boxF_of (by decide) (by decide) rfl) (BoxR.of hm')
            refine opsOkV_cons ?_ ?_
            · intro K vs W hR hD hK
              have dq9 : vs 9 = .tuple #[.agg #[.int .i64 xb, .int .i64 yb, .int .i64 zb], .bool true] := boxF_val (by decide) (by decide) (hD 9 (by decide))
              clear hD
              try dsimp only at hK ⊢
              simp only [Act.put, List.setIfInBounds_toArray, List.set_cons_succ, List.set_cons_zero] at hK
              generalize vs 9 = vq9 at hK dq9 ⊢
              subst vq9
              go_wp2
              exact hK _ _ (boxF_of (by decide) (by decide) rfl) (BoxR.refl _ _ _ _ _)
            refine opsOkV_cons ?_ ?_
            · intro K vs W hR hD hK
              have dq10 : vs 10 = .tuple #[.agg #[.int .i64 xb, .int .i64 yb, .int .i64 zb], .bool true] := boxF_val (by decide) (by decide) (hD 10 (by decide))
              clear hD
              try dsimp only at hK ⊢
              simp only [Act.put, List.setIfInBounds_toArray, List.set_cons_succ, List.set_cons_zero] at hK
              generalize vs 10 = vq10 at hK dq10 ⊢
              subst vq10
              go_wp2
              exact hK _ _ (boxF_of (by decide) (by decide) rfl) (BoxR.refl _ _ _ _ _)
            refine opsOkV_cons ?_ ?_
            · intro K vs W hR hD hK
              have dq10 : vs 10 = .tuple #[.agg #[.int .i64 xb, .int .i64 yb, .int .i64 zb], .bool true] := boxF_val (by decide) (by decide) (hD 10 (by decide))
              clear hD
              try dsimp only at hK ⊢
              simp only [Act.put, List.setIfInBounds_toArray, List.set_cons_succ, List.set_cons_zero] at hK
              generalize vs 10 = vq10 at hK dq10 ⊢
              subst vq10
              go_wp2
              exact hK _ _ (boxF_of (by decide) (by decide) rfl) (BoxR.refl _ _ _ _ _)
            refine opsOkV_cons ?_ ?_
            · intro K vs W hR hD hK
              clear hD
              try dsimp only at hK ⊢
              simp only [Act.put, List.setIfInBounds_toArray, List.set_cons_succ, List.set_cons_zero] at hK
              have hz : B0 ≤ W.heap.size := by have h := HB0.out; have h2 := hR.mod.size; simp at h2; omega
              go_wp2
              exact hK _ _ (boxF_of_var hz (Blk.new W 46 [.int .i64 0, .int .i64 0, .int .i64 0])) (BoxR.of (Mod.alloc _ _ _))
            refine opsOkV_cons ?_ ?_
            · intro K vs W hR hD hK
              obtain ⟨bb, hvb, hB, hbl⟩ := boxF_var (hD 13 (by decide))
              have dq11 : vs 11 = .agg #[.int .i64 xb, .int .i64 yb, .int .i64 zb] := boxF_val (by decide) (by decide) (hD 11 (by decide))
              clear hD
              try dsimp only at hK ⊢
              simp only [Act.put, List.setIfInBounds_toArray, List.set_cons_succ, List.set_cons_zero] at hK
              generalize vs 11 = vq11 at hK dq11 ⊢
              subst vq11
              rw [hvb] at hK ⊢
              rcases hbl with hbl | hbl
              all_goals
                have c0 := hbl.cell 0 rfl
                have c1 := hbl.cell 1 rfl
                have c2 := hbl.cell 2 rfl
                have f0 := hbl.free 0
                have f1 := hbl.free 1
                have f2 := hbl.free 2
                go_wp2
                exact hK undef _ (boxF_of_fill (by decide) hvb hB (((hbl.set 0 (.int .i64 xb)).set 1 (.int .i64 yb)).set 2 (.int .i64 zb))) (BoxR.fill hB (((Mod.setCell (F := fun k => k = bb) (W) ⟨bb, 0, none⟩ (.int .i64 xb) rfl).trans (Mod.setCell (F := fun k => k = bb) (World.setCell (W) ⟨bb, 0, none⟩ (.int .i64 xb)) ⟨bb, 1, none⟩ (.int .i64 yb) rfl) (fun _ _ e => e) (fun _ _ e => e)).trans (Mod.setCell (F := fun k => k = bb) (World.setCell (World.setCell (W) ⟨bb, 0, none⟩ (.int .i64 xb)) ⟨bb, 1, none⟩ (.int .i64 yb)) ⟨bb, 2, none⟩ (.int .i64 zb) rfl) (fun _ _ e => e) (fun _ _ e => e)) (((hbl.set 0 (.int .i64 xb)).set 1 (.int .i64 yb)).set 2 (.int .i64 zb)))
            refine opsOkV_cons ?_ ?_
            · intro K vs W hR hD hK
              have dq12 : vs 12 = .bool true := boxF_val (by decide) (by decide) (hD 12 (by decide))
              clear hD
              try dsimp only at hK ⊢
              simp only [Act.put, List.setIfInBounds_toArray, List.set_cons_succ, List.set_cons_zero] at hK
              generalize vs 12 = vq12 at hK dq12 ⊢
              subst vq12
              go_wp2
              exact hK _ _ (boxF_of (by decide) (by decide) rfl) (BoxR.refl _ _ _ _ _)
            exact opsOkV_nil
          · intro vs wq8 hR hF
            obtain ⟨be, hvb, _, hbl⟩ := boxF_fill (by decide) (hF 14 (by decide))
            have dq15 : vs 15 = .bool true := boxF_val (by decide) (by decide) (hF 15 (by decide))
            clear hF
            try dsimp only
            rw [hvb]
            generalize vs 15 = vq15 at dq15 ⊢
            subst dq15
            replace HS := Lib.hid (HSd.out.step (hR.mod.mono (fun k hk e => by have h := HB0.out; simp at hk; omega)))
            clear HSd hR hvb
            replace HS := Lib.hid ((Ev.blk hbl).and HS.out)
            clear hbl
            have hbbg := (HS.out.now).2.2.2.2.2.2.2.2.1
            have qbg_0 := hbbg.cell 0 rfl
            have qbg_1 := hbbg.cell 1 rfl
            have qbg_2 := hbbg.cell 2 rfl
            have lbg := hbbg.lt
            clear hbbg
            have hbbe := (HS.out.now).1
            have qbe_0 := hbbe.cell 0 rfl
            have qbe_1 := hbbe.cell 1 rfl
            have qbe_2 := hbbe.cell 2 rfl
            have lbe := hbbe.lt
            clear hbbe
            go_upto_region 28 with fail
            clear qbg_0 qbg_1 qbg_2 lbg qbe_0 qbe_1 qbe_2 lbe
            have HSd := Lib.hid HS.out.drew
            refine wp_region_inv3 (act := ?acttb_r28_2) (Mod (fun _ => False)) (fun i => (tb_r28_2_F t qb qo k ka kb x zb ar cr be).getD i (fun _ _ => True)) (fun i => tb_r28_2_D.getD i []) (by kernel_rfl) (by kernel_rfl) (by kernel_rfl) (by kernel_rfl) (fun _ => Mod.refl _ _)
              (fun _ _ _ h k => h.trans k (fun _ _ e => e) (fun _ _ e => e)) ?hacttb_r28_2 (stable_list ?_) ?_ ?_
            case hacttb_r28_2 => intro vs; simp only [putAll, Nat.zero_add, Nat.reduceAdd, Act.put, List.setIfInBounds_toArray, List.set_cons_succ, List.set_cons_zero]; exact rfl
            · unfold tb_r28_2_F
              exact stable_cons (stable_val _) <| stable_cons (stable_val _) <| stable_cons (stable_val _) <| stable_cons (stable_val _) <| stable_cons (stable_val _) <| stable_cons (stable_val _) <| stable_cons (stable_val _) <| stable_cons (stable_val _) <| stable_cons (stable_val _) <| stable_cons (stable_val _) <| stable_cons (stable_val _) <| stable_cons (stable_val _) <| stable_cons (stable_val _) <| stable_cons (stable_val _) <| stable_cons (stable_val _) <| stable_cons (stable_val _) <| stable_cons (stable_val _) <| stable_cons (stable_val _) <| stable_cons (stable_val _) <| stable_cons (stable_val _) <| stable_cons (stable_val _) <| stable_cons (stable_val _) <| stable_cons (stable_val _) <| stable_cons (stable_val _) <| stable_cons (stable_val _) <| stable_cons (stable_val _) <| stable_cons (stable_val _) <| stable_cons (stable_val _) <| stable_cons (stable_val _) <| stable_cons (stable_val _) <| stable_cons (stable_val _) <| stable_cons (stable_val _) <| stable_cons (stable_val _) <| stable_cons (stable_val _) <| stable_cons (stable_val _) <| stable_nil
            · refine opsOkA_cons ?_ ?_
              · intro K vs W hR hD hK
                clear hD
                try dsimp only at hK ⊢
                simp only [Act.put, List.setIfInBounds_toArray, List.set_cons_succ, List.set_cons_zero] at hK
                go_wp2
                exact hK _ _ rfl (Mod.refl _ _)
              refine opsOkA_cons ?_ ?_
              · intro K vs W hR hD hK
                have dq0 : vs 0 = .bool true := hD 0 (by decide)
                clear hD
                try dsimp only at hK ⊢
                simp only [Act.put, List.setIfInBounds_toArray, List.set_cons_succ, List.set_cons_zero] at hK
                generalize vs 0 = vq0 at hK dq0 ⊢
                subst vq0
                go_wp2
                exact hK _ _ rfl (Mod.refl _ _)
              refine opsOkA_cons ?_ ?_
              · intro K vs W hR hD hK
                have dq1 : vs 1 = .bool false := hD 1 (by decide)
                clear hD
                try dsimp only at hK ⊢
                simp only [Act.put, List.setIfInBounds_toArray, List.set_cons_succ, List.set_cons_zero] at hK
                generalize vs 1 = vq1 at hK dq1 ⊢
                subst vq1
                go_wp2
                exact hK _ _ rfl (Mod.refl _ _)
              refine opsOkA_cons ?_ ?_
              · intro K vs W hR hD hK
                have dq2 : vs 2 = .bool false := hD 2 (by decide)
                clear hD
                try dsimp only at hK ⊢
                simp only [Act.put, List.setIfInBounds_toArray, List.set_cons_succ, List.set_cons_zero] at hK
                generalize vs 2 = vq2 at hK dq2 ⊢
                subst vq2
                go_wp2
                exact hK _ _ rfl (Mod.refl _ _)
              refine opsOkA_cons ?_ ?_
              · intro K vs W hR hD hK
                have dq2 : vs 2 = .bool false := hD 2 (by decide)
                clear hD
                try dsimp only at hK ⊢
                simp only [Act.put, List.setIfInBounds_toArray, List.set_cons_succ, List.set_cons_zero] at hK
                generalize vs 2 = vq2 at hK dq2 ⊢
                subst vq2
                go_wp2
                exact hK _ _ rfl (Mod.refl _ _)
              refine opsOkA_cons ?_ ?_
              · intro K vs W hR hD hK
                have dq2 : vs 2 = .bool false := hD 2 (by decide)
                clear hD
                try dsimp only at hK ⊢
                simp only [Act.put, List.setIfInBounds_toArray, List.set_cons_succ, List.set_cons_zero] at hK
                generalize vs 2 = vq2 at hK dq2 ⊢
                subst vq2
                go_wp2
                exact hK _ _ rfl (Mod.refl _ _)
              refine opsOkA_cons ?_ ?_
              · intro K vs W hR hD hK
                have dq2 : vs 2 = .bool false := hD 2 (by decide)
                have dq4 : vs 4 = .slice ar x cr := hD 4 (by decide)
                have dq5 : vs 5 = .int .i64 (k : Int) := hD 5 (by decide)
                clear hD
                try dsimp only at hK ⊢
                simp only [Act.put, List.setIfInBounds_toArray, List.set_cons_succ, List.set_cons_zero] at hK
                generalize vs 2 = vq2 at hK dq2 ⊢
                subst vq2
                generalize vs 4 = vq4 at hK dq4 ⊢
                subst vq4
                generalize vs 5 = vq5 at hK dq5 ⊢
                subst vq5
                have hix := HIq.out
                go_wp2_with fail
                exact hK _ _ rfl (Mod.refl _ _)
              refine opsOkA_cons ?_ ?_
              · intro K vs W hR hD hK
                have dq2 : vs 2 = .bool false := hD 2 (by decide)
                have dq6 : vs 6 = .pointer (some ⟨qb, qo, none⟩) := hD 6 (by decide)
                clear hD
                try dsimp only at hK ⊢
                simp only [Act.put, List.setIfInBounds_toArray, List.set_cons_succ, List.set_cons_zero] at hK
                generalize vs 2 = vq2 at hK dq2 ⊢
                subst vq2
                generalize vs 6 = vq6 at hK dq6 ⊢
                subst vq6
                go_wp2
                exact hK _ _ rfl (Mod.refl _ _)
              refine opsOkA_cons ?_ ?_
              · intro K vs W hR hD hK
                have dq2 : vs 2 = .bool false := hD 2 (by decide)
                have dq7 : vs 7 = .pointer (some ⟨qb, qo, none⟩) := hD 7 (by decide)
                clear hD
                try dsimp only at hK ⊢
                simp only [Act.put, List.setIfInBounds_toArray, List.set_cons_succ, List.set_cons_zero] at hK
                generalize vs 2 = vq2 at hK dq2 ⊢
                subst vq2
                generalize vs 7 = vq7 at hK dq7 ⊢
                subst vq7
                have c0 := (HSd.out.at (hR)).2.2.2.2.1
                go_wp2
                exact hK _ _ rfl (Mod.refl _ _)
              refine opsOkA_cons ?_ ?_
              · intro K vs W hR hD hK
                have dq2 : vs 2 = .bool false := hD 2 (by decide)
                clear hD
                try dsimp only at hK ⊢
                simp only [Act.put, List.setIfInBounds_toArray, List.set_cons_succ, List.set_cons_zero] at hK
                generalize vs 2 = vq2 at hK dq2 ⊢
                subst vq2
                go_wp2
                exact hK _ _ rfl (Mod.refl _ _)
              refine opsOkA_cons ?_ ?_
              · intro K vs W hR hD hK
                have dq2 : vs 2 = .bool false := hD 2 (by decide)
                clear hD
                try dsimp only at hK ⊢
                simp only [Act.put, List.setIfInBounds_toArray, List.set_cons_succ, List.set_cons_zero] at hK
                generalize vs 2 = vq2 at hK dq2 ⊢
                subst vq2
                go_wp2
                exact hK _ _ rfl (Mod.refl _ _)
              refine opsOkA_cons ?_ ?_
              · intro K vs W hR hD hK
                have dq2 : vs 2 = .bool false := hD 2 (by decide)
                have dq9 : vs 9 = .slice ar x cr := hD 9 (by decide)
                have dq10 : vs 10 = .int .i64 (k : Int) := hD 10 (by decide)
                clear hD
                try dsimp only at hK ⊢
                simp only [Act.put, List.setIfInBounds_toArray, List.set_cons_succ, List.set_cons_zero] at hK
                generalize vs 2 = vq2 at hK dq2 ⊢
                subst vq2
                generalize vs 9 = vq9 at hK dq9 ⊢
                subst vq9
                generalize vs 10 = vq10 at hK dq10 ⊢
                subst vq10
                have hix := HIq.out
                go_wp2_with fail
                exact hK _ _ rfl (Mod.refl _ _)
              refine opsOkA_cons ?_ ?_
              · intro K vs W hR hD hK
                have dq2 : vs 2 = .bool false := hD 2 (by decide)
                have dq11 : vs 11 = .pointer (some ⟨qb, qo, none⟩) := hD 11 (by decide)
                clear hD
                try dsimp only at hK ⊢
                simp only [Act.put, List.setIfInBounds_toArray, List.set_cons_succ, List.set_cons_zero] at hK
                generalize vs 2 = vq2 at hK dq2 ⊢
                subst vq2
                generalize vs 11 = vq11 at hK dq11 ⊢
                subst vq11
                go_wp2
                exact hK _ _ rfl (Mod.refl _ _)
              refine opsOkA_cons ?_ ?_
              · intro K vs W hR hD hK
                have dq2 : vs 2 = .bool false := hD 2 (by decide)
                have dq12 : vs 12 = .pointer (some ⟨qb, qo + 1, none⟩) := hD 12 (by decide)
                clear hD
                try dsimp only at hK ⊢
                simp only [Act.put, List.setIfInBounds_toArray, List.set_cons_succ, List.set_cons_zero] at hK
                generalize vs 2 = vq2 at hK dq2 ⊢
                subst vq2
                generalize vs 12 = vq12 at hK dq12 ⊢
                subst vq12
                have c0 := (HSd.out.at (hR)).2.2.2.1
                go_wp2
                exact hK _ _ rfl (Mod.refl _ _)
              refine opsOkA_cons ?_ ?_
              · intro K vs W hR hD hK
                have dq2 : vs 2 = .bool false := hD 2 (by decide)
                have dq3 : vs 3 = .pointer (some ⟨t, 0, none⟩) := hD 3 (by decide)
                have dq8 : vs 8 = .int .i64 (ka : Int) := hD 8 (by decide)
                have dq13 : vs 13 = .int .i64 (kb : Int) := hD 13 (by decide)
                clear hD
                try dsimp only at hK ⊢
                simp only [Act.put, List.setIfInBounds_toArray, List.set_cons_succ, List.set_cons_zero] at hK
                generalize vs 2 = vq2 at hK dq2 ⊢
                subst vq2
                generalize vs 3 = vq3 at hK dq3 ⊢
                subst vq3
                generalize vs 8 = vq8 at hK dq8 ⊢
                subst vq8
                generalize vs 13 = vq13 at hK dq13 ⊢
                subst vq13
                go_wp2_with (go_at_call 23; refine (may_any t p B C G W ((HSd.out.at (hR)).2.2.2.2.2.2.2.2.2.1) (ka : Int) (kb : Int)).mono ?_; rintro e' w' ⟨rfl, hm'⟩; rw [HTR.out])
                exact hK _ _ rfl hm'
              refine opsOkA_cons ?_ ?_
              · intro K vs W hR hD hK
                have dq2 : vs 2 = .bool false := hD 2 (by decide)
                have dq14 : vs 14 = .bool true := hD 14 (by decide)
                clear hD
                try dsimp only at hK ⊢
                simp only [Act.put, List.setIfInBounds_toArray, List.set_cons_succ, List.set_cons_zero] at hK
                generalize vs 2 = vq2 at hK dq2 ⊢
                subst vq2
                generalize vs 14 = vq14 at hK dq14 ⊢
                subst vq14
                go_wp2
                exact hK _ _ rfl (Mod.refl _ _)
              refine opsOkA_cons ?_ ?_
              · intro K vs W hR hD hK
                have dq2 : vs 2 = .bool false := hD 2 (by decide)
                have dq15 : vs 15 = .bool false := hD 15 (by decide)
                clear hD
                try dsimp only at hK ⊢
                simp only [Act.put, List.setIfInBounds_toArray, List.set_cons_succ, List.set_cons_zero] at hK
                generalize vs 2 = vq2 at hK dq2 ⊢
                subst vq2
                generalize vs 15 = vq15 at hK dq15 ⊢
                subst vq15
                go_wp2
                exact hK _ _ rfl (Mod.refl _ _)
              refine opsOkA_cons ?_ ?_
              · intro K vs W hR hD hK
                have dq16 : vs 16 = .bool false := hD 16 (by decide)
                clear hD
                try dsimp only at hK ⊢
                simp only [Act.put, List.setIfInBounds_toArray, List.set_cons_succ, List.set_cons_zero] at hK
                generalize vs 16 = vq16 at hK dq16 ⊢
                subst vq16
                go_wp2
                exact hK _ _ rfl (Mod.refl _ _)
              refine opsOkA_cons ?_ ?_
              · intro K vs W hR hD hK
                have dq17 : vs 17 = .bool false := hD 17 (by decide)
                clear hD
                try dsimp only at hK ⊢
                simp only [Act.put, List.setIfInBounds_toArray, List.set_cons_succ, List.set_cons_zero] at hK
                generalize vs 17 = vq17 at hK dq17 ⊢
                subst vq17
                go_wp2
                exact hK _ _ rfl (Mod.refl _ _)
              refine opsOkA_cons ?_ ?_
              · intro K vs W hR hD hK
                have dq17 : vs 17 = .bool false := hD 17 (by decide)
                clear hD
                try dsimp only at hK ⊢
                simp only [Act.put, List.setIfInBounds_toArray, List.set_cons_succ, List.set_cons_zero] at hK
                generalize vs 17 = vq17 at hK dq17 ⊢
                subst vq17
                go_wp2
                exact hK _ _ rfl (Mod.refl _ _)
              refine opsOkA_cons ?_ ?_
              · intro K vs W hR hD hK
                have dq17 : vs 17 = .bool false := hD 17 (by decide)
                have dq18 : vs 18 = .slice ar x cr := hD 18 (by decide)
                have dq19 : vs 19 = .int .i64 (k : Int) := hD 19 (by decide)
                clear hD
                try dsimp only at hK ⊢
                simp only [Act.put, List.setIfInBounds_toArray, List.set_cons_succ, List.set_cons_zero] at hK
                generalize vs 17 = vq17 at hK dq17 ⊢
                subst vq17
                generalize vs 18 = vq18 at hK dq18 ⊢
                subst vq18
                generalize vs 19 = vq19 at hK dq19 ⊢
                subst vq19
                have hix := HIq.out
                go_wp2_with fail
                exact hK _ _ rfl (Mod.refl _ _)
              refine opsOkA_cons ?_ ?_
              · intro K vs W hR hD hK
                have dq17 : vs 17 = .bool false := hD 17 (by decide)
                have dq20 : vs 20 = .pointer (some ⟨qb, qo, none⟩) := hD 20 (by decide)
                clear hD
                try dsimp only at hK ⊢
                simp only [Act.put, List.setIfInBounds_toArray, List.set_cons_succ, List.set_cons_zero] at hK
                generalize vs 17 = vq17 at hK dq17 ⊢
                subst vq17
                generalize vs 20 = vq20 at hK dq20 ⊢
                subst vq20
                go_wp2
                exact hK _ _ rfl (Mod.refl _ _)
              refine opsOkA_cons ?_ ?_
              · intro K vs W hR hD hK
                have dq17 : vs 17 = .bool false := hD 17 (by decide)
                have dq21 : vs 21 = .pointer (some ⟨qb, qo + 2, none⟩) := hD 21 (by decide)
                clear hD
                try dsimp only at hK ⊢
                simp only [Act.put, List.setIfInBounds_toArray, List.set_cons_succ, List.set_cons_zero] at hK
                generalize vs 17 = vq17 at hK dq17 ⊢
                subst vq17
                generalize vs 21 = vq21 at hK dq21 ⊢
                subst vq21
                have c0 := (HSd.out.at (hR)).2.2.1
                go_wp2
                exact hK _ _ rfl (Mod.refl _ _)
              refine opsOkA_cons ?_ ?_
              · intro K vs W hR hD hK
                have dq17 : vs 17 = .bool false := hD 17 (by decide)
                clear hD
                try dsimp only at hK ⊢
                simp only [Act.put, List.setIfInBounds_toArray, List.set_cons_succ, List.set_cons_zero] at hK
                generalize vs 17 = vq17 at hK dq17 ⊢
                subst vq17
                go_wp2
                exact hK _ _ rfl (Mod.refl _ _)
              refine opsOkA_cons ?_ ?_
              · intro K vs W hR hD hK
                have dq17 : vs 17 = .bool false := hD 17 (by decide)
                have dq23 : vs 23 = .pointer (some ⟨be, 2, none⟩) := hD 23 (by decide)
                clear hD
                try dsimp only at hK ⊢
                simp only [Act.put, List.setIfInBounds_toArray, List.set_cons_succ, List.set_cons_zero] at hK
                generalize vs 17 = vq17 at hK dq17 ⊢
                subst vq17
                generalize vs 23 = vq23 at hK dq23 ⊢
                subst vq23
                have q0 := ((HSd.out.at (hR)).1).cell 2 rfl
                go_wp2
                exact hK _ _ rfl (Mod.refl _ _)
              refine opsOkA_cons ?_ ?_
              · intro K vs W hR hD hK
                have dq17 : vs 17 = .bool false := hD 17 (by decide)
                have dq22 : vs 22 = .int .i64 zb := hD 22 (by decide)
                have dq24 : vs 24 = .int .i64 zb := hD 24 (by decide)
                clear hD
                try dsimp only at hK ⊢
                simp only [Act.put, List.setIfInBounds_toArray, List.set_cons_succ, List.set_cons_zero] at hK
                generalize vs 17 = vq17 at hK dq17 ⊢
                subst vq17
                generalize vs 22 = vq22 at hK dq22 ⊢
                subst vq22
                generalize vs 24 = vq24 at hK dq24 ⊢
                subst vq24
                go_wp2
                exact hK _ _ rfl (Mod.refl _ _)
              refine opsOkA_cons ?_ ?_
              · intro K vs W hR hD hK
                have dq17 : vs 17 = .bool false := hD 17 (by decide)
                have dq25 : vs 25 = .bool false := hD 25 (by decide)
                clear hD
                try dsimp only at hK ⊢
                simp only [Act.put, List.setIfInBounds_toArray, List.set_cons_succ, List.set_cons_zero] at hK
                generalize vs 17 = vq17 at hK dq17 ⊢
                subst vq17
                generalize vs 25 = vq25 at hK dq25 ⊢
                subst vq25
                go_wp2
                exact hK _ _ rfl (Mod.refl _ _)
              refine opsOkA_cons ?_ ?_
              · intro K vs W hR hD hK
                have dq26 : vs 26 = .bool false := hD 26 (by decide)
                clear hD
                try dsimp only at hK ⊢
                simp only [Act.put, List.setIfInBounds_toArray, List.set_cons_succ, List.set_cons_zero] at hK
                generalize vs 26 = vq26 at hK dq26 ⊢
                subst vq26
                go_wp2
                exact hK _ _ rfl (Mod.refl _ _)
              refine opsOkA_cons ?_ ?_
              · intro K vs W hR hD hK
                have dq27 : vs 27 = .bool false := hD 27 (by decide)
                clear hD
                try dsimp only at hK ⊢
                simp only [Act.put, List.setIfInBounds_toArray, List.set_cons_succ, List.set_cons_zero] at hK
                generalize vs 27 = vq27 at hK dq27 ⊢
                subst vq27
                go_wp2
                exact hK _ _ rfl (Mod.refl _ _)
              refine opsOkA_cons ?_ ?_
              · intro K vs W hR hD hK
                have dq27 : vs 27 = .bool false := hD 27 (by decide)
                clear hD
                try dsimp only at hK ⊢
                simp only [Act.put, List.setIfInBounds_toArray, List.set_cons_succ, List.set_cons_zero] at hK
                generalize vs 27 = vq27 at hK dq27 ⊢
                subst vq27
                go_wp2
                exact hK _ _ rfl (Mod.refl _ _)
              refine opsOkA_cons ?_ ?_
              · intro K vs W hR hD hK
                have dq27 : vs 27 = .bool false := hD 27 (by decide)
                have dq28 : vs 28 = .slice ar x cr := hD 28 (by decide)
                have dq29 : vs 29 = .int .i64 (k : Int) := hD 29 (by decide)
                clear hD
                try dsimp only at hK ⊢
                simp only [Act.put, List.setIfInBounds_toArray, List.set_cons_succ, List.set_cons_zero] at hK
                generalize vs 27 = vq27 at hK dq27 ⊢
                subst vq27
                generalize vs 28 = vq28 at hK dq28 ⊢
                subst vq28
                generalize vs 29 = vq29 at hK dq29 ⊢
                subst vq29
                have hix := HIq.out
                go_wp2_with fail
                exact hK _ _ rfl (Mod.refl _ _)
              refine opsOkA_cons ?_ ?_
              · intro K vs W hR hD hK
                have dq27 : vs 27 = .bool false := hD 27 (by decide)
                have dq30 : vs 30 = .pointer (some ⟨qb, qo, none⟩) := hD 30 (by decide)
                clear hD
                try dsimp only at hK ⊢
                simp only [Act.put, List.setIfInBounds_toArray, List.set_cons_succ, List.set_cons_zero] at hK
                generalize vs 27 = vq27 at hK dq27 ⊢
                subst vq27
                generalize vs 30 = vq30 at hK dq30 ⊢
                subst vq30
                go_wp2
                exact hK _ _ rfl (Mod.refl _ _)
              refine opsOkA_cons ?_ ?_
              · intro K vs W hR hD hK
                have dq27 : vs 27 = .bool false := hD 27 (by decide)
                have dq31 : vs 31 = .pointer (some ⟨qb, qo + 3, none⟩) := hD 31 (by decide)
                clear hD
                try dsimp only at hK ⊢
                simp only [Act.put, List.setIfInBounds_toArray, List.set_cons_succ, List.set_cons_zero] at hK
                generalize vs 27 = vq27 at hK dq27 ⊢
                subst vq27
                generalize vs 31 = vq31 at hK dq31 ⊢
                subst vq31
                have c0 := (HSd.out.at (hR)).2.1
                go_wp2
                exact hK _ _ rfl (Mod.refl _ _)
              refine opsOkA_cons ?_ ?_
              · intro K vs W hR hD hK
                have dq27 : vs 27 = .bool false := hD 27 (by decide)
                have dq32 : vs 32 = .int .i64 (-1) := hD 32 (by decide)
                clear hD
                try dsimp only at hK ⊢
                simp only [Act.put, List.setIfInBounds_toArray, List.set_cons_succ, List.set_cons_zero] at hK
                generalize vs 27 = vq27 at hK dq27 ⊢
                subst vq27
                generalize vs 32 = vq32 at hK dq32 ⊢
                subst vq32
                go_wp2
                exact hK _ _ rfl (Mod.refl _ _)
              refine opsOkA_cons ?_ ?_
              · intro K vs W hR hD hK
                have dq27 : vs 27 = .bool false := hD 27 (by decide)
                have dq33 : vs 33 = .bool false := hD 33 (by decide)
                clear hD
                try dsimp only at hK ⊢
                simp only [Act.put, List.setIfInBounds_toArray, List.set_cons_succ, List.set_cons_zero] at hK
                generalize vs 27 = vq27 at hK dq27 ⊢
                subst vq27
                generalize vs 33 = vq33 at hK dq33 ⊢
                subst vq33
                go_wp2
                exact hK _ _ rfl (Mod.refl _ _)
              exact opsOkA_nil
            · intro vs wq9 hR hF
              have dq34 : vs 34 = .bool false := hF 34 (by decide)
              clear hF
              try dsimp only
              generalize vs 34 = vq34 at dq34 ⊢
              subst dq34
              replace HS := Lib.hid (HSd.out.step hR)
              clear HSd hR
              have hbbg := (HS.out.now).2.2.2.2.2.2.2.2.1
              have qbg_0 := hbbg.cell 0 rfl
              have qbg_1 := hbbg.cell 1 rfl
              have qbg_2 := hbbg.cell 2 rfl
              have lbg := hbbg.lt
              clear hbbg
              have hbbe := (HS.out.now).1
              have qbe_0 := hbbe.cell 0 rfl
              have qbe_1 := hbbe.cell 1 rfl
              have qbe_2 := hbbe.cell 2 rfl
              have lbe := hbbe.lt
              clear hbbe
              clear qbg_0 qbg_1 qbg_2 lbg qbe_0 qbe_1 qbe_2 lbe
              go_wp2_with fail
              go_roundw
              case rel => exact ⟨k + 1, hlk, by go_num, (HS.out.now).2.2.2.2.2.1⟩
              case measure => simp [intOf]; omega
        case neg =>
          obtain rfl : k = x := by omega
          have z1 : decide ((k : Int) < (k : Int)) = false := by simp
          go_wp2_with fail
          refine (awake7_any _).mono ?_
          rintro e wq10 ⟨rfl, hmm⟩
          replace HS := Lib.hid (HS.out.step hmm)
          clear hmm
          go_wp2_with fail
          go_ret
          exact ⟨rfl, (HS.out.now).2.2.2.2.2.2.2⟩
theorem tboth_law (w : World) (a0 : Option Addr) (m c0 : Nat) (l : List Int) (ok : (encSlice (encInt .i64)).ok w (.slice a0 m c0, l)) :
    Calls Try.prog 4 #[.slice a0 m c0] w fun e w' => e = .returned (.bool true) ∧ Below w.heap.size w w' := by
  obtain ⟨hn, hr, _⟩ := ok_ints ok
  exact (tboth_all w a0 m c0 l hn hr).mono fun e w' h => ⟨h.1, h.2.below (Nat.le_refl _) (fun _ e => e.elim)⟩
end Go.Proofs.Ytmpcpmgpnccphaa
