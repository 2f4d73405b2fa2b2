/- GuideTells walked. -/
import Derived.Test.YtagmnkobigecnaaKGuide
import Derived.Test.YtagmnkobigecnaaKHints
import Derived.Test.YtagmnkobigecnaaSumsP
import Derived.Test.YtagmnkobigecnaaKStroll
import Derived.Test.YtagmnkobigecnaaRound
import Derived.Test.YtagmnkobigecnaaKOpen
import Derived.Deep.DeepCutAuto
import Derived.Deep.CutBlock
namespace Go.Proofs.Ytagmnkobigecnaa
open Go.RowKit Mile
set_option maxRecDepth 100000
/-- What each operation of the statement leaves. -/
def gt_r15_0_F (a5 : Option Addr) (n5 : Nat) (d5 : Nat) (at_ : Int) (c1 : Int) (c2 : Int) (c3 : Int) (c4 : Int) (vb : Bool) (L : List H4) (a1 : Option Addr) (a2 : Option Addr) (a3 : Option Addr) (n1 : Nat) (d1 : Nat) (n2 : Nat) (d2 : Nat) (n3 : Nat) (d3 : Nat) (t : Nat) : List (Value → World → Prop) :=
  [IsV (.agg #[.int .i64 c1, .int .i64 c2, .int .i64 c3, .int .i64 c4]),
   IsV (.agg #[.int .i64 c1, .int .i64 c2, .int .i64 c3, .int .i64 c4]),
   IsV (.bool false),
   IsV (.bool false),
   IsV (.bool vb),
   IsV (.bool vb),
   IsV (.bool false),
   IsV (.bool false),
   IsV (.bool false),
   IsV (.pointer (some ⟨t, 0, none⟩)),
   IsV (.int .i64 at_),
   IsV (.slice a5 n5 d5),
   (HRow L),
   IsV (.agg #[.slice a1 n1 d1, .slice a2 n2 d2, .slice a3 n3 d3]),
   IsV (.int .i64 at_),
   IsV (.slice a5 n5 d5),
   (HRow L),
   IsV (.bool true),
   IsV (.bool false),
   IsV (.bool false)]
def gt_r15_0_D : List (List Nat) := [[], [], [0, 1], [2], [3], [3], [3, 4, 5], [3, 6], [7], [8], [8], [8], [8, 9, 10, 11], [8], [8], [8], [8, 13, 14, 15], [8, 12, 16], [8, 17], [8, 18]]

/-- What each operation of the statement leaves. -/
def gt_r15_1_F (aw : Option Addr) (lw : Nat) (cw : Nat) (er : Nat) (c1 : Int) (c2 : Int) (c3 : Int) (c4 : Int) (vb : Bool) (L : List H4) (a1 : Option Addr) (a2 : Option Addr) (a3 : Option Addr) (n1 : Nat) (d1 : Nat) (n2 : Nat) (d2 : Nat) (n3 : Nat) (d3 : Nat) (t : Nat) : List (Value → World → Prop) :=
  [IsV (.agg #[.int .i64 c1, .int .i64 c2, .int .i64 c3, .int .i64 c4]),
   IsV (.agg #[.int .i64 c1, .int .i64 c2, .int .i64 c3, .int .i64 c4]),
   IsV (.bool false),
   IsV (.bool false),
   IsV (.bool vb),
   IsV (.bool vb),
   IsV (.bool false),
   IsV (.bool false),
   IsV (.bool false),
   IsV (.pointer (some ⟨t, 0, none⟩)),
   IsV (.int .i64 (er : Int)),
   IsV (.slice aw lw cw),
   (HRow L),
   IsV (.agg #[.slice a1 n1 d1, .slice a2 n2 d2, .slice a3 n3 d3]),
   IsV (.int .i64 (er : Int)),
   IsV (.slice aw lw cw),
   (HRow L),
   IsV (.bool true),
   IsV (.bool false),
   IsV (.bool false)]
def gt_r15_1_D : List (List Nat) := [[], [], [0, 1], [2], [3], [3], [3, 4, 5], [3, 6], [7], [8], [8], [8], [8, 9, 10, 11], [8], [8], [8], [8, 13, 14, 15], [8, 12, 16], [8, 17], [8, 18]]

set_option maxHeartbeats 64000000 in
theorem gtells21_all (w : World) (a0 : Option Addr) (m c0 : Nat) (l : List Int) (hm : l.length = m) (hr : Rd w 1 (.slice a0 m c0) m (l.map (Value.int .i64))) (at_ : Int) (a5 : Option Addr) (n5 d5 : Nat) (es : List Int) (hn5 : es.length = n5) (hr5 : Rd w 1 (.slice a5 n5 d5) n5 (es.map (Value.int .i64))) (a4 : Option Addr) (n4 d4 : Nat) (st : List Int) (hn4 : st.length = n4) (hr4 : Rd w 1 (.slice a4 n4 d4) n4 (st.map (Value.int .i64))) :
    Calls Try.prog 5 #[.slice a0 m c0, .int .i64 at_, .slice a5 n5 d5, .slice a4 n4 d4] w fun e w' => e = .returned (.bool true) ∧ Mod (fun _ => False) w w' := by
  have HN4 := Lib.hid hn4
  have HN5 := Lib.hid hn5
  clear hn4 hn5
  by_cases hlen0 : m ≤ 100
  case neg =>
    have HS : Hid (Ev (Mod (fun _ => False) w) w) := Lib.hid (Ev.mod w)
    have z0 : decide (100 < (m : Int)) = true := by simp; omega
    have z1 : decide (100 < m) = true := by simp; omega
    go_enter Try.func5, Try.ntmps5
    go_wp2_with fail
    refine (awake21_any _).mono ?_
    rintro e wq1 ⟨rfl, hm⟩
    replace HS := Lib.hid (HS.out.step hm)
    clear hm
    go_wp2_with fail
    go_ret
    exact ⟨rfl, HS.out.now⟩
  by_cases hlen1 : n5 ≤ 40
  case neg =>
    have HS : Hid (Ev (Mod (fun _ => False) w) w) := Lib.hid (Ev.mod w)
    have y0 : decide (100 < (m : Int)) = false := by simp; omega
    have z0 : decide (40 < (n5 : Int)) = true := by simp; omega
    have z1 : decide (40 < n5) = true := by simp; omega
    go_enter Try.func5, Try.ntmps5
    go_wp2_with fail
    refine (awake21_any _).mono ?_
    rintro e wq2 ⟨rfl, hm⟩
    replace HS := Lib.hid (HS.out.step hm)
    clear hm
    go_wp2_with fail
    go_ret
    exact ⟨rfl, HS.out.now⟩
  by_cases hlen2 : n4 ≤ 40
  case neg =>
    have HS : Hid (Ev (Mod (fun _ => False) w) w) := Lib.hid (Ev.mod w)
    have y0 : decide (100 < (m : Int)) = false := by simp; omega
    have y1 : decide (40 < (n5 : Int)) = false := by simp; omega
    have z0 : decide (40 < (n4 : Int)) = true := by simp; omega
    have z1 : decide (40 < n4) = true := by simp; omega
    go_enter Try.func5, Try.ntmps5
    go_wp2_with fail
    refine (awake21_any _).mono ?_
    rintro e wq3 ⟨rfl, hm⟩
    replace HS := Lib.hid (HS.out.step hm)
    clear hm
    go_wp2_with fail
    go_ret
    exact ⟨rfl, HS.out.now⟩
  have HS : Hid (Ev (Mod (fun _ => False) w) w) := Lib.hid (Ev.mod w)
  have y0 : decide (100 < (m : Int)) = false := by simp; omega
  have y1 : decide (40 < (n5 : Int)) = false := by simp; omega
  have y2 : decide (40 < (n4 : Int)) = false := by simp; omega
  replace HS := Lib.hid ((Ev.rd hr).and HS.out)
  replace HS := Lib.hid ((Ev.rd hr4).and HS.out)
  replace HS := Lib.hid ((Ev.rd hr5).and HS.out)
  clear hr hr4 hr5
  go_enter Try.func5, Try.ntmps5
  go_wp2_with fail
  refine (made21_any _ a0 m c0 l hm ((HS.out.now).2.2.1)).mono ?_
  rintro e wq4 ⟨a1, n1, d1, a2, n2, d2, a3, n3, d3, t, p, B, C, rfl, hg, hto, hmm⟩
  replace HS := Lib.hid (HS.out.step hmm)
  clear hmm
  replace HS := Lib.hid ((Ev.gv hg).and HS.out)
  replace HS := Lib.hid ((Ev.to hto).and HS.out)
  clear hg hto y0 y1 y2
  have hmay := Lib.hid (town_may l)
  have hfew := Lib.hid (town_few l)
  obtain ⟨G, hG⟩ : ∃ G, townG l = G := ⟨_, rfl⟩
  rw [hG] at hmay hfew
  rw [hG] at HS
  clear hG
  have hn := Lib.hid ((HS.out.now).2.1.n)
  have he := Lib.hid ((HS.out.now).2.1.e)
  have hb := Lib.hid ((HS.out.now).2.1.b)
  have h1n : n1 ≤ 16 := by have := hfew.out.1.2; have := hn.out; omega
  have h2n : n2 ≤ 67 := by have := hfew.out.2.1.2; have := he.out; omega
  have h2p : 1 ≤ n2 := by have := hfew.out.2.1.1; have := he.out; omega
  have h3n : n3 ≤ 469 := by have := hfew.out.2.2; have := hb.out; omega
  go_wp2_with fail
  obtain ⟨bg, hbg⟩ : ∃ b, wq4.heap.size = b := ⟨_, rfl⟩
  obtain ⟨wq5, hwq5⟩ : ∃ W, World.alloc wq4 (.cells #[.slice a1 n1 d1, .slice a2 n2 d2, .slice a3 n3 d3] 28) = W := ⟨_, rfl⟩
  have hBbg : Blk wq5 bg 28 [.slice a1 n1 d1, .slice a2 n2 d2, .slice a3 n3 d3] := by rw [← hwq5, ← hbg]; exact Blk.new _ 28 [.slice a1 n1 d1, .slice a2 n2 d2, .slice a3 n3 d3]
  have hzbg : wq5.heap.size = bg + 1 := by rw [← hwq5, ← hbg]; exact heap_size_alloc _ _
  replace HS := Lib.hid (HS.out.step (w' := wq5) (by rw [← hwq5]; exact Mod.alloc _ _ _))
  replace HS := Lib.hid ((Ev.blk hBbg).and HS.out)
  try rw [hwq5]
  try rw [hbg]
  clear hzbg hBbg hbg hwq5
  have hbbg := (HS.out.now).1
  have qbg_0 := hbbg.cell 0 rfl
  have qbg_1 := hbbg.cell 1 rfl
  have qbg_2 := hbbg.cell 2 rfl
  have lbg := hbbg.lt
  clear hbbg
  clear qbg_0 qbg_1 qbg_2 lbg
  replace HS := Lib.hid ((Ev.mod wq5).and HS.out)
  go_loopw [11, 12, 13] (fun i e5 w5 wr => ∃ j : Nat, j ≤ 2 ∧ i = .int .i64 j ∧ Mod (fun _ => False) wq5 wr) (fun i e5 w5 _ => 2 - (intOf i).toNat)
  case atStart => exact ⟨0, by omega, rfl, Mod.refl _ _⟩
  case round =>
    obtain ⟨j, hj, rfl, hmr⟩ := hrel
    obtain ⟨wo, hwo⟩ : ∃ x : World, x = wr := ⟨_, rfl⟩
    subst hwo
    replace HS := Lib.hid (HS.out.step hmr)
    clear hmr
    have hbbg := (HS.out.now).2.1
    have qbg_0 := hbbg.cell 0 rfl
    have qbg_1 := hbbg.cell 1 rfl
    have qbg_2 := hbbg.cell 2 rfl
    have lbg := hbbg.lt
    clear hbbg
    by_cases h2 : j = 2
    case pos =>
      subst h2
      go_wp2_with fail
      refine (awake21_any _).mono ?_
      rintro e wq6 ⟨rfl, hmm⟩
      replace HS := Lib.hid (HS.out.step hmm)
      clear hmm
      clear qbg_0 qbg_1 qbg_2 lbg
      have hbbg := (HS.out.now).2.1
      have qbg_0 := hbbg.cell 0 rfl
      have qbg_1 := hbbg.cell 1 rfl
      have qbg_2 := hbbg.cell 2 rfl
      have lbg := hbbg.lt
      clear hbbg
      go_wp2_with fail
      go_ret
      exact ⟨rfl, (HS.out.now).2.2.2.2.2.2.2⟩
    case neg =>
      by_cases h0 : j = 0
      case pos =>
        subst h0
        obtain ⟨vb, hvb⟩ : ∃ b, validB G at_ es = b := ⟨_, rfl⟩
        obtain ⟨c1, c2, c3, c4, hc⟩ : ∃ (c1 c2 c3 c4 : Int), (if validB G at_ es = true then (nextL G (wtN G es) at_ es 0 0).1 else (0, 0, 0, 0)) = (c1, c2, c3, c4) := ⟨_, _, _, _, rfl⟩
        obtain ⟨L, hL⟩ : ∃ L, (if validB G at_ es = true then hintsL G (n5 + 1) at_ es (wtN G es) else []) = L := ⟨_, rfl⟩
        have HVB := Lib.hid hvb
        have HH : Hid (hintV (if validB G at_ es = true then (nextL G (wtN G es) at_ es 0 0).1 else (0, 0, 0, 0)) = .agg #[.int .i64 c1, .int .i64 c2, .int .i64 c3, .int .i64 c4]) := Lib.hid (by rw [hc]; rfl)
        have HL := Lib.hid hL
        have hnl : L.length ≤ 1000 := by rw [← hL]; split; exact Nat.le_trans (hintsL_len _ _ _ _ _) (by omega); simp
        have HNL := Lib.hid hnl
        clear hvb hc hL hnl
        go_wp2_with fail
        refine (ghint_any t p B C G hmay.out _ ((HS.out.now).2.2.1) at_ a5 n5 d5 es HN5.out ((HS.out.now).2.2.2.2.1) (by omega)).mono ?_
        rintro e wq7 ⟨rfl, hmm⟩
        replace HS := Lib.hid (HS.out.step hmm)
        clear hmm
        clear qbg_0 qbg_1 qbg_2 lbg
        have hbbg := (HS.out.now).2.1
        have qbg_0 := hbbg.cell 0 rfl
        have qbg_1 := hbbg.cell 1 rfl
        have qbg_2 := hbbg.cell 2 rfl
        have lbg := hbbg.lt
        clear hbbg
        rw [HH.out, HVB.out]
        go_upto_region 14 with fail
        obtain ⟨bo, hbo⟩ : ∃ b, wq7.heap.size = b := ⟨_, rfl⟩
        obtain ⟨wq8, hwq8⟩ : ∃ W, World.alloc wq7 (.cells #[.int .i64 c1, .int .i64 c2, .int .i64 c3, .int .i64 c4] 56) = W := ⟨_, rfl⟩
        have hBbo : Blk wq8 bo 56 [.int .i64 c1, .int .i64 c2, .int .i64 c3, .int .i64 c4] := by rw [← hwq8, ← hbo]; exact Blk.new _ 56 [.int .i64 c1, .int .i64 c2, .int .i64 c3, .int .i64 c4]
        have hzbo : wq8.heap.size = bo + 1 := by rw [← hwq8, ← hbo]; exact heap_size_alloc _ _
        replace HS := Lib.hid (HS.out.step (w' := wq8) (by rw [← hwq8]; exact Mod.alloc _ _ _))
        replace HS := Lib.hid ((Ev.blk hBbo).and HS.out)
        try rw [hwq8]
        try rw [hbo]
        clear hzbo hBbo hbo hwq8
        clear qbg_0 qbg_1 qbg_2 lbg
        have hbbg := (HS.out.now).2.2.1
        have qbg_0 := hbbg.cell 0 rfl
        have qbg_1 := hbbg.cell 1 rfl
        have qbg_2 := hbbg.cell 2 rfl
        have lbg := hbbg.lt
        clear hbbg
        have hbbo := (HS.out.now).1
        have qbo_0 := hbbo.cell 0 rfl
        have qbo_1 := hbbo.cell 1 rfl
        have qbo_2 := hbbo.cell 2 rfl
        have qbo_3 := hbbo.cell 3 rfl
        have lbo := hbbo.lt
        clear hbbo
        go_wp2_with fail
        refine (r4hint_any G hmay.out _ a1 n1 d1 a2 n2 d2 a3 n3 d3 ((HS.out.now).2.2.2.2.1) (by omega) (by omega) (by omega) at_ a5 n5 d5 es HN5.out ((HS.out.now).2.2.2.2.2.1) (by omega)).mono ?_
        rintro e wq9 ⟨rfl, hmm⟩
        replace HS := Lib.hid (HS.out.step hmm)
        clear hmm
        clear qbg_0 qbg_1 qbg_2 lbg qbo_0 qbo_1 qbo_2 qbo_3 lbo
        have hbbg := (HS.out.now).2.2.1
        have qbg_0 := hbbg.cell 0 rfl
        have qbg_1 := hbbg.cell 1 rfl
        have qbg_2 := hbbg.cell 2 rfl
        have lbg := hbbg.lt
        clear hbbg
        have hbbo := (HS.out.now).1
        have qbo_0 := hbbo.cell 0 rfl
        have qbo_1 := hbbo.cell 1 rfl
        have qbo_2 := hbbo.cell 2 rfl
        have qbo_3 := hbbo.cell 3 rfl
        have lbo := hbbo.lt
        clear hbbo
        rw [HH.out, HVB.out]
        go_upto_region 15 with fail
        obtain ⟨bp, hbp⟩ : ∃ b, wq9.heap.size = b := ⟨_, rfl⟩
        obtain ⟨wq10, hwq10⟩ : ∃ W, World.alloc wq9 (.cells #[.int .i64 c1, .int .i64 c2, .int .i64 c3, .int .i64 c4] 56) = W := ⟨_, rfl⟩
        have hBbp : Blk wq10 bp 56 [.int .i64 c1, .int .i64 c2, .int .i64 c3, .int .i64 c4] := by rw [← hwq10, ← hbp]; exact Blk.new _ 56 [.int .i64 c1, .int .i64 c2, .int .i64 c3, .int .i64 c4]
        have hzbp : wq10.heap.size = bp + 1 := by rw [← hwq10, ← hbp]; exact heap_size_alloc _ _
        replace HS := Lib.hid (HS.out.step (w' := wq10) (by rw [← hwq10]; exact Mod.alloc _ _ _))
        replace HS := Lib.hid ((Ev.blk hBbp).and HS.out)
        try rw [hwq10]
        try rw [hbp]
        clear hzbp hBbp hbp hwq10
        clear qbg_0 qbg_1 qbg_2 lbg qbo_0 qbo_1 qbo_2 qbo_3 lbo
        have hbbg := (HS.out.now).2.2.2.1
        have qbg_0 := hbbg.cell 0 rfl
        have qbg_1 := hbbg.cell 1 rfl
        have qbg_2 := hbbg.cell 2 rfl
        have lbg := hbbg.lt
        clear hbbg
        have hbbo := (HS.out.now).2.1
        have qbo_0 := hbbo.cell 0 rfl
        have qbo_1 := hbbo.cell 1 rfl
        have qbo_2 := hbbo.cell 2 rfl
        have qbo_3 := hbbo.cell 3 rfl
        have lbo := hbbo.lt
        clear hbbo
        have hbbp := (HS.out.now).1
        have qbp_0 := hbbp.cell 0 rfl
        have qbp_1 := hbbp.cell 1 rfl
        have qbp_2 := hbbp.cell 2 rfl
        have qbp_3 := hbbp.cell 3 rfl
        have lbp := hbbp.lt
        clear hbbp
        clear qbg_0 qbg_1 qbg_2 lbg qbo_0 qbo_1 qbo_2 qbo_3 lbo qbp_0 qbp_1 qbp_2 qbp_3 lbp
        have HSd := Lib.hid HS.out.drew
        refine wp_region_inv3 (act := ?actgt_r15_0) (Mod (fun _ => False)) (fun i => (gt_r15_0_F a5 n5 d5 at_ c1 c2 c3 c4 vb L a1 a2 a3 n1 d1 n2 d2 n3 d3 t).getD i (fun _ _ => True)) (fun i => gt_r15_0_D.getD i []) (by kernel_rfl) (by kernel_rfl) (by kernel_rfl) (by kernel_rfl) (fun _ => Mod.refl _ _)
          (fun _ _ _ h k => h.trans k (fun _ _ e => e) (fun _ _ e => e)) ?hactgt_r15_0 (stable_list ?_) ?_ ?_
        case hactgt_r15_0 => intro vs; simp only [putAll, Nat.zero_add, Nat.reduceAdd, Act.put, List.setIfInBounds_toArray, List.set_cons_succ, List.set_cons_zero]; exact rfl
        · unfold gt_r15_0_F
          exact stable_cons (stable_val _) <| stable_cons (stable_val _) <| stable_cons (stable_val _) <| stable_cons (stable_val _) <| stable_cons (stable_val _) <| stable_cons (stable_val _) <| stable_cons (stable_val _) <| stable_cons (stable_val _) <| stable_cons (stable_val _) <| stable_cons (stable_val _) <| stable_cons (stable_val _) <| stable_cons (stable_val _) <| stable_cons (HRow.st _) <| stable_cons (stable_val _) <| stable_cons (stable_val _) <| stable_cons (stable_val _) <| stable_cons (HRow.st _) <| stable_cons (stable_val _) <| stable_cons (stable_val _) <| stable_cons (stable_val _) <| stable_nil
        · refine opsOkA_cons ?_ ?_
          · intro K vs W hR hD hK
            clear hD
            try dsimp only at hK ⊢
            simp only [Act.put, List.setIfInBounds_toArray, List.set_cons_succ, List.set_cons_zero] at hK
            have hb := (HSd.out.at (hR)).2.1
            have q0 := hb.cell 0 rfl
            have q1 := hb.cell 1 rfl
            have q2 := hb.cell 2 rfl
            have q3 := hb.cell 3 rfl
            go_wp2
            exact hK _ _ rfl (Mod.refl _ _)
          refine opsOkA_cons ?_ ?_
          · intro K vs W hR hD hK
            clear hD
            try dsimp only at hK ⊢
            simp only [Act.put, List.setIfInBounds_toArray, List.set_cons_succ, List.set_cons_zero] at hK
            have hb := (HSd.out.at (hR)).1
            have q0 := hb.cell 0 rfl
            have q1 := hb.cell 1 rfl
            have q2 := hb.cell 2 rfl
            have q3 := hb.cell 3 rfl
            go_wp2
            exact hK _ _ rfl (Mod.refl _ _)
          refine opsOkA_cons ?_ ?_
          · intro K vs W hR hD hK
            have dq0 : vs 0 = .agg #[.int .i64 c1, .int .i64 c2, .int .i64 c3, .int .i64 c4] := hD 0 (by decide)
            have dq1 : vs 1 = .agg #[.int .i64 c1, .int .i64 c2, .int .i64 c3, .int .i64 c4] := hD 1 (by decide)
            clear hD
            try dsimp only at hK ⊢
            simp only [Act.put, List.setIfInBounds_toArray, List.set_cons_succ, List.set_cons_zero] at hK
            generalize vs 0 = vq0 at hK dq0 ⊢
            subst vq0
            generalize vs 1 = vq1 at hK dq1 ⊢
            subst vq1
            go_wp2
            exact hK _ _ rfl (Mod.refl _ _)
          refine opsOkA_cons ?_ ?_
          · intro K vs W hR hD hK
            have dq2 : vs 2 = .bool false := hD 2 (by decide)
            clear hD
            try dsimp only at hK ⊢
            simp only [Act.put, List.setIfInBounds_toArray, List.set_cons_succ, List.set_cons_zero] at hK
            generalize vs 2 = vq2 at hK dq2 ⊢
            subst vq2
            go_wp2
            exact hK _ _ rfl (Mod.refl _ _)
          refine opsOkA_cons ?_ ?_
          · intro K vs W hR hD hK
            have dq3 : vs 3 = .bool false := hD 3 (by decide)
            clear hD
            try dsimp only at hK ⊢
            simp only [Act.put, List.setIfInBounds_toArray, List.set_cons_succ, List.set_cons_zero] at hK
            generalize vs 3 = vq3 at hK dq3 ⊢
            subst vq3
            go_wp2
            exact hK _ _ rfl (Mod.refl _ _)
          refine opsOkA_cons ?_ ?_
          · intro K vs W hR hD hK
            have dq3 : vs 3 = .bool false := hD 3 (by decide)
            clear hD
            try dsimp only at hK ⊢
            simp only [Act.put, List.setIfInBounds_toArray, List.set_cons_succ, List.set_cons_zero] at hK
            generalize vs 3 = vq3 at hK dq3 ⊢
            subst vq3
            go_wp2
            exact hK _ _ rfl (Mod.refl _ _)
          refine opsOkA_cons ?_ ?_
          · intro K vs W hR hD hK
            have dq3 : vs 3 = .bool false := hD 3 (by decide)
            have dq4 : vs 4 = .bool vb := hD 4 (by decide)
            have dq5 : vs 5 = .bool vb := hD 5 (by decide)
            clear hD
            try dsimp only at hK ⊢
            simp only [Act.put, List.setIfInBounds_toArray, List.set_cons_succ, List.set_cons_zero] at hK
            generalize vs 3 = vq3 at hK dq3 ⊢
            subst vq3
            generalize vs 4 = vq4 at hK dq4 ⊢
            subst vq4
            generalize vs 5 = vq5 at hK dq5 ⊢
            subst vq5
            go_wp2
            exact hK _ _ rfl (Mod.refl _ _)
          refine opsOkA_cons ?_ ?_
          · intro K vs W hR hD hK
            have dq3 : vs 3 = .bool false := hD 3 (by decide)
            have dq6 : vs 6 = .bool false := hD 6 (by decide)
            clear hD
            try dsimp only at hK ⊢
            simp only [Act.put, List.setIfInBounds_toArray, List.set_cons_succ, List.set_cons_zero] at hK
            generalize vs 3 = vq3 at hK dq3 ⊢
            subst vq3
            generalize vs 6 = vq6 at hK dq6 ⊢
            subst vq6
            go_wp2
            exact hK _ _ rfl (Mod.refl _ _)
          refine opsOkA_cons ?_ ?_
          · intro K vs W hR hD hK
            have dq7 : vs 7 = .bool false := hD 7 (by decide)
            clear hD
            try dsimp only at hK ⊢
            simp only [Act.put, List.setIfInBounds_toArray, List.set_cons_succ, List.set_cons_zero] at hK
            generalize vs 7 = vq7 at hK dq7 ⊢
            subst vq7
            go_wp2
            exact hK _ _ rfl (Mod.refl _ _)
          refine opsOkA_cons ?_ ?_
          · intro K vs W hR hD hK
            have dq8 : vs 8 = .bool false := hD 8 (by decide)
            clear hD
            try dsimp only at hK ⊢
            simp only [Act.put, List.setIfInBounds_toArray, List.set_cons_succ, List.set_cons_zero] at hK
            generalize vs 8 = vq8 at hK dq8 ⊢
            subst vq8
            go_wp2
            exact hK _ _ rfl (Mod.refl _ _)
          refine opsOkA_cons ?_ ?_
          · intro K vs W hR hD hK
            have dq8 : vs 8 = .bool false := hD 8 (by decide)
            clear hD
            try dsimp only at hK ⊢
            simp only [Act.put, List.setIfInBounds_toArray, List.set_cons_succ, List.set_cons_zero] at hK
            generalize vs 8 = vq8 at hK dq8 ⊢
            subst vq8
            go_wp2
            exact hK _ _ rfl (Mod.refl _ _)
          refine opsOkA_cons ?_ ?_
          · intro K vs W hR hD hK
            have dq8 : vs 8 = .bool false := hD 8 (by decide)
            clear hD
            try dsimp only at hK ⊢
            simp only [Act.put, List.setIfInBounds_toArray, List.set_cons_succ, List.set_cons_zero] at hK
            generalize vs 8 = vq8 at hK dq8 ⊢
            subst vq8
            go_wp2
            exact hK _ _ rfl (Mod.refl _ _)
          refine opsOkA_cons ?_ ?_
          · intro K vs W hR hD hK
            have dq8 : vs 8 = .bool false := hD 8 (by decide)
            have dq9 : vs 9 = .pointer (some ⟨t, 0, none⟩) := hD 9 (by decide)
            have dq10 : vs 10 = .int .i64 at_ := hD 10 (by decide)
            have dq11 : vs 11 = .slice a5 n5 d5 := hD 11 (by decide)
            clear hD
            try dsimp only at hK ⊢
            simp only [Act.put, List.setIfInBounds_toArray, List.set_cons_succ, List.set_cons_zero] at hK
            generalize vs 8 = vq8 at hK dq8 ⊢
            subst vq8
            generalize vs 9 = vq9 at hK dq9 ⊢
            subst vq9
            generalize vs 10 = vq10 at hK dq10 ⊢
            subst vq10
            generalize vs 11 = vq11 at hK dq11 ⊢
            subst vq11
            go_wp2_with (go_at_call 32; refine (gall_any t p B C G hmay.out W ((HSd.out.at (hR)).2.2.2.2.1) at_ a5 n5 d5 es HN5.out ((HSd.out.at (hR)).2.2.2.2.2.2.1) (by omega)).mono ?_; rintro e' w' ⟨x', rfl, hx', hm'⟩)
            exact hK _ _ (by rw [HL.out] at hx'; exact hx') hm'
          refine opsOkA_cons ?_ ?_
          · intro K vs W hR hD hK
            have dq8 : vs 8 = .bool false := hD 8 (by decide)
            clear hD
            try dsimp only at hK ⊢
            simp only [Act.put, List.setIfInBounds_toArray, List.set_cons_succ, List.set_cons_zero] at hK
            generalize vs 8 = vq8 at hK dq8 ⊢
            subst vq8
            have hbx := (HSd.out.at (hR)).2.2.2.1
            have q0 := hbx.cell 0 rfl
            have q1 := hbx.cell 1 rfl
            have q2 := hbx.cell 2 rfl
            go_wp2
            exact hK _ _ rfl (Mod.refl _ _)
          refine opsOkA_cons ?_ ?_
          · intro K vs W hR hD hK
            have dq8 : vs 8 = .bool false := hD 8 (by decide)
            clear hD
            try dsimp only at hK ⊢
            simp only [Act.put, List.setIfInBounds_toArray, List.set_cons_succ, List.set_cons_zero] at hK
            generalize vs 8 = vq8 at hK dq8 ⊢
            subst vq8
            go_wp2
            exact hK _ _ rfl (Mod.refl _ _)
          refine opsOkA_cons ?_ ?_
          · intro K vs W hR hD hK
            have dq8 : vs 8 = .bool false := hD 8 (by decide)
            clear hD
            try dsimp only at hK ⊢
            simp only [Act.put, List.setIfInBounds_toArray, List.set_cons_succ, List.set_cons_zero] at hK
            generalize vs 8 = vq8 at hK dq8 ⊢
            subst vq8
            go_wp2
            exact hK _ _ rfl (Mod.refl _ _)
          refine opsOkA_cons ?_ ?_
          · intro K vs W hR hD hK
            have dq8 : vs 8 = .bool false := hD 8 (by decide)
            have dq13 : vs 13 = .agg #[.slice a1 n1 d1, .slice a2 n2 d2, .slice a3 n3 d3] := hD 13 (by decide)
            have dq14 : vs 14 = .int .i64 at_ := hD 14 (by decide)
            have dq15 : vs 15 = .slice a5 n5 d5 := hD 15 (by decide)
            clear hD
            try dsimp only at hK ⊢
            simp only [Act.put, List.setIfInBounds_toArray, List.set_cons_succ, List.set_cons_zero] at hK
            generalize vs 8 = vq8 at hK dq8 ⊢
            subst vq8
            generalize vs 13 = vq13 at hK dq13 ⊢
            subst vq13
            generalize vs 14 = vq14 at hK dq14 ⊢
            subst vq14
            generalize vs 15 = vq15 at hK dq15 ⊢
            subst vq15
            go_wp2_with (go_at_call 33; refine (r4hints_any G hmay.out W a1 n1 d1 a2 n2 d2 a3 n3 d3 ((HSd.out.at (hR)).2.2.2.2.2.1) (by omega) (by omega) (by omega) at_ a5 n5 d5 es HN5.out ((HSd.out.at (hR)).2.2.2.2.2.2.1) (by omega)).mono ?_; rintro e' w' ⟨x', rfl, hx', hm'⟩)
            exact hK _ _ (by rw [HL.out] at hx'; exact hx') hm'
          refine opsOkA_cons ?_ ?_
          · intro K vs W hR hD hK
            have dq8 : vs 8 = .bool false := hD 8 (by decide)
            have dq12 : (HRow L) (vs 12) W := hD 12 (by decide)
            have dq16 : (HRow L) (vs 16) W := hD 16 (by decide)
            clear hD
            try dsimp only at hK ⊢
            simp only [Act.put, List.setIfInBounds_toArray, List.set_cons_succ, List.set_cons_zero] at hK
            generalize vs 8 = vq8 at hK dq8 ⊢
            subst vq8
            generalize vs 12 = vq12 at hK dq12 ⊢
            generalize vs 16 = vq16 at hK dq16 ⊢
            obtain ⟨ax12, cx12, rfl, hx12⟩ := dq12
            obtain ⟨ax16, cx16, rfl, hx16⟩ := dq16
            go_wp2_with (go_at_call 31; refine (r4same_eq W ax12 L.length cx12 L rfl hx12 ax16 cx16 hx16 (by have := HNL.out; omega)).mono ?_; rintro e' w' ⟨rfl, hm'⟩)
            exact hK _ _ rfl hm'
          refine opsOkA_cons ?_ ?_
          · intro K vs W hR hD hK
            have dq8 : vs 8 = .bool false := hD 8 (by decide)
            have dq17 : vs 17 = .bool true := hD 17 (by decide)
            clear hD
            try dsimp only at hK ⊢
            simp only [Act.put, List.setIfInBounds_toArray, List.set_cons_succ, List.set_cons_zero] at hK
            generalize vs 8 = vq8 at hK dq8 ⊢
            subst vq8
            generalize vs 17 = vq17 at hK dq17 ⊢
            subst vq17
            go_wp2
            exact hK _ _ rfl (Mod.refl _ _)
          refine opsOkA_cons ?_ ?_
          · intro K vs W hR hD hK
            have dq8 : vs 8 = .bool false := hD 8 (by decide)
            have dq18 : vs 18 = .bool false := hD 18 (by decide)
            clear hD
            try dsimp only at hK ⊢
            simp only [Act.put, List.setIfInBounds_toArray, List.set_cons_succ, List.set_cons_zero] at hK
            generalize vs 8 = vq8 at hK dq8 ⊢
            subst vq8
            generalize vs 18 = vq18 at hK dq18 ⊢
            subst vq18
            go_wp2
            exact hK _ _ rfl (Mod.refl _ _)
          exact opsOkA_nil
        · intro vs wq11 hR hF
          have dq19 : vs 19 = .bool false := hF 19 (by decide)
          clear hF
          try dsimp only
          generalize vs 19 = vq19 at dq19 ⊢
          subst dq19
          replace HS := Lib.hid (HSd.out.step hR)
          clear HSd hR
          have hbbg := (HS.out.now).2.2.2.1
          have qbg_0 := hbbg.cell 0 rfl
          have qbg_1 := hbbg.cell 1 rfl
          have qbg_2 := hbbg.cell 2 rfl
          have lbg := hbbg.lt
          clear hbbg
          have hbbo := (HS.out.now).2.1
          have qbo_0 := hbbo.cell 0 rfl
          have qbo_1 := hbbo.cell 1 rfl
          have qbo_2 := hbbo.cell 2 rfl
          have qbo_3 := hbbo.cell 3 rfl
          have lbo := hbbo.lt
          clear hbbo
          have hbbp := (HS.out.now).1
          have qbp_0 := hbbp.cell 0 rfl
          have qbp_1 := hbbp.cell 1 rfl
          have qbp_2 := hbbp.cell 2 rfl
          have qbp_3 := hbbp.cell 3 rfl
          have lbp := hbbp.lt
          clear hbbp
          clear qbg_0 qbg_1 qbg_2 lbg qbo_0 qbo_1 qbo_2 qbo_3 lbo qbp_0 qbp_1 qbp_2 qbp_3 lbp
          have hbbg := (HS.out.now).2.2.2.1
          have qbg_0 := hbbg.cell 0 rfl
          have qbg_1 := hbbg.cell 1 rfl
          have qbg_2 := hbbg.cell 2 rfl
          have lbg := hbbg.lt
          clear hbbg
          go_wp2_with fail
          go_roundw
          case rel => exact ⟨1, by omega, rfl, (HS.out.now).2.2.1⟩
          case measure => simp [intOf]
      case neg =>
        obtain rfl : j = 1 := by omega
        go_wp2_with fail
        refine (round_any at_ (n2 : Int) _ (by omega) (by omega)).mono ?_
        rintro e w' ⟨rfl, rfl⟩
        have hr0 := Int.emod_nonneg (at_) (b := (n2 : Int)) (by omega)
        have hr1 := Int.emod_lt_of_pos (at_) (b := (n2 : Int)) (by omega)
        obtain ⟨er, hr2⟩ := Int.eq_ofNat_of_zero_le hr0
        rw [hr2] at hr1 ⊢
        have HE0 := Lib.hid hr2
        have HE0b := hr1
        clear hr0 hr1 hr2
        go_wp2_with fail
        refine (stroll_any G _ a1 n1 d1 a2 n2 d2 a3 n3 d3 ((HS.out.now).2.2.2.1) (by omega) (by omega) (er : Int) a4 n4 d4 st HN4.out ((HS.out.now).2.2.2.2.2.1) (by omega)).mono ?_
        rintro e wq12 ⟨v', rfl, ⟨aw, cw, rfl, hx'⟩, hmm⟩
        replace HS := Lib.hid (HS.out.step hmm)
        clear hmm
        replace HS := Lib.hid ((Ev.rd hx').and HS.out)
        clear hx'
        clear qbg_0 qbg_1 qbg_2 lbg
        have hbbg := (HS.out.now).2.2.1
        have qbg_0 := hbbg.cell 0 rfl
        have qbg_1 := hbbg.cell 1 rfl
        have qbg_2 := hbbg.cell 2 rfl
        have lbg := hbbg.lt
        clear hbbg
        obtain ⟨ws, hws⟩ : ∃ l, strollL G (er : Int) st = l := ⟨_, rfl⟩
        have hwk := stroll_wlk G (er : Int) st
        have hwl := stroll_len G (er : Int) st
        rw [hws] at HS hwk hwl ⊢
        have HWS := Lib.hid hws
        have HWK := Lib.hid hwk
        clear hws hwk
        obtain ⟨lw, hlw⟩ : ∃ n, ws.length = n := ⟨_, rfl⟩
        rw [hlw] at HS hwl ⊢
        have HLW := Lib.hid hlw
        have hl4 : lw ≤ 40 := by have := HN4.out; omega
        clear hlw hwl
        have hcw : lw ≤ cw := rd_cap ((HS.out.now).1)
        obtain ⟨vb, hvb⟩ : ∃ b, validB G (er : Int) ws = b := ⟨_, rfl⟩
        obtain ⟨c1, c2, c3, c4, hc⟩ : ∃ (c1 c2 c3 c4 : Int), (if validB G (er : Int) ws = true then (nextL G (wtN G ws) (er : Int) ws 0 0).1 else (0, 0, 0, 0)) = (c1, c2, c3, c4) := ⟨_, _, _, _, rfl⟩
        obtain ⟨L, hL⟩ : ∃ L, (if validB G (er : Int) ws = true then hintsL G (lw + 1) (er : Int) ws (wtN G ws) else []) = L := ⟨_, rfl⟩
        have HVB := Lib.hid hvb
        have HH : Hid (hintV (if validB G (er : Int) ws = true then (nextL G (wtN G ws) (er : Int) ws 0 0).1 else (0, 0, 0, 0)) = .agg #[.int .i64 c1, .int .i64 c2, .int .i64 c3, .int .i64 c4]) := Lib.hid (by rw [hc]; rfl)
        have HL := Lib.hid hL
        have hnl : L.length ≤ 1000 := by rw [← hL]; split; exact Nat.le_trans (hintsL_len _ _ _ _ _) (by omega); simp
        have HNL := Lib.hid hnl
        clear hvb hc hL hnl
        go_wp2_with fail
        refine (ghint_any t p B C G hmay.out _ ((HS.out.now).2.2.2.1) (er : Int) aw lw cw ws HLW.out ((HS.out.now).1) (by omega)).mono ?_
        rintro e wq13 ⟨rfl, hmm⟩
        replace HS := Lib.hid (HS.out.step hmm)
        clear hmm
        clear qbg_0 qbg_1 qbg_2 lbg
        have hbbg := (HS.out.now).2.2.1
        have qbg_0 := hbbg.cell 0 rfl
        have qbg_1 := hbbg.cell 1 rfl
        have qbg_2 := hbbg.cell 2 rfl
        have lbg := hbbg.lt
        clear hbbg
        rw [HH.out, HVB.out]
        go_upto_region 14 with fail
        obtain ⟨bo, hbo⟩ : ∃ b, wq13.heap.size = b := ⟨_, rfl⟩
        obtain ⟨wq14, hwq14⟩ : ∃ W, World.alloc wq13 (.cells #[.int .i64 c1, .int .i64 c2, .int .i64 c3, .int .i64 c4] 56) = W := ⟨_, rfl⟩
        have hBbo : Blk wq14 bo 56 [.int .i64 c1, .int .i64 c2, .int .i64 c3, .int .i64 c4] := by rw [← hwq14, ← hbo]; exact Blk.new _ 56 [.int .i64 c1, .int .i64 c2, .int .i64 c3, .int .i64 c4]
        have hzbo : wq14.heap.size = bo + 1 := by rw [← hwq14, ← hbo]; exact heap_size_alloc _ _
        replace HS := Lib.hid (HS.out.step (w' := wq14) (by rw [← hwq14]; exact Mod.alloc _ _ _))
        replace HS := Lib.hid ((Ev.blk hBbo).and HS.out)
        try rw [hwq14]
        try rw [hbo]
        clear hzbo hBbo hbo hwq14
        clear qbg_0 qbg_1 qbg_2 lbg
        have hbbg := (HS.out.now).2.2.2.1
        have qbg_0 := hbbg.cell 0 rfl
        have qbg_1 := hbbg.cell 1 rfl
        have qbg_2 := hbbg.cell 2 rfl
        have lbg := hbbg.lt
        clear hbbg
        have hbbo := (HS.out.now).1
        have qbo_0 := hbbo.cell 0 rfl
        have qbo_1 := hbbo.cell 1 rfl
        have qbo_2 := hbbo.cell 2 rfl
        have qbo_3 := hbbo.cell 3 rfl
        have lbo := hbbo.lt
        clear hbbo
        go_wp2_with fail
        refine (r4hint_any G hmay.out _ a1 n1 d1 a2 n2 d2 a3 n3 d3 ((HS.out.now).2.2.2.2.2.1) (by omega) (by omega) (by omega) (er : Int) aw lw cw ws HLW.out ((HS.out.now).2.1) (by omega)).mono ?_
        rintro e wq15 ⟨rfl, hmm⟩
        replace HS := Lib.hid (HS.out.step hmm)
        clear hmm
        clear qbg_0 qbg_1 qbg_2 lbg qbo_0 qbo_1 qbo_2 qbo_3 lbo
        have hbbg := (HS.out.now).2.2.2.1
        have qbg_0 := hbbg.cell 0 rfl
        have qbg_1 := hbbg.cell 1 rfl
        have qbg_2 := hbbg.cell 2 rfl
        have lbg := hbbg.lt
        clear hbbg
        have hbbo := (HS.out.now).1
        have qbo_0 := hbbo.cell 0 rfl
        have qbo_1 := hbbo.cell 1 rfl
        have qbo_2 := hbbo.cell 2 rfl
        have qbo_3 := hbbo.cell 3 rfl
        have lbo := hbbo.lt
        clear hbbo
        rw [HH.out, HVB.out]
        go_upto_region 15 with fail
        obtain ⟨bp, hbp⟩ : ∃ b, wq15.heap.size = b := ⟨_, rfl⟩
        obtain ⟨wq16, hwq16⟩ : ∃ W, World.alloc wq15 (.cells #[.int .i64 c1, .int .i64 c2, .int .i64 c3, .int .i64 c4] 56) = W := ⟨_, rfl⟩
        have hBbp : Blk wq16 bp 56 [.int .i64 c1, .int .i64 c2, .int .i64 c3, .int .i64 c4] := by rw [← hwq16, ← hbp]; exact Blk.new _ 56 [.int .i64 c1, .int .i64 c2, .int .i64 c3, .int .i64 c4]
        have hzbp : wq16.heap.size = bp + 1 := by rw [← hwq16, ← hbp]; exact heap_size_alloc _ _
        replace HS := Lib.hid (HS.out.step (w' := wq16) (by rw [← hwq16]; exact Mod.alloc _ _ _))
        replace HS := Lib.hid ((Ev.blk hBbp).and HS.out)
        try rw [hwq16]
        try rw [hbp]
        clear hzbp hBbp hbp hwq16
        clear qbg_0 qbg_1 qbg_2 lbg qbo_0 qbo_1 qbo_2 qbo_3 lbo
        have hbbg := (HS.out.now).2.2.2.2.1
        have qbg_0 := hbbg.cell 0 rfl
        have qbg_1 := hbbg.cell 1 rfl
        have qbg_2 := hbbg.cell 2 rfl
        have lbg := hbbg.lt
        clear hbbg
        have hbbo := (HS.out.now).2.1
        have qbo_0 := hbbo.cell 0 rfl
        have qbo_1 := hbbo.cell 1 rfl
        have qbo_2 := hbbo.cell 2 rfl
        have qbo_3 := hbbo.cell 3 rfl
        have lbo := hbbo.lt
        clear hbbo
        have hbbp := (HS.out.now).1
        have qbp_0 := hbbp.cell 0 rfl
        have qbp_1 := hbbp.cell 1 rfl
        have qbp_2 := hbbp.cell 2 rfl
        have qbp_3 := hbbp.cell 3 rfl
        have lbp := hbbp.lt
        clear hbbp
        clear qbg_0 qbg_1 qbg_2 lbg qbo_0 qbo_1 qbo_2 qbo_3 lbo qbp_0 qbp_1 qbp_2 qbp_3 lbp
        have HSd := Lib.hid HS.out.drew
        refine wp_region_inv3 (act := ?actgt_r15_1) (Mod (fun _ => False)) (fun i => (gt_r15_1_F aw lw cw er c1 c2 c3 c4 vb L a1 a2 a3 n1 d1 n2 d2 n3 d3 t).getD i (fun _ _ => True)) (fun i => gt_r15_1_D.getD i []) (by kernel_rfl) (by kernel_rfl) (by kernel_rfl) (by kernel_rfl) (fun _ => Mod.refl _ _)
          (fun _ _ _ h k => h.trans k (fun _ _ e => e) (fun _ _ e => e)) ?hactgt_r15_1 (stable_list ?_) ?_ ?_
        case hactgt_r15_1 => intro vs; simp only [putAll, Nat.zero_add, Nat.reduceAdd, Act.put, List.setIfInBounds_toArray, List.set_cons_succ, List.set_cons_zero]; exact rfl
        · unfold gt_r15_1_F
          exact stable_cons (stable_val _) <| stable_cons (stable_val _) <| stable_cons (stable_val _) <| stable_cons (stable_val _) <| stable_cons (stable_val _) <| stable_cons (stable_val _) <| stable_cons (stable_val _) <| stable_cons (stable_val _) <| stable_cons (stable_val _) <| stable_cons (stable_val _) <| stable_cons (stable_val _) <| stable_cons (stable_val _) <| stable_cons (HRow.st _) <| stable_cons (stable_val _) <| stable_cons (stable_val _) <| stable_cons (stable_val _) <| stable_cons (HRow.st _) <| stable_cons (stable_val _) <| stable_cons (stable_val _) <| stable_cons (stable_val _) <| stable_nil
        · refine opsOkA_cons ?_ ?_
          · intro K vs W hR hD hK
            clear hD
            try dsimp only at hK ⊢
            simp only [Act.put, List.setIfInBounds_toArray, List.set_cons_succ, List.set_cons_zero] at hK
            have hb := (HSd.out.at (hR)).2.1
            have q0 := hb.cell 0 rfl
            have q1 := hb.cell 1 rfl
            have q2 := hb.cell 2 rfl
            have q3 := hb.cell 3 rfl
            go_wp2
            exact hK _ _ rfl (Mod.refl _ _)
          refine opsOkA_cons ?_ ?_
          · intro K vs W hR hD hK
            clear hD
            try dsimp only at hK ⊢
            simp only [Act.put, List.setIfInBounds_toArray, List.set_cons_succ, List.set_cons_zero] at hK
            have hb := (HSd.out.at (hR)).1
            have q0 := hb.cell 0 rfl
            have q1 := hb.cell 1 rfl
            have q2 := hb.cell 2 rfl
            have q3 := hb.cell 3 rfl
            go_wp2
            exact hK _ _ rfl (Mod.refl _ _)
          refine opsOkA_cons ?_ ?_
          · intro K vs W hR hD hK
            have dq0 : vs 0 = .agg #[.int .i64 c1, .int .i64 c2, .int .i64 c3, .int .i64 c4] := hD 0 (by decide)
            have dq1 : vs 1 = .agg #[.int .i64 c1, .int .i64 c2, .int .i64 c3, .int .i64 c4] := hD 1 (by decide)
            clear hD
            try dsimp only at hK ⊢
            simp only [Act.put, List.setIfInBounds_toArray, List.set_cons_succ, List.set_cons_zero] at hK
            generalize vs 0 = vq0 at hK dq0 ⊢
            subst vq0
            generalize vs 1 = vq1 at hK dq1 ⊢
            subst vq1
            go_wp2
            exact hK _ _ rfl (Mod.refl _ _)
          refine opsOkA_cons ?_ ?_
          · intro K vs W hR hD hK
            have dq2 : vs 2 = .bool false := hD 2 (by decide)
            clear hD
            try dsimp only at hK ⊢
            simp only [Act.put, List.setIfInBounds_toArray, List.set_cons_succ, List.set_cons_zero] at hK
            generalize vs 2 = vq2 at hK dq2 ⊢
            subst vq2
            go_wp2
            exact hK _ _ rfl (Mod.refl _ _)
          refine opsOkA_cons ?_ ?_
          · intro K vs W hR hD hK
            have dq3 : vs 3 = .bool false := hD 3 (by decide)
            clear hD
            try dsimp only at hK ⊢
            simp only [Act.put, List.setIfInBounds_toArray, List.set_cons_succ, List.set_cons_zero] at hK
            generalize vs 3 = vq3 at hK dq3 ⊢
            subst vq3
            go_wp2
            exact hK _ _ rfl (Mod.refl _ _)
          refine opsOkA_cons ?_ ?_
          · intro K vs W hR hD hK
            have dq3 : vs 3 = .bool false := hD 3 (by decide)
            clear hD
            try dsimp only at hK ⊢
            simp only [Act.put, List.setIfInBounds_toArray, List.set_cons_succ, List.set_cons_zero] at hK
            generalize vs 3 = vq3 at hK dq3 ⊢
            subst vq3
            go_wp2
            exact hK _ _ rfl (Mod.refl _ _)
          refine opsOkA_cons ?_ ?_
          · intro K vs W hR hD hK
            have dq3 : vs 3 = .bool false := hD 3 (by decide)
            have dq4 : vs 4 = .bool vb := hD 4 (by decide)
            have dq5 : vs 5 = .bool vb := hD 5 (by decide)
            clear hD
            try dsimp only at hK ⊢
            simp only [Act.put, List.setIfInBounds_toArray, List.set_cons_succ, List.set_cons_zero] at hK
            generalize vs 3 = vq3 at hK dq3 ⊢
            subst vq3
            generalize vs 4 = vq4 at hK dq4 ⊢
            subst vq4
            generalize vs 5 = vq5 at hK dq5 ⊢
            subst vq5
            go_wp2
            exact hK _ _ rfl (Mod.refl _ _)
          refine opsOkA_cons ?_ ?_
          · intro K vs W hR hD hK
            have dq3 : vs 3 = .bool false := hD 3 (by decide)
            have dq6 : vs 6 = .bool false := hD 6 (by decide)
            clear hD
            try dsimp only at hK ⊢
            simp only [Act.put, List.setIfInBounds_toArray, List.set_cons_succ, List.set_cons_zero] at hK
            generalize vs 3 = vq3 at hK dq3 ⊢
            subst vq3
            generalize vs 6 = vq6 at hK dq6 ⊢
            subst vq6
            go_wp2
            exact hK _ _ rfl (Mod.refl _ _)
          refine opsOkA_cons ?_ ?_
          · intro K vs W hR hD hK
            have dq7 : vs 7 = .bool false := hD 7 (by decide)
            clear hD
            try dsimp only at hK ⊢
            simp only [Act.put, List.setIfInBounds_toArray, List.set_cons_succ, List.set_cons_zero] at hK
            generalize vs 7 = vq7 at hK dq7 ⊢
            subst vq7
            go_wp2
            exact hK _ _ rfl (Mod.refl _ _)
          refine opsOkA_cons ?_ ?_
          · intro K vs W hR hD hK
            have dq8 : vs 8 = .bool false := hD 8 (by decide)
            clear hD
            try dsimp only at hK ⊢
            simp only [Act.put, List.setIfInBounds_toArray, List.set_cons_succ, List.set_cons_zero] at hK
            generalize vs 8 = vq8 at hK dq8 ⊢
            subst vq8
            go_wp2
            exact hK _ _ rfl (Mod.refl _ _)
          refine opsOkA_cons ?_ ?_
          · intro K vs W hR hD hK
            have dq8 : vs 8 = .bool false := hD 8 (by decide)
            clear hD
            try dsimp only at hK ⊢
            simp only [Act.put, List.setIfInBounds_toArray, List.set_cons_succ, List.set_cons_zero] at hK
            generalize vs 8 = vq8 at hK dq8 ⊢
            subst vq8
            go_wp2
            exact hK _ _ rfl (Mod.refl _ _)
          refine opsOkA_cons ?_ ?_
          · intro K vs W hR hD hK
            have dq8 : vs 8 = .bool false := hD 8 (by decide)
            clear hD
            try dsimp only at hK ⊢
            simp only [Act.put, List.setIfInBounds_toArray, List.set_cons_succ, List.set_cons_zero] at hK
            generalize vs 8 = vq8 at hK dq8 ⊢
            subst vq8
            go_wp2
            exact hK _ _ rfl (Mod.refl _ _)
          refine opsOkA_cons ?_ ?_
          · intro K vs W hR hD hK
            have dq8 : vs 8 = .bool false := hD 8 (by decide)
            have dq9 : vs 9 = .pointer (some ⟨t, 0, none⟩) := hD 9 (by decide)
            have dq10 : vs 10 = .int .i64 (er : Int) := hD 10 (by decide)
            have dq11 : vs 11 = .slice aw lw cw := hD 11 (by decide)
            clear hD
            try dsimp only at hK ⊢
            simp only [Act.put, List.setIfInBounds_toArray, List.set_cons_succ, List.set_cons_zero] at hK
            generalize vs 8 = vq8 at hK dq8 ⊢
            subst vq8
            generalize vs 9 = vq9 at hK dq9 ⊢
            subst vq9
            generalize vs 10 = vq10 at hK dq10 ⊢
            subst vq10
            generalize vs 11 = vq11 at hK dq11 ⊢
            subst vq11
            go_wp2_with (go_at_call 32; refine (gall_any t p B C G hmay.out W ((HSd.out.at (hR)).2.2.2.2.2.1) (er : Int) aw lw cw ws HLW.out ((HSd.out.at (hR)).2.2.1) (by omega)).mono ?_; rintro e' w' ⟨x', rfl, hx', hm'⟩)
            exact hK _ _ (by rw [HL.out] at hx'; exact hx') hm'
          refine opsOkA_cons ?_ ?_
          · intro K vs W hR hD hK
            have dq8 : vs 8 = .bool false := hD 8 (by decide)
            clear hD
            try dsimp only at hK ⊢
            simp only [Act.put, List.setIfInBounds_toArray, List.set_cons_succ, List.set_cons_zero] at hK
            generalize vs 8 = vq8 at hK dq8 ⊢
            subst vq8
            have hbx := (HSd.out.at (hR)).2.2.2.2.1
            have q0 := hbx.cell 0 rfl
            have q1 := hbx.cell 1 rfl
            have q2 := hbx.cell 2 rfl
            go_wp2
            exact hK _ _ rfl (Mod.refl _ _)
          refine opsOkA_cons ?_ ?_
          · intro K vs W hR hD hK
            have dq8 : vs 8 = .bool false := hD 8 (by decide)
            clear hD
            try dsimp only at hK ⊢
            simp only [Act.put, List.setIfInBounds_toArray, List.set_cons_succ, List.set_cons_zero] at hK
            generalize vs 8 = vq8 at hK dq8 ⊢
            subst vq8
            go_wp2
            exact hK _ _ rfl (Mod.refl _ _)
          refine opsOkA_cons ?_ ?_
          · intro K vs W hR hD hK
            have dq8 : vs 8 = .bool false := hD 8 (by decide)
            clear hD
            try dsimp only at hK ⊢
            simp only [Act.put, List.setIfInBounds_toArray, List.set_cons_succ, List.set_cons_zero] at hK
            generalize vs 8 = vq8 at hK dq8 ⊢
            subst vq8
            go_wp2
            exact hK _ _ rfl (Mod.refl _ _)
          refine opsOkA_cons ?_ ?_
          · intro K vs W hR hD hK
            have dq8 : vs 8 = .bool false := hD 8 (by decide)
            have dq13 : vs 13 = .agg #[.slice a1 n1 d1, .slice a2 n2 d2, .slice a3 n3 d3] := hD 13 (by decide)
            have dq14 : vs 14 = .int .i64 (er : Int) := hD 14 (by decide)
            have dq15 : vs 15 = .slice aw lw cw := hD 15 (by decide)
            clear hD
            try dsimp only at hK ⊢
            simp only [Act.put, List.setIfInBounds_toArray, List.set_cons_succ, List.set_cons_zero] at hK
            generalize vs 8 = vq8 at hK dq8 ⊢
            subst vq8
            generalize vs 13 = vq13 at hK dq13 ⊢
            subst vq13
            generalize vs 14 = vq14 at hK dq14 ⊢
            subst vq14
            generalize vs 15 = vq15 at hK dq15 ⊢
            subst vq15
            go_wp2_with (go_at_call 33; refine (r4hints_any G hmay.out W a1 n1 d1 a2 n2 d2 a3 n3 d3 ((HSd.out.at (hR)).2.2.2.2.2.2.1) (by omega) (by omega) (by omega) (er : Int) aw lw cw ws HLW.out ((HSd.out.at (hR)).2.2.1) (by omega)).mono ?_; rintro e' w' ⟨x', rfl, hx', hm'⟩)
            exact hK _ _ (by rw [HL.out] at hx'; exact hx') hm'
          refine opsOkA_cons ?_ ?_
          · intro K vs W hR hD hK
            have dq8 : vs 8 = .bool false := hD 8 (by decide)
            have dq12 : (HRow L) (vs 12) W := hD 12 (by decide)
            have dq16 : (HRow L) (vs 16) W := hD 16 (by decide)
            clear hD
            try dsimp only at hK ⊢
            simp only [Act.put, List.setIfInBounds_toArray, List.set_cons_succ, List.set_cons_zero] at hK
            generalize vs 8 = vq8 at hK dq8 ⊢
            subst vq8
            generalize vs 12 = vq12 at hK dq12 ⊢
            generalize vs 16 = vq16 at hK dq16 ⊢
            obtain ⟨ax12, cx12, rfl, hx12⟩ := dq12
            obtain ⟨ax16, cx16, rfl, hx16⟩ := dq16
            go_wp2_with (go_at_call 31; refine (r4same_eq W ax12 L.length cx12 L rfl hx12 ax16 cx16 hx16 (by have := HNL.out; omega)).mono ?_; rintro e' w' ⟨rfl, hm'⟩)
            exact hK _ _ rfl hm'
          refine opsOkA_cons ?_ ?_
          · intro K vs W hR hD hK
            have dq8 : vs 8 = .bool false := hD 8 (by decide)
            have dq17 : vs 17 = .bool true := hD 17 (by decide)
            clear hD
            try dsimp only at hK ⊢
            simp only [Act.put, List.setIfInBounds_toArray, List.set_cons_succ, List.set_cons_zero] at hK
            generalize vs 8 = vq8 at hK dq8 ⊢
            subst vq8
            generalize vs 17 = vq17 at hK dq17 ⊢
            subst vq17
            go_wp2
            exact hK _ _ rfl (Mod.refl _ _)
          refine opsOkA_cons ?_ ?_
          · intro K vs W hR hD hK
            have dq8 : vs 8 = .bool false := hD 8 (by decide)
            have dq18 : vs 18 = .bool false := hD 18 (by decide)
            clear hD
            try dsimp only at hK ⊢
            simp only [Act.put, List.setIfInBounds_toArray, List.set_cons_succ, List.set_cons_zero] at hK
            generalize vs 8 = vq8 at hK dq8 ⊢
            subst vq8
            generalize vs 18 = vq18 at hK dq18 ⊢
            subst vq18
            go_wp2
            exact hK _ _ rfl (Mod.refl _ _)
          exact opsOkA_nil
        · intro vs wq17 hR hF
          have dq19 : vs 19 = .bool false := hF 19 (by decide)
          clear hF
          try dsimp only
          generalize vs 19 = vq19 at dq19 ⊢
          subst dq19
          replace HS := Lib.hid (HSd.out.step hR)
          clear HSd hR
          have hbbg := (HS.out.now).2.2.2.2.1
          have qbg_0 := hbbg.cell 0 rfl
          have qbg_1 := hbbg.cell 1 rfl
          have qbg_2 := hbbg.cell 2 rfl
          have lbg := hbbg.lt
          clear hbbg
          have hbbo := (HS.out.now).2.1
          have qbo_0 := hbbo.cell 0 rfl
          have qbo_1 := hbbo.cell 1 rfl
          have qbo_2 := hbbo.cell 2 rfl
          have qbo_3 := hbbo.cell 3 rfl
          have lbo := hbbo.lt
          clear hbbo
          have hbbp := (HS.out.now).1
          have qbp_0 := hbbp.cell 0 rfl
          have qbp_1 := hbbp.cell 1 rfl
          have qbp_2 := hbbp.cell 2 rfl
          have qbp_3 := hbbp.cell 3 rfl
          have lbp := hbbp.lt
          clear hbbp
          clear qbg_0 qbg_1 qbg_2 lbg qbo_0 qbo_1 qbo_2 qbo_3 lbo qbp_0 qbp_1 qbp_2 qbp_3 lbp
          have hbbg := (HS.out.now).2.2.2.2.1
          have qbg_0 := hbbg.cell 0 rfl
          have qbg_1 := hbbg.cell 1 rfl
          have qbg_2 := hbbg.cell 2 rfl
          have lbg := hbbg.lt
          clear hbbg
          go_wp2_with fail
          go_roundw
          case rel => exact ⟨2, by omega, rfl, (HS.out.now).2.2.2.1⟩
          case measure => simp [intOf]
theorem gtells21_law (w : World) (a0 : Option Addr) (m c0 : Nat) (l : List Int) (ok : (encSlice (encInt .i64)).ok w (.slice a0 m c0, l)) (at_ : Int) (_ : (Lit.int .i64 at_).wf = true) (a5 : Option Addr) (n5 d5 : Nat) (es : List Int) (ok5 : (encSlice (encInt .i64)).ok w (.slice a5 n5 d5, es)) (a4 : Option Addr) (n4 d4 : Nat) (st : List Int) (ok4 : (encSlice (encInt .i64)).ok w (.slice a4 n4 d4, st)) :
    Calls Try.prog 5 #[.slice a0 m c0, .int .i64 at_, .slice a5 n5 d5, .slice a4 n4 d4] w fun e w' => e = .returned (.bool true) ∧ Below w.heap.size w w' := by
  obtain ⟨h1, r1, _⟩ := ok_ints ok
  obtain ⟨h4, r4, _⟩ := ok_ints ok4
  obtain ⟨h5, r5, _⟩ := ok_ints ok5
  exact (gtells21_all w a0 m c0 l h1 r1 at_ a5 n5 d5 es h5 r5 a4 n4 d4 st h4 r4).mono fun e w' h => ⟨h.1, h.2.below (Nat.le_refl _) (fun _ e => e.elim)⟩
end Go.Proofs.Ytagmnkobigecnaa
