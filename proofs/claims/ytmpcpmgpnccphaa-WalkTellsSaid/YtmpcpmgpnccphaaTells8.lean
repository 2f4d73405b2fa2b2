/- WalkTells walked. -/
import Derived.Test.YtmpcpmgpnccphaaAwake8
import Derived.Test.YtmpcpmgpnccphaaWalk
import Derived.Test.YtmpcpmgpnccphaaRWalk
import Derived.Test.YtmpcpmgpnccphaaStroll
import Derived.Test.YtmpcpmgpnccphaaRdT
import Derived.Test.YtmpcpmgpnccphaaRound
import Derived.Test.YtmpcpmgpnccphaaOpens
import Derived.Deep.DeepCutAuto
import Derived.Deep.CutBlock
namespace Go.Proofs.Ytmpcpmgpnccphaa
open Go.RowKit Mile
set_option maxRecDepth 100000
/-- What each operation of the statement leaves. -/
def wt_r17_0_F (a5 : Option Addr) (a6 : Option Addr) (n5 : Nat) (d5 : Nat) (n6 : Nat) (d6 : Nat) (from_ : Int) (wn : Int) (en : Int) (cq : Int) (wb : Bool) (vb : Bool) (a1 : Option Addr) (a2 : Option Addr) (a3 : Option Addr) (n1 : Nat) (d1 : Nat) (n2 : Nat) (d2 : Nat) (n3 : Nat) (d3 : Nat) (t : Nat) : List (Value → World → Prop) :=
  [IsV (.int .i64 wn),
   IsV (.int .i64 wn),
   IsV (.bool false),
   IsV (.bool false),
   IsV (.bool wb),
   IsV (.bool wb),
   IsV (.bool false),
   IsV (.bool false),
   IsV (.bool false),
   IsV (.int .i64 en),
   IsV (.int .i64 en),
   IsV (.bool false),
   IsV (.bool false),
   IsV (.bool false),
   IsV (.bool vb),
   IsV (.bool vb),
   IsV (.bool false),
   IsV (.bool false),
   IsV (.bool false),
   IsV (.pointer (some ⟨t, 0, none⟩)),
   IsV (.int .i64 from_),
   IsV (.slice a5 n5 d5),
   IsV (.bool vb),
   IsV (.agg #[.slice a1 n1 d1, .slice a2 n2 d2, .slice a3 n3 d3]),
   IsV (.int .i64 from_),
   IsV (.slice a5 n5 d5),
   IsV (.bool vb),
   IsV (.bool false),
   IsV (.bool false),
   IsV (.bool false),
   IsV (.slice a5 n5 d5),
   IsV (.slice a6 n6 d6),
   IsV (.int .i64 cq),
   IsV (.slice a5 n5 d5),
   IsV (.slice a6 n6 d6),
   IsV (.int .i64 cq),
   IsV (.bool false),
   IsV (.bool false)]
def wt_r17_0_D : List (List Nat) := [[], [], [0, 1], [2], [3], [3], [3, 4, 5], [3, 6], [7], [8], [8], [8, 9, 10], [8, 11], [12], [13], [13], [13, 14, 15], [13, 16], [17], [18], [18], [18], [18, 19, 20, 21], [18], [18], [18], [18, 23, 24, 25], [18, 22, 26], [18, 27], [28], [29], [29], [29, 30, 31], [29], [29], [29, 33, 34], [29, 32, 35], [29, 36]]

/-- What each operation of the statement leaves. -/
def wt_r17_1_F (a6 : Option Addr) (aw : Option Addr) (n6 : Nat) (d6 : Nat) (lw : Nat) (cw : Nat) (er : Nat) (wn : Int) (en : Int) (cq : Int) (wb : Bool) (vb : Bool) (a1 : Option Addr) (a2 : Option Addr) (a3 : Option Addr) (n1 : Nat) (d1 : Nat) (n2 : Nat) (d2 : Nat) (n3 : Nat) (d3 : Nat) (t : Nat) : List (Value → World → Prop) :=
  [IsV (.int .i64 wn),
   IsV (.int .i64 wn),
   IsV (.bool false),
   IsV (.bool false),
   IsV (.bool wb),
   IsV (.bool wb),
   IsV (.bool false),
   IsV (.bool false),
   IsV (.bool false),
   IsV (.int .i64 en),
   IsV (.int .i64 en),
   IsV (.bool false),
   IsV (.bool false),
   IsV (.bool false),
   IsV (.bool vb),
   IsV (.bool vb),
   IsV (.bool false),
   IsV (.bool false),
   IsV (.bool false),
   IsV (.pointer (some ⟨t, 0, none⟩)),
   IsV (.int .i64 (er : Int)),
   IsV (.slice aw lw cw),
   IsV (.bool vb),
   IsV (.agg #[.slice a1 n1 d1, .slice a2 n2 d2, .slice a3 n3 d3]),
   IsV (.int .i64 (er : Int)),
   IsV (.slice aw lw cw),
   IsV (.bool vb),
   IsV (.bool false),
   IsV (.bool false),
   IsV (.bool false),
   IsV (.slice aw lw cw),
   IsV (.slice a6 n6 d6),
   IsV (.int .i64 cq),
   IsV (.slice aw lw cw),
   IsV (.slice a6 n6 d6),
   IsV (.int .i64 cq),
   IsV (.bool false),
   IsV (.bool false)]
def wt_r17_1_D : List (List Nat) := [[], [], [0, 1], [2], [3], [3], [3, 4, 5], [3, 6], [7], [8], [8], [8, 9, 10], [8, 11], [12], [13], [13], [13, 14, 15], [13, 16], [17], [18], [18], [18], [18, 19, 20, 21], [18], [18], [18], [18, 23, 24, 25], [18, 22, 26], [18, 27], [28], [29], [29], [29, 30, 31], [29], [29], [29, 33, 34], [29, 32, 35], [29, 36]]

set_option maxHeartbeats 64000000 in
theorem wtells_all (w : World) (a0 : Option Addr) (m c0 : Nat) (l : List Int) (hm : l.length = m) (hr : Rd w 1 (.slice a0 m c0) m (l.map (Value.int .i64))) (from_ : Int) (a5 : Option Addr) (n5 d5 : Nat) (es : List Int) (hn5 : es.length = n5) (hr5 : Rd w 1 (.slice a5 n5 d5) n5 (es.map (Value.int .i64))) (a6 : Option Addr) (n6 d6 : Nat) (ol : List Int) (hn6 : ol.length = n6) (hr6 : Rd w 1 (.slice a6 n6 d6) n6 (ol.map (Value.int .i64))) (a4 : Option Addr) (n4 d4 : Nat) (st : List Int) (hn4 : st.length = n4) (hr4 : Rd w 1 (.slice a4 n4 d4) n4 (st.map (Value.int .i64))) :
    Calls Try.prog 7 #[.slice a0 m c0, .int .i64 from_, .slice a5 n5 d5, .slice a6 n6 d6, .slice a4 n4 d4] w fun e w' => e = .returned (.bool true) ∧ Mod (fun _ => False) w w' := by
  have HN4 := Lib.hid hn4
  have HN5 := Lib.hid hn5
  have HN6 := Lib.hid hn6
  clear hn4 hn5 hn6
  by_cases hlen0 : m ≤ 100
  case neg =>
    have HS : Hid (Ev (Mod (fun _ => False) w) w) := Lib.hid (Ev.mod w)
    have z0 : decide (100 < (m : Int)) = true := by simp; omega
    have z1 : decide (100 < m) = true := by simp; omega
    go_enter Try.func7, Try.ntmps7
    go_wp2_with fail
    refine (awake8_any _).mono ?_
    rintro e wq1 ⟨rfl, hm⟩
    replace HS := Lib.hid (HS.out.step hm)
    clear hm
    go_wp2_with fail
    go_ret
    exact ⟨rfl, HS.out.now⟩
  by_cases hlen1 : n5 ≤ 40
  case neg =>
    have HS : Hid (Ev (Mod (fun _ => False) w) w) := Lib.hid (Ev.mod w)
    have y0 : decide (100 < (m : Int)) = false := by simp; omega
    have z0 : decide (40 < (n5 : Int)) = true := by simp; omega
    have z1 : decide (40 < n5) = true := by simp; omega
    go_enter Try.func7, Try.ntmps7
    go_wp2_with fail
    refine (awake8_any _).mono ?_
    rintro e wq2 ⟨rfl, hm⟩
    replace HS := Lib.hid (HS.out.step hm)
    clear hm
    go_wp2_with fail
    go_ret
    exact ⟨rfl, HS.out.now⟩
  by_cases hlen2 : n6 ≤ 40
  case neg =>
    have HS : Hid (Ev (Mod (fun _ => False) w) w) := Lib.hid (Ev.mod w)
    have y0 : decide (100 < (m : Int)) = false := by simp; omega
    have y1 : decide (40 < (n5 : Int)) = false := by simp; omega
    have z0 : decide (40 < (n6 : Int)) = true := by simp; omega
    have z1 : decide (40 < n6) = true := by simp; omega
    go_enter Try.func7, Try.ntmps7
    go_wp2_with fail
    refine (awake8_any _).mono ?_
    rintro e wq3 ⟨rfl, hm⟩
    replace HS := Lib.hid (HS.out.step hm)
    clear hm
    go_wp2_with fail
    go_ret
    exact ⟨rfl, HS.out.now⟩
  by_cases hlen3 : n4 ≤ 40
  case neg =>
    have HS : Hid (Ev (Mod (fun _ => False) w) w) := Lib.hid (Ev.mod w)
    have y0 : decide (100 < (m : Int)) = false := by simp; omega
    have y1 : decide (40 < (n5 : Int)) = false := by simp; omega
    have y2 : decide (40 < (n6 : Int)) = false := by simp; omega
    have z0 : decide (40 < (n4 : Int)) = true := by simp; omega
    have z1 : decide (40 < n4) = true := by simp; omega
    go_enter Try.func7, Try.ntmps7
    go_wp2_with fail
    refine (awake8_any _).mono ?_
    rintro e wq4 ⟨rfl, hm⟩
    replace HS := Lib.hid (HS.out.step hm)
    clear hm
    go_wp2_with fail
    go_ret
    exact ⟨rfl, HS.out.now⟩
  have HS : Hid (Ev (Mod (fun _ => False) w) w) := Lib.hid (Ev.mod w)
  have y0 : decide (100 < (m : Int)) = false := by simp; omega
  have y1 : decide (40 < (n5 : Int)) = false := by simp; omega
  have y2 : decide (40 < (n6 : Int)) = false := by simp; omega
  have y3 : decide (40 < (n4 : Int)) = false := by simp; omega
  replace HS := Lib.hid ((Ev.rd hr).and HS.out)
  replace HS := Lib.hid ((Ev.rd hr4).and HS.out)
  replace HS := Lib.hid ((Ev.rd hr5).and HS.out)
  replace HS := Lib.hid ((Ev.rd hr6).and HS.out)
  clear hr hr4 hr5 hr6
  go_enter Try.func7, Try.ntmps7
  go_wp2_with fail
  refine (made8_any _ a0 m c0 l hm ((HS.out.now).2.2.2.1)).mono ?_
  rintro e wq5 ⟨a1, n1, d1, a2, n2, d2, a3, n3, d3, t, p, B, C, rfl, hg, hto, hmm⟩
  replace HS := Lib.hid (HS.out.step hmm)
  clear hmm
  replace HS := Lib.hid ((Ev.gv hg).and HS.out)
  replace HS := Lib.hid ((Ev.to hto).and HS.out)
  clear hg hto y0 y1 y2 y3
  have hmay := Lib.hid (town_may l)
  have hfew := Lib.hid (town_few l)
  obtain ⟨G, hG⟩ : ∃ G, townG l = G := ⟨_, rfl⟩
  rw [hG] at hmay hfew
  rw [hG] at HS
  clear hG
  have hn := Lib.hid ((HS.out.now).2.1.n)
  have he := Lib.hid ((HS.out.now).2.1.e)
  have hb := Lib.hid ((HS.out.now).2.1.b)
  have h1n : n1 ≤ 16 := by have := hfew.out.1.2; have := hn.out; omega
  have h2n : n2 ≤ 67 := by have := hfew.out.2.1.2; have := he.out; omega
  have h2p : 1 ≤ n2 := by have := hfew.out.2.1.1; have := he.out; omega
  have h3n : n3 ≤ 469 := by have := hfew.out.2.2; have := hb.out; omega
  go_wp2_with fail
  obtain ⟨bg, hbg⟩ : ∃ b, wq5.heap.size = b := ⟨_, rfl⟩
  obtain ⟨wq6, hwq6⟩ : ∃ W, World.alloc wq5 (.cells #[.slice a1 n1 d1, .slice a2 n2 d2, .slice a3 n3 d3] 28) = W := ⟨_, rfl⟩
  have hBbg : Blk wq6 bg 28 [.slice a1 n1 d1, .slice a2 n2 d2, .slice a3 n3 d3] := by rw [← hwq6, ← hbg]; exact Blk.new _ 28 [.slice a1 n1 d1, .slice a2 n2 d2, .slice a3 n3 d3]
  have hzbg : wq6.heap.size = bg + 1 := by rw [← hwq6, ← hbg]; exact heap_size_alloc _ _
  replace HS := Lib.hid (HS.out.step (w' := wq6) (by rw [← hwq6]; exact Mod.alloc _ _ _))
  replace HS := Lib.hid ((Ev.blk hBbg).and HS.out)
  try rw [hwq6]
  try rw [hbg]
  clear hzbg hBbg hbg hwq6
  have hbbg := (HS.out.now).1
  have qbg_0 := hbbg.cell 0 rfl
  have qbg_1 := hbbg.cell 1 rfl
  have qbg_2 := hbbg.cell 2 rfl
  have lbg := hbbg.lt
  clear hbbg
  clear qbg_0 qbg_1 qbg_2 lbg
  replace HS := Lib.hid ((Ev.mod wq6).and HS.out)
  go_loopw [13] (fun i wr => ∃ j : Nat, j ≤ 2 ∧ i = .int .i64 j ∧ Mod (fun _ => False) wq6 wr) (fun i _ => 2 - (intOf i).toNat)
  case atStart => exact ⟨0, by omega, rfl, Mod.refl _ _⟩
  case round =>
    obtain ⟨j, hj, rfl, hmr⟩ := hrel
    obtain ⟨wo, hwo⟩ : ∃ x : World, x = wr := ⟨_, rfl⟩
    subst hwo
    replace HS := Lib.hid (HS.out.step hmr)
    clear hmr
    have hbbg := (HS.out.now).2.1
    have qbg_0 := hbbg.cell 0 rfl
    have qbg_1 := hbbg.cell 1 rfl
    have qbg_2 := hbbg.cell 2 rfl
    have lbg := hbbg.lt
    clear hbbg
    by_cases h2 : j = 2
    case pos =>
      subst h2
      go_wp2_with fail
      refine (awake8_any _).mono ?_
      rintro e wq7 ⟨rfl, hmm⟩
      replace HS := Lib.hid (HS.out.step hmm)
      clear hmm
      clear qbg_0 qbg_1 qbg_2 lbg
      have hbbg := (HS.out.now).2.1
      have qbg_0 := hbbg.cell 0 rfl
      have qbg_1 := hbbg.cell 1 rfl
      have qbg_2 := hbbg.cell 2 rfl
      have lbg := hbbg.lt
      clear hbbg
      go_wp2_with fail
      go_ret
      exact ⟨rfl, (HS.out.now).2.2.2.2.2.2.2.2⟩
    case neg =>
      by_cases h0 : j = 0
      case pos =>
        subst h0
        obtain ⟨wn, HWN0⟩ : ∃ qz, wtN G es = qz := ⟨_, rfl⟩
        have HWN := Lib.hid HWN0
        clear HWN0
        obtain ⟨wb, HWB0⟩ : ∃ qz, allE G es = qz := ⟨_, rfl⟩
        have HWB := Lib.hid HWB0
        clear HWB0
        obtain ⟨en, HEN0⟩ : ∃ qz, endN G from_ es = qz := ⟨_, rfl⟩
        have HEN := Lib.hid HEN0
        clear HEN0
        obtain ⟨vb, HVB0⟩ : ∃ qz, validB G from_ es = qz := ⟨_, rfl⟩
        have HVB := Lib.hid HVB0
        clear HVB0
        obtain ⟨cq, HCQ0⟩ : ∃ qz, cmpL es ol = qz := ⟨_, rfl⟩
        have HCQ := Lib.hid HCQ0
        clear HCQ0
        go_wp2_with fail
        refine (wweight_any t p B C G hmay.out _ ((HS.out.now).2.2.1) a5 n5 d5 es HN5.out ((HS.out.now).2.2.2.2.2.1) (by omega)).mono ?_
        rintro e wq8 ⟨rfl, hmm⟩
        replace HS := Lib.hid (HS.out.step hmm)
        clear hmm
        clear qbg_0 qbg_1 qbg_2 lbg
        have hbbg := (HS.out.now).2.1
        have qbg_0 := hbbg.cell 0 rfl
        have qbg_1 := hbbg.cell 1 rfl
        have qbg_2 := hbbg.cell 2 rfl
        have lbg := hbbg.lt
        clear hbbg
        rw [HWN.out, HWB.out]
        go_wp2_with fail
        refine (r4weight_any G hmay.out _ a1 n1 d1 a2 n2 d2 a3 n3 d3 ((HS.out.now).2.2.2.1) (by omega) (by omega) a5 n5 d5 es HN5.out ((HS.out.now).2.2.2.2.2.1) (by omega)).mono ?_
        rintro e wq9 ⟨rfl, hmm⟩
        replace HS := Lib.hid (HS.out.step hmm)
        clear hmm
        clear qbg_0 qbg_1 qbg_2 lbg
        have hbbg := (HS.out.now).2.1
        have qbg_0 := hbbg.cell 0 rfl
        have qbg_1 := hbbg.cell 1 rfl
        have qbg_2 := hbbg.cell 2 rfl
        have lbg := hbbg.lt
        clear hbbg
        rw [HWN.out, HWB.out]
        go_wp2_with fail
        refine (wend_any t p B C G _ ((HS.out.now).2.2.1) from_ a5 n5 d5 es HN5.out ((HS.out.now).2.2.2.2.2.1) (by omega)).mono ?_
        rintro e wq10 ⟨rfl, hmm⟩
        replace HS := Lib.hid (HS.out.step hmm)
        clear hmm
        clear qbg_0 qbg_1 qbg_2 lbg
        have hbbg := (HS.out.now).2.1
        have qbg_0 := hbbg.cell 0 rfl
        have qbg_1 := hbbg.cell 1 rfl
        have qbg_2 := hbbg.cell 2 rfl
        have lbg := hbbg.lt
        clear hbbg
        rw [HEN.out, HVB.out]
        go_wp2_with fail
        refine (r4end_any G _ a1 n1 d1 a2 n2 d2 a3 n3 d3 ((HS.out.now).2.2.2.1) (by omega) (by omega) from_ a5 n5 d5 es HN5.out ((HS.out.now).2.2.2.2.2.1) (by omega)).mono ?_
        rintro e wq11 ⟨rfl, hmm⟩
        replace HS := Lib.hid (HS.out.step hmm)
        clear hmm
        clear qbg_0 qbg_1 qbg_2 lbg
        have hbbg := (HS.out.now).2.1
        have qbg_0 := hbbg.cell 0 rfl
        have qbg_1 := hbbg.cell 1 rfl
        have qbg_2 := hbbg.cell 2 rfl
        have lbg := hbbg.lt
        clear hbbg
        rw [HEN.out, HVB.out]
        go_upto_region 17 with fail
        clear qbg_0 qbg_1 qbg_2 lbg
        have HSd := Lib.hid HS.out.drew
        refine wp_region_inv3 (act := ?actwt_r17_0) (Mod (fun _ => False)) (fun i => (wt_r17_0_F a5 a6 n5 d5 n6 d6 from_ wn en cq wb vb a1 a2 a3 n1 d1 n2 d2 n3 d3 t).getD i (fun _ _ => True)) (fun i => wt_r17_0_D.getD i []) (by kernel_rfl) (by kernel_rfl) (by kernel_rfl) (by kernel_rfl) (fun _ => Mod.refl _ _)
          (fun _ _ _ h k => h.trans k (fun _ _ e => e) (fun _ _ e => e)) ?hactwt_r17_0 (stable_list ?_) ?_ ?_
        case hactwt_r17_0 => intro vs; simp only [putAll, Nat.zero_add, Nat.reduceAdd, Act.put, List.setIfInBounds_toArray, List.set_cons_succ, List.set_cons_zero]; exact rfl
        · unfold wt_r17_0_F
          exact stable_cons (stable_val _) <| stable_cons (stable_val _) <| stable_cons (stable_val _) <| stable_cons (stable_val _) <| stable_cons (stable_val _) <| stable_cons (stable_val _) <| stable_cons (stable_val _) <| stable_cons (stable_val _) <| stable_cons (stable_val _) <| stable_cons (stable_val _) <| stable_cons (stable_val _) <| stable_cons (stable_val _) <| stable_cons (stable_val _) <| stable_cons (stable_val _) <| stable_cons (stable_val _) <| stable_cons (stable_val _) <| stable_cons (stable_val _) <| stable_cons (stable_val _) <| stable_cons (stable_val _) <| stable_cons (stable_val _) <| stable_cons (stable_val _) <| stable_cons (stable_val _) <| stable_cons (stable_val _) <| stable_cons (stable_val _) <| stable_cons (stable_val _) <| stable_cons (stable_val _) <| stable_cons (stable_val _) <| stable_cons (stable_val _) <| stable_cons (stable_val _) <| stable_cons (stable_val _) <| stable_cons (stable_val _) <| stable_cons (stable_val _) <| stable_cons (stable_val _) <| stable_cons (stable_val _) <| stable_cons (stable_val _) <| stable_cons (stable_val _) <| stable_cons (stable_val _) <| stable_cons (stable_val _) <| stable_nil
        · refine opsOkA_cons ?_ ?_
          · intro K vs W hR hD hK
            clear hD
            try dsimp only at hK ⊢
            simp only [Act.put, List.setIfInBounds_toArray, List.set_cons_succ, List.set_cons_zero] at hK
            go_wp2
            exact hK _ _ rfl (Mod.refl _ _)
          refine opsOkA_cons ?_ ?_
          · intro K vs W hR hD hK
            clear hD
            try dsimp only at hK ⊢
            simp only [Act.put, List.setIfInBounds_toArray, List.set_cons_succ, List.set_cons_zero] at hK
            go_wp2
            exact hK _ _ rfl (Mod.refl _ _)
          refine opsOkA_cons ?_ ?_
          · intro K vs W hR hD hK
            have dq0 : vs 0 = .int .i64 wn := hD 0 (by decide)
            have dq1 : vs 1 = .int .i64 wn := hD 1 (by decide)
            clear hD
            try dsimp only at hK ⊢
            simp only [Act.put, List.setIfInBounds_toArray, List.set_cons_succ, List.set_cons_zero] at hK
            generalize vs 0 = vq0 at hK dq0 ⊢
            subst vq0
            generalize vs 1 = vq1 at hK dq1 ⊢
            subst vq1
            go_wp2
            exact hK _ _ rfl (Mod.refl _ _)
          refine opsOkA_cons ?_ ?_
          · intro K vs W hR hD hK
            have dq2 : vs 2 = .bool false := hD 2 (by decide)
            clear hD
            try dsimp only at hK ⊢
            simp only [Act.put, List.setIfInBounds_toArray, List.set_cons_succ, List.set_cons_zero] at hK
            generalize vs 2 = vq2 at hK dq2 ⊢
            subst vq2
            go_wp2
            exact hK _ _ rfl (Mod.refl _ _)
          refine opsOkA_cons ?_ ?_
          · intro K vs W hR hD hK
            have dq3 : vs 3 = .bool false := hD 3 (by decide)
            clear hD
            try dsimp only at hK ⊢
            simp only [Act.put, List.setIfInBounds_toArray, List.set_cons_succ, List.set_cons_zero] at hK
            generalize vs 3 = vq3 at hK dq3 ⊢
            subst vq3
            go_wp2
            exact hK _ _ rfl (Mod.refl _ _)
          refine opsOkA_cons ?_ ?_
          · intro K vs W hR hD hK
            have dq3 : vs 3 = .bool false := hD 3 (by decide)
            clear hD
            try dsimp only at hK ⊢
            simp only [Act.put, List.setIfInBounds_toArray, List.set_cons_succ, List.set_cons_zero] at hK
            generalize vs 3 = vq3 at hK dq3 ⊢
            subst vq3
            go_wp2
            exact hK _ _ rfl (Mod.refl _ _)
          refine opsOkA_cons ?_ ?_
          · intro K vs W hR hD hK
            have dq3 : vs 3 = .bool false := hD 3 (by decide)
            have dq4 : vs 4 = .bool wb := hD 4 (by decide)
            have dq5 : vs 5 = .bool wb := hD 5 (by decide)
            clear hD
            try dsimp only at hK ⊢
            simp only [Act.put, List.setIfInBounds_toArray, List.set_cons_succ, List.set_cons_zero] at hK
            generalize vs 3 = vq3 at hK dq3 ⊢
            subst vq3
            generalize vs 4 = vq4 at hK dq4 ⊢
            subst vq4
            generalize vs 5 = vq5 at hK dq5 ⊢
            subst vq5
            go_wp2
            exact hK _ _ rfl (Mod.refl _ _)
          refine opsOkA_cons ?_ ?_
          · intro K vs W hR hD hK
            have dq3 : vs 3 = .bool false := hD 3 (by decide)
            have dq6 : vs 6 = .bool false := hD 6 (by decide)
            clear hD
            try dsimp only at hK ⊢
            simp only [Act.put, List.setIfInBounds_toArray, List.set_cons_succ, List.set_cons_zero] at hK
            generalize vs 3 = vq3 at hK dq3 ⊢
            subst vq3
            generalize vs 6 = vq6 at hK dq6 ⊢
            subst vq6
            go_wp2
            exact hK _ _ rfl (Mod.refl _ _)
          refine opsOkA_cons ?_ ?_
          · intro K vs W hR hD hK
            have dq7 : vs 7 = .bool false := hD 7 (by decide)
            clear hD
            try dsimp only at hK ⊢
            simp only [Act.put, List.setIfInBounds_toArray, List.set_cons_succ, List.set_cons_zero] at hK
            generalize vs 7 = vq7 at hK dq7 ⊢
            subst vq7
            go_wp2
            exact hK _ _ rfl (Mod.refl _ _)
          refine opsOkA_cons ?_ ?_
          · intro K vs W hR hD hK
            have dq8 : vs 8 = .bool false := hD 8 (by decide)
            clear hD
            try dsimp only at hK ⊢
            simp only [Act.put, List.setIfInBounds_toArray, List.set_cons_succ, List.set_cons_zero] at hK
            generalize vs 8 = vq8 at hK dq8 ⊢
            subst vq8
            go_wp2
            exact hK _ _ rfl (Mod.refl _ _)
          refine opsOkA_cons ?_ ?_
          · intro K vs W hR hD hK
            have dq8 : vs 8 = .bool false := hD 8 (by decide)
            clear hD
            try dsimp only at hK ⊢
            simp only [Act.put, List.setIfInBounds_toArray, List.set_cons_succ, List.set_cons_zero] at hK
            generalize vs 8 = vq8 at hK dq8 ⊢
            subst vq8
            go_wp2
            exact hK _ _ rfl (Mod.refl _ _)
          refine opsOkA_cons ?_ ?_
          · intro K vs W hR hD hK
            have dq8 : vs 8 = .bool false := hD 8 (by decide)
            have dq9 : vs 9 = .int .i64 en := hD 9 (by decide)
            have dq10 : vs 10 = .int .i64 en := hD 10 (by decide)
            clear hD
            try dsimp only at hK ⊢
            simp only [Act.put, List.setIfInBounds_toArray, List.set_cons_succ, List.set_cons_zero] at hK
            generalize vs 8 = vq8 at hK dq8 ⊢
            subst vq8
            generalize vs 9 = vq9 at hK dq9 ⊢
            subst vq9
            generalize vs 10 = vq10 at hK dq10 ⊢
            subst vq10
            go_wp2
            exact hK _ _ rfl (Mod.refl _ _)
          refine opsOkA_cons ?_ ?_
          · intro K vs W hR hD hK
            have dq8 : vs 8 = .bool false := hD 8 (by decide)
            have dq11 : vs 11 = .bool false := hD 11 (by decide)
            clear hD
            try dsimp only at hK ⊢
            simp only [Act.put, List.setIfInBounds_toArray, List.set_cons_succ, List.set_cons_zero] at hK
            generalize vs 8 = vq8 at hK dq8 ⊢
            subst vq8
            generalize vs 11 = vq11 at hK dq11 ⊢
            subst vq11
            go_wp2
            exact hK _ _ rfl (Mod.refl _ _)
          refine opsOkA_cons ?_ ?_
          · intro K vs W hR hD hK
            have dq12 : vs 12 = .bool false := hD 12 (by decide)
            clear hD
            try dsimp only at hK ⊢
            simp only [Act.put, List.setIfInBounds_toArray, List.set_cons_succ, List.set_cons_zero] at hK
            generalize vs 12 = vq12 at hK dq12 ⊢
            subst vq12
            go_wp2
            exact hK _ _ rfl (Mod.refl _ _)
          refine opsOkA_cons ?_ ?_
          · intro K vs W hR hD hK
            have dq13 : vs 13 = .bool false := hD 13 (by decide)
            clear hD
            try dsimp only at hK ⊢
            simp only [Act.put, List.setIfInBounds_toArray, List.set_cons_succ, List.set_cons_zero] at hK
            generalize vs 13 = vq13 at hK dq13 ⊢
            subst vq13
            go_wp2
            exact hK _ _ rfl (Mod.refl _ _)
          refine opsOkA_cons ?_ ?_
          · intro K vs W hR hD hK
            have dq13 : vs 13 = .bool false := hD 13 (by decide)
            clear hD
            try dsimp only at hK ⊢
            simp only [Act.put, List.setIfInBounds_toArray, List.set_cons_succ, List.set_cons_zero] at hK
            generalize vs 13 = vq13 at hK dq13 ⊢
            subst vq13
            go_wp2
            exact hK _ _ rfl (Mod.refl _ _)
          refine opsOkA_cons ?_ ?_
          · intro K vs W hR hD hK
            have dq13 : vs 13 = .bool false := hD 13 (by decide)
            have dq14 : vs 14 = .bool vb := hD 14 (by decide)
            have dq15 : vs 15 = .bool vb := hD 15 (by decide)
            clear hD
            try dsimp only at hK ⊢
            simp only [Act.put, List.setIfInBounds_toArray, List.set_cons_succ, List.set_cons_zero] at hK
            generalize vs 13 = vq13 at hK dq13 ⊢
            subst vq13
            generalize vs 14 = vq14 at hK dq14 ⊢
            subst vq14
            generalize vs 15 = vq15 at hK dq15 ⊢
            subst vq15
            go_wp2
            exact hK _ _ rfl (Mod.refl _ _)
          refine opsOkA_cons ?_ ?_
          · intro K vs W hR hD hK
            have dq13 : vs 13 = .bool false := hD 13 (by decide)
            have dq16 : vs 16 = .bool false := hD 16 (by decide)
            clear hD
            try dsimp only at hK ⊢
            simp only [Act.put, List.setIfInBounds_toArray, List.set_cons_succ, List.set_cons_zero] at hK
            generalize vs 13 = vq13 at hK dq13 ⊢
            subst vq13
            generalize vs 16 = vq16 at hK dq16 ⊢
            subst vq16
            go_wp2
            exact hK _ _ rfl (Mod.refl _ _)
          refine opsOkA_cons ?_ ?_
          · intro K vs W hR hD hK
            have dq17 : vs 17 = .bool false := hD 17 (by decide)
            clear hD
            try dsimp only at hK ⊢
            simp only [Act.put, List.setIfInBounds_toArray, List.set_cons_succ, List.set_cons_zero] at hK
            generalize vs 17 = vq17 at hK dq17 ⊢
            subst vq17
            go_wp2
            exact hK _ _ rfl (Mod.refl _ _)
          refine opsOkA_cons ?_ ?_
          · intro K vs W hR hD hK
            have dq18 : vs 18 = .bool false := hD 18 (by decide)
            clear hD
            try dsimp only at hK ⊢
            simp only [Act.put, List.setIfInBounds_toArray, List.set_cons_succ, List.set_cons_zero] at hK
            generalize vs 18 = vq18 at hK dq18 ⊢
            subst vq18
            go_wp2
            exact hK _ _ rfl (Mod.refl _ _)
          refine opsOkA_cons ?_ ?_
          · intro K vs W hR hD hK
            have dq18 : vs 18 = .bool false := hD 18 (by decide)
            clear hD
            try dsimp only at hK ⊢
            simp only [Act.put, List.setIfInBounds_toArray, List.set_cons_succ, List.set_cons_zero] at hK
            generalize vs 18 = vq18 at hK dq18 ⊢
            subst vq18
            go_wp2
            exact hK _ _ rfl (Mod.refl _ _)
          refine opsOkA_cons ?_ ?_
          · intro K vs W hR hD hK
            have dq18 : vs 18 = .bool false := hD 18 (by decide)
            clear hD
            try dsimp only at hK ⊢
            simp only [Act.put, List.setIfInBounds_toArray, List.set_cons_succ, List.set_cons_zero] at hK
            generalize vs 18 = vq18 at hK dq18 ⊢
            subst vq18
            go_wp2
            exact hK _ _ rfl (Mod.refl _ _)
          refine opsOkA_cons ?_ ?_
          · intro K vs W hR hD hK
            have dq18 : vs 18 = .bool false := hD 18 (by decide)
            have dq19 : vs 19 = .pointer (some ⟨t, 0, none⟩) := hD 19 (by decide)
            have dq20 : vs 20 = .int .i64 from_ := hD 20 (by decide)
            have dq21 : vs 21 = .slice a5 n5 d5 := hD 21 (by decide)
            clear hD
            try dsimp only at hK ⊢
            simp only [Act.put, List.setIfInBounds_toArray, List.set_cons_succ, List.set_cons_zero] at hK
            generalize vs 18 = vq18 at hK dq18 ⊢
            subst vq18
            generalize vs 19 = vq19 at hK dq19 ⊢
            subst vq19
            generalize vs 20 = vq20 at hK dq20 ⊢
            subst vq20
            generalize vs 21 = vq21 at hK dq21 ⊢
            subst vq21
            go_wp2_with (go_at_call 43; refine (wvalid_any t p B C G W ((HSd.out.at (hR)).2.2.1) from_ a5 n5 d5 es HN5.out ((HSd.out.at (hR)).2.2.2.2.2.1) (by omega)).mono ?_; rintro e' w' ⟨rfl, hm'⟩; rw [HVB.out])
            exact hK _ _ rfl hm'
          refine opsOkA_cons ?_ ?_
          · intro K vs W hR hD hK
            have dq18 : vs 18 = .bool false := hD 18 (by decide)
            clear hD
            try dsimp only at hK ⊢
            simp only [Act.put, List.setIfInBounds_toArray, List.set_cons_succ, List.set_cons_zero] at hK
            generalize vs 18 = vq18 at hK dq18 ⊢
            subst vq18
            have hbx := (HSd.out.at (hR)).2.1
            have q0 := hbx.cell 0 rfl
            have q1 := hbx.cell 1 rfl
            have q2 := hbx.cell 2 rfl
            go_wp2
            exact hK _ _ rfl (Mod.refl _ _)
          refine opsOkA_cons ?_ ?_
          · intro K vs W hR hD hK
            have dq18 : vs 18 = .bool false := hD 18 (by decide)
            clear hD
            try dsimp only at hK ⊢
            simp only [Act.put, List.setIfInBounds_toArray, List.set_cons_succ, List.set_cons_zero] at hK
            generalize vs 18 = vq18 at hK dq18 ⊢
            subst vq18
            go_wp2
            exact hK _ _ rfl (Mod.refl _ _)
          refine opsOkA_cons ?_ ?_
          · intro K vs W hR hD hK
            have dq18 : vs 18 = .bool false := hD 18 (by decide)
            clear hD
            try dsimp only at hK ⊢
            simp only [Act.put, List.setIfInBounds_toArray, List.set_cons_succ, List.set_cons_zero] at hK
            generalize vs 18 = vq18 at hK dq18 ⊢
            subst vq18
            go_wp2
            exact hK _ _ rfl (Mod.refl _ _)
          refine opsOkA_cons ?_ ?_
          · intro K vs W hR hD hK
            have dq18 : vs 18 = .bool false := hD 18 (by decide)
            have dq23 : vs 23 = .agg #[.slice a1 n1 d1, .slice a2 n2 d2, .slice a3 n3 d3] := hD 23 (by decide)
            have dq24 : vs 24 = .int .i64 from_ := hD 24 (by decide)
            have dq25 : vs 25 = .slice a5 n5 d5 := hD 25 (by decide)
            clear hD
            try dsimp only at hK ⊢
            simp only [Act.put, List.setIfInBounds_toArray, List.set_cons_succ, List.set_cons_zero] at hK
            generalize vs 18 = vq18 at hK dq18 ⊢
            subst vq18
            generalize vs 23 = vq23 at hK dq23 ⊢
            subst vq23
            generalize vs 24 = vq24 at hK dq24 ⊢
            subst vq24
            generalize vs 25 = vq25 at hK dq25 ⊢
            subst vq25
            go_wp2_with (go_at_call 44; refine (r4walk_any G W a1 n1 d1 a2 n2 d2 a3 n3 d3 ((HSd.out.at (hR)).2.2.2.1) (by omega) (by omega) from_ a5 n5 d5 es HN5.out ((HSd.out.at (hR)).2.2.2.2.2.1) (by omega)).mono ?_; rintro e' w' ⟨rfl, hm'⟩; rw [HVB.out])
            exact hK _ _ rfl hm'
          refine opsOkA_cons ?_ ?_
          · intro K vs W hR hD hK
            have dq18 : vs 18 = .bool false := hD 18 (by decide)
            have dq22 : vs 22 = .bool vb := hD 22 (by decide)
            have dq26 : vs 26 = .bool vb := hD 26 (by decide)
            clear hD
            try dsimp only at hK ⊢
            simp only [Act.put, List.setIfInBounds_toArray, List.set_cons_succ, List.set_cons_zero] at hK
            generalize vs 18 = vq18 at hK dq18 ⊢
            subst vq18
            generalize vs 22 = vq22 at hK dq22 ⊢
            subst vq22
            generalize vs 26 = vq26 at hK dq26 ⊢
            subst vq26
            go_wp2
            exact hK _ _ rfl (Mod.refl _ _)
          refine opsOkA_cons ?_ ?_
          · intro K vs W hR hD hK
            have dq18 : vs 18 = .bool false := hD 18 (by decide)
            have dq27 : vs 27 = .bool false := hD 27 (by decide)
            clear hD
            try dsimp only at hK ⊢
            simp only [Act.put, List.setIfInBounds_toArray, List.set_cons_succ, List.set_cons_zero] at hK
            generalize vs 18 = vq18 at hK dq18 ⊢
            subst vq18
            generalize vs 27 = vq27 at hK dq27 ⊢
            subst vq27
            go_wp2
            exact hK _ _ rfl (Mod.refl _ _)
          refine opsOkA_cons ?_ ?_
          · intro K vs W hR hD hK
            have dq28 : vs 28 = .bool false := hD 28 (by decide)
            clear hD
            try dsimp only at hK ⊢
            simp only [Act.put, List.setIfInBounds_toArray, List.set_cons_succ, List.set_cons_zero] at hK
            generalize vs 28 = vq28 at hK dq28 ⊢
            subst vq28
            go_wp2
            exact hK _ _ rfl (Mod.refl _ _)
          refine opsOkA_cons ?_ ?_
          · intro K vs W hR hD hK
            have dq29 : vs 29 = .bool false := hD 29 (by decide)
            clear hD
            try dsimp only at hK ⊢
            simp only [Act.put, List.setIfInBounds_toArray, List.set_cons_succ, List.set_cons_zero] at hK
            generalize vs 29 = vq29 at hK dq29 ⊢
            subst vq29
            go_wp2
            exact hK _ _ rfl (Mod.refl _ _)
          refine opsOkA_cons ?_ ?_
          · intro K vs W hR hD hK
            have dq29 : vs 29 = .bool false := hD 29 (by decide)
            clear hD
            try dsimp only at hK ⊢
            simp only [Act.put, List.setIfInBounds_toArray, List.set_cons_succ, List.set_cons_zero] at hK
            generalize vs 29 = vq29 at hK dq29 ⊢
            subst vq29
            go_wp2
            exact hK _ _ rfl (Mod.refl _ _)
          refine opsOkA_cons ?_ ?_
          · intro K vs W hR hD hK
            have dq29 : vs 29 = .bool false := hD 29 (by decide)
            have dq30 : vs 30 = .slice a5 n5 d5 := hD 30 (by decide)
            have dq31 : vs 31 = .slice a6 n6 d6 := hD 31 (by decide)
            clear hD
            try dsimp only at hK ⊢
            simp only [Act.put, List.setIfInBounds_toArray, List.set_cons_succ, List.set_cons_zero] at hK
            generalize vs 29 = vq29 at hK dq29 ⊢
            subst vq29
            generalize vs 30 = vq30 at hK dq30 ⊢
            subst vq30
            generalize vs 31 = vq31 at hK dq31 ⊢
            subst vq31
            go_wp2_with (go_at_call 45; refine (wcmp_any W a5 n5 d5 es HN5.out ((HSd.out.at (hR)).2.2.2.2.2.1) (by omega) a6 n6 d6 ol HN6.out ((HSd.out.at (hR)).2.2.2.2.1) (by omega)).mono ?_; rintro e' w' ⟨rfl, hm'⟩; rw [HCQ.out])
            exact hK _ _ rfl hm'
          refine opsOkA_cons ?_ ?_
          · intro K vs W hR hD hK
            have dq29 : vs 29 = .bool false := hD 29 (by decide)
            clear hD
            try dsimp only at hK ⊢
            simp only [Act.put, List.setIfInBounds_toArray, List.set_cons_succ, List.set_cons_zero] at hK
            generalize vs 29 = vq29 at hK dq29 ⊢
            subst vq29
            go_wp2
            exact hK _ _ rfl (Mod.refl _ _)
          refine opsOkA_cons ?_ ?_
          · intro K vs W hR hD hK
            have dq29 : vs 29 = .bool false := hD 29 (by decide)
            clear hD
            try dsimp only at hK ⊢
            simp only [Act.put, List.setIfInBounds_toArray, List.set_cons_succ, List.set_cons_zero] at hK
            generalize vs 29 = vq29 at hK dq29 ⊢
            subst vq29
            go_wp2
            exact hK _ _ rfl (Mod.refl _ _)
          refine opsOkA_cons ?_ ?_
          · intro K vs W hR hD hK
            have dq29 : vs 29 = .bool false := hD 29 (by decide)
            have dq33 : vs 33 = .slice a5 n5 d5 := hD 33 (by decide)
            have dq34 : vs 34 = .slice a6 n6 d6 := hD 34 (by decide)
            clear hD
            try dsimp only at hK ⊢
            simp only [Act.put, List.setIfInBounds_toArray, List.set_cons_succ, List.set_cons_zero] at hK
            generalize vs 29 = vq29 at hK dq29 ⊢
            subst vq29
            generalize vs 33 = vq33 at hK dq33 ⊢
            subst vq33
            generalize vs 34 = vq34 at hK dq34 ⊢
            subst vq34
            go_wp2_with (go_at_call 46; refine (r4cmp_any W a5 n5 d5 es HN5.out ((HSd.out.at (hR)).2.2.2.2.2.1) (by omega) a6 n6 d6 ol HN6.out ((HSd.out.at (hR)).2.2.2.2.1) (by omega)).mono ?_; rintro e' w' ⟨rfl, hm'⟩; rw [HCQ.out])
            exact hK _ _ rfl hm'
          refine opsOkA_cons ?_ ?_
          · intro K vs W hR hD hK
            have dq29 : vs 29 = .bool false := hD 29 (by decide)
            have dq32 : vs 32 = .int .i64 cq := hD 32 (by decide)
            have dq35 : vs 35 = .int .i64 cq := hD 35 (by decide)
            clear hD
            try dsimp only at hK ⊢
            simp only [Act.put, List.setIfInBounds_toArray, List.set_cons_succ, List.set_cons_zero] at hK
            generalize vs 29 = vq29 at hK dq29 ⊢
            subst vq29
            generalize vs 32 = vq32 at hK dq32 ⊢
            subst vq32
            generalize vs 35 = vq35 at hK dq35 ⊢
            subst vq35
            go_wp2
            exact hK _ _ rfl (Mod.refl _ _)
          refine opsOkA_cons ?_ ?_
          · intro K vs W hR hD hK
            have dq29 : vs 29 = .bool false := hD 29 (by decide)
            have dq36 : vs 36 = .bool false := hD 36 (by decide)
            clear hD
            try dsimp only at hK ⊢
            simp only [Act.put, List.setIfInBounds_toArray, List.set_cons_succ, List.set_cons_zero] at hK
            generalize vs 29 = vq29 at hK dq29 ⊢
            subst vq29
            generalize vs 36 = vq36 at hK dq36 ⊢
            subst vq36
            go_wp2
            exact hK _ _ rfl (Mod.refl _ _)
          exact opsOkA_nil
        · intro vs wq12 hR hF
          have dq37 : vs 37 = .bool false := hF 37 (by decide)
          clear hF
          try dsimp only
          generalize vs 37 = vq37 at dq37 ⊢
          subst dq37
          replace HS := Lib.hid (HSd.out.step hR)
          clear HSd hR
          have hbbg := (HS.out.now).2.1
          have qbg_0 := hbbg.cell 0 rfl
          have qbg_1 := hbbg.cell 1 rfl
          have qbg_2 := hbbg.cell 2 rfl
          have lbg := hbbg.lt
          clear hbbg
          go_wp2_with fail
          go_roundw
          case rel => exact ⟨1, by omega, rfl, (HS.out.now).1⟩
          case measure => simp [intOf]
      case neg =>
        obtain rfl : j = 1 := by omega
        go_wp2_with fail
        refine (round_any from_ (n2 : Int) _ (by omega) (by omega)).mono ?_
        rintro e w' ⟨rfl, rfl⟩
        have hr0 := Int.emod_nonneg (from_) (b := (n2 : Int)) (by omega)
        have hr1 := Int.emod_lt_of_pos (from_) (b := (n2 : Int)) (by omega)
        obtain ⟨er, hr2⟩ := Int.eq_ofNat_of_zero_le hr0
        rw [hr2] at hr1 ⊢
        have HE0 := Lib.hid hr2
        have HE0b := hr1
        clear hr0 hr1 hr2
        go_wp2_with fail
        refine (stroll_any G _ a1 n1 d1 a2 n2 d2 a3 n3 d3 ((HS.out.now).2.2.2.1) (by omega) (by omega) (er : Int) a4 n4 d4 st HN4.out ((HS.out.now).2.2.2.2.2.2.1) (by omega)).mono ?_
        rintro e wq13 ⟨v', rfl, ⟨aw, cw, rfl, hx'⟩, hmm⟩
        replace HS := Lib.hid (HS.out.step hmm)
        clear hmm
        replace HS := Lib.hid ((Ev.rd hx').and HS.out)
        clear hx'
        clear qbg_0 qbg_1 qbg_2 lbg
        have hbbg := (HS.out.now).2.2.1
        have qbg_0 := hbbg.cell 0 rfl
        have qbg_1 := hbbg.cell 1 rfl
        have qbg_2 := hbbg.cell 2 rfl
        have lbg := hbbg.lt
        clear hbbg
        obtain ⟨ws, hws⟩ : ∃ l, strollL G (er : Int) st = l := ⟨_, rfl⟩
        have hwk := stroll_wlk G (er : Int) st
        have hwl := stroll_len G (er : Int) st
        rw [hws] at HS hwk hwl ⊢
        have HWS := Lib.hid hws
        have HWK := Lib.hid hwk
        clear hws hwk
        obtain ⟨lw, hlw⟩ : ∃ n, ws.length = n := ⟨_, rfl⟩
        rw [hlw] at HS hwl ⊢
        have HLW := Lib.hid hlw
        have hl4 : lw ≤ 40 := by have := HN4.out; omega
        clear hlw hwl
        have hcw : lw ≤ cw := rd_cap ((HS.out.now).1)
        obtain ⟨wn, HWN0⟩ : ∃ qz, wtN G ws = qz := ⟨_, rfl⟩
        have HWN := Lib.hid HWN0
        clear HWN0
        obtain ⟨wb, HWB0⟩ : ∃ qz, allE G ws = qz := ⟨_, rfl⟩
        have HWB := Lib.hid HWB0
        clear HWB0
        obtain ⟨en, HEN0⟩ : ∃ qz, endN G (er : Int) ws = qz := ⟨_, rfl⟩
        have HEN := Lib.hid HEN0
        clear HEN0
        obtain ⟨vb, HVB0⟩ : ∃ qz, validB G (er : Int) ws = qz := ⟨_, rfl⟩
        have HVB := Lib.hid HVB0
        clear HVB0
        obtain ⟨cq, HCQ0⟩ : ∃ qz, cmpL ws ol = qz := ⟨_, rfl⟩
        have HCQ := Lib.hid HCQ0
        clear HCQ0
        go_wp2_with fail
        refine (wweight_any t p B C G hmay.out _ ((HS.out.now).2.2.2.1) aw lw cw ws HLW.out ((HS.out.now).1) (by omega)).mono ?_
        rintro e wq14 ⟨rfl, hmm⟩
        replace HS := Lib.hid (HS.out.step hmm)
        clear hmm
        clear qbg_0 qbg_1 qbg_2 lbg
        have hbbg := (HS.out.now).2.2.1
        have qbg_0 := hbbg.cell 0 rfl
        have qbg_1 := hbbg.cell 1 rfl
        have qbg_2 := hbbg.cell 2 rfl
        have lbg := hbbg.lt
        clear hbbg
        rw [HWN.out, HWB.out]
        go_wp2_with fail
        refine (r4weight_any G hmay.out _ a1 n1 d1 a2 n2 d2 a3 n3 d3 ((HS.out.now).2.2.2.2.1) (by omega) (by omega) aw lw cw ws HLW.out ((HS.out.now).1) (by omega)).mono ?_
        rintro e wq15 ⟨rfl, hmm⟩
        replace HS := Lib.hid (HS.out.step hmm)
        clear hmm
        clear qbg_0 qbg_1 qbg_2 lbg
        have hbbg := (HS.out.now).2.2.1
        have qbg_0 := hbbg.cell 0 rfl
        have qbg_1 := hbbg.cell 1 rfl
        have qbg_2 := hbbg.cell 2 rfl
        have lbg := hbbg.lt
        clear hbbg
        rw [HWN.out, HWB.out]
        go_wp2_with fail
        refine (wend_any t p B C G _ ((HS.out.now).2.2.2.1) (er : Int) aw lw cw ws HLW.out ((HS.out.now).1) (by omega)).mono ?_
        rintro e wq16 ⟨rfl, hmm⟩
        replace HS := Lib.hid (HS.out.step hmm)
        clear hmm
        clear qbg_0 qbg_1 qbg_2 lbg
        have hbbg := (HS.out.now).2.2.1
        have qbg_0 := hbbg.cell 0 rfl
        have qbg_1 := hbbg.cell 1 rfl
        have qbg_2 := hbbg.cell 2 rfl
        have lbg := hbbg.lt
        clear hbbg
        rw [HEN.out, HVB.out]
        go_wp2_with fail
        refine (r4end_any G _ a1 n1 d1 a2 n2 d2 a3 n3 d3 ((HS.out.now).2.2.2.2.1) (by omega) (by omega) (er : Int) aw lw cw ws HLW.out ((HS.out.now).1) (by omega)).mono ?_
        rintro e wq17 ⟨rfl, hmm⟩
        replace HS := Lib.hid (HS.out.step hmm)
        clear hmm
        clear qbg_0 qbg_1 qbg_2 lbg
        have hbbg := (HS.out.now).2.2.1
        have qbg_0 := hbbg.cell 0 rfl
        have qbg_1 := hbbg.cell 1 rfl
        have qbg_2 := hbbg.cell 2 rfl
        have lbg := hbbg.lt
        clear hbbg
        rw [HEN.out, HVB.out]
        go_upto_region 17 with fail
        clear qbg_0 qbg_1 qbg_2 lbg
        have HSd := Lib.hid HS.out.drew
        refine wp_region_inv3 (act := ?actwt_r17_1) (Mod (fun _ => False)) (fun i => (wt_r17_1_F a6 aw n6 d6 lw cw er wn en cq wb vb a1 a2 a3 n1 d1 n2 d2 n3 d3 t).getD i (fun _ _ => True)) (fun i => wt_r17_1_D.getD i []) (by kernel_rfl) (by kernel_rfl) (by kernel_rfl) (by kernel_rfl) (fun _ => Mod.refl _ _)
          (fun _ _ _ h k => h.trans k (fun _ _ e => e) (fun _ _ e => e)) ?hactwt_r17_1 (stable_list ?_) ?_ ?_
        case hactwt_r17_1 => intro vs; simp only [putAll, Nat.zero_add, Nat.reduceAdd, Act.put, List.setIfInBounds_toArray, List.set_cons_succ, List.set_cons_zero]; exact rfl
        · unfold wt_r17_1_F
          exact stable_cons (stable_val _) <| stable_cons (stable_val _) <| stable_cons (stable_val _) <| stable_cons (stable_val _) <| stable_cons (stable_val _) <| stable_cons (stable_val _) <| stable_cons (stable_val _) <| stable_cons (stable_val _) <| stable_cons (stable_val _) <| stable_cons (stable_val _) <| stable_cons (stable_val _) <| stable_cons (stable_val _) <| stable_cons (stable_val _) <| stable_cons (stable_val _) <| stable_cons (stable_val _) <| stable_cons (stable_val _) <| stable_cons (stable_val _) <| stable_cons (stable_val _) <| stable_cons (stable_val _) <| stable_cons (stable_val _) <| stable_cons (stable_val _) <| stable_cons (stable_val _) <| stable_cons (stable_val _) <| stable_cons (stable_val _) <| stable_cons (stable_val _) <| stable_cons (stable_val _) <| stable_cons (stable_val _) <| stable_cons (stable_val _) <| stable_cons (stable_val _) <| stable_cons (stable_val _) <| stable_cons (stable_val _) <| stable_cons (stable_val _) <| stable_cons (stable_val _) <| stable_cons (stable_val _) <| stable_cons (stable_val _) <| stable_cons (stable_val _) <| stable_cons (stable_val _) <| stable_cons (stable_val _) <| stable_nil
        · refine opsOkA_cons ?_ ?_
          · intro K vs W hR hD hK
            clear hD
            try dsimp only at hK ⊢
            simp only [Act.put, List.setIfInBounds_toArray, List.set_cons_succ, List.set_cons_zero] at hK
            go_wp2
            exact hK _ _ rfl (Mod.refl _ _)
          refine opsOkA_cons ?_ ?_
          · intro K vs W hR hD hK
            clear hD
            try dsimp only at hK ⊢
            simp only [Act.put, List.setIfInBounds_toArray, List.set_cons_succ, List.set_cons_zero] at hK
            go_wp2
            exact hK _ _ rfl (Mod.refl _ _)
          refine opsOkA_cons ?_ ?_
          · intro K vs W hR hD hK
            have dq0 : vs 0 = .int .i64 wn := hD 0 (by decide)
            have dq1 : vs 1 = .int .i64 wn := hD 1 (by decide)
            clear hD
            try dsimp only at hK ⊢
            simp only [Act.put, List.setIfInBounds_toArray, List.set_cons_succ, List.set_cons_zero] at hK
            generalize vs 0 = vq0 at hK dq0 ⊢
            subst vq0
            generalize vs 1 = vq1 at hK dq1 ⊢
            subst vq1
            go_wp2
            exact hK _ _ rfl (Mod.refl _ _)
          refine opsOkA_cons ?_ ?_
          · intro K vs W hR hD hK
            have dq2 : vs 2 = .bool false := hD 2 (by decide)
            clear hD
            try dsimp only at hK ⊢
            simp only [Act.put, List.setIfInBounds_toArray, List.set_cons_succ, List.set_cons_zero] at hK
            generalize vs 2 = vq2 at hK dq2 ⊢
            subst vq2
            go_wp2
            exact hK _ _ rfl (Mod.refl _ _)
          refine opsOkA_cons ?_ ?_
          · intro K vs W hR hD hK
            have dq3 : vs 3 = .bool false := hD 3 (by decide)
            clear hD
            try dsimp only at hK ⊢
            simp only [Act.put, List.setIfInBounds_toArray, List.set_cons_succ, List.set_cons_zero] at hK
            generalize vs 3 = vq3 at hK dq3 ⊢
            subst vq3
            go_wp2
            exact hK _ _ rfl (Mod.refl _ _)
          refine opsOkA_cons ?_ ?_
          · intro K vs W hR hD hK
            have dq3 : vs 3 = .bool false := hD 3 (by decide)
            clear hD
            try dsimp only at hK ⊢
            simp only [Act.put, List.setIfInBounds_toArray, List.set_cons_succ, List.set_cons_zero] at hK
            generalize vs 3 = vq3 at hK dq3 ⊢
            subst vq3
            go_wp2
            exact hK _ _ rfl (Mod.refl _ _)
          refine opsOkA_cons ?_ ?_
          · intro K vs W hR hD hK
            have dq3 : vs 3 = .bool false := hD 3 (by decide)
            have dq4 : vs 4 = .bool wb := hD 4 (by decide)
            have dq5 : vs 5 = .bool wb := hD 5 (by decide)
            clear hD
            try dsimp only at hK ⊢
            simp only [Act.put, List.setIfInBounds_toArray, List.set_cons_succ, List.set_cons_zero] at hK
            generalize vs 3 = vq3 at hK dq3 ⊢
            subst vq3
            generalize vs 4 = vq4 at hK dq4 ⊢
            subst vq4
            generalize vs 5 = vq5 at hK dq5 ⊢
            subst vq5
            go_wp2
            exact hK _ _ rfl (Mod.refl _ _)
          refine opsOkA_cons ?_ ?_
          · intro K vs W hR hD hK
            have dq3 : vs 3 = .bool false := hD 3 (by decide)
            have dq6 : vs 6 = .bool false := hD 6 (by decide)
            clear hD
            try dsimp only at hK ⊢
            simp only [Act.put, List.setIfInBounds_toArray, List.set_cons_succ, List.set_cons_zero] at hK
            generalize vs 3 = vq3 at hK dq3 ⊢
            subst vq3
            generalize vs 6 = vq6 at hK dq6 ⊢
            subst vq6
            go_wp2
            exact hK _ _ rfl (Mod.refl _ _)
          refine opsOkA_cons ?_ ?_
          · intro K vs W hR hD hK
            have dq7 : vs 7 = .bool false := hD 7 (by decide)
            clear hD
            try dsimp only at hK ⊢
            simp only [Act.put, List.setIfInBounds_toArray, List.set_cons_succ, List.set_cons_zero] at hK
            generalize vs 7 = vq7 at hK dq7 ⊢
            subst vq7
            go_wp2
            exact hK _ _ rfl (Mod.refl _ _)
          refine opsOkA_cons ?_ ?_
          · intro K vs W hR hD hK
            have dq8 : vs 8 = .bool false := hD 8 (by decide)
            clear hD
            try dsimp only at hK ⊢
            simp only [Act.put, List.setIfInBounds_toArray, List.set_cons_succ, List.set_cons_zero] at hK
            generalize vs 8 = vq8 at hK dq8 ⊢
            subst vq8
            go_wp2
            exact hK _ _ rfl (Mod.refl _ _)
          refine opsOkA_cons ?_ ?_
          · intro K vs W hR hD hK
            have dq8 : vs 8 = .bool false := hD 8 (by decide)
            clear hD
            try dsimp only at hK ⊢
            simp only [Act.put, List.setIfInBounds_toArray, List.set_cons_succ, List.set_cons_zero] at hK
            generalize vs 8 = vq8 at hK dq8 ⊢
            subst vq8
            go_wp2
            exact hK _ _ rfl (Mod.refl _ _)
          refine opsOkA_cons ?_ ?_
          · intro K vs W hR hD hK
            have dq8 : vs 8 = .bool false := hD 8 (by decide)
            have dq9 : vs 9 = .int .i64 en := hD 9 (by decide)
            have dq10 : vs 10 = .int .i64 en := hD 10 (by decide)
            clear hD
            try dsimp only at hK ⊢
            simp only [Act.put, List.setIfInBounds_toArray, List.set_cons_succ, List.set_cons_zero] at hK
            generalize vs 8 = vq8 at hK dq8 ⊢
            subst vq8
            generalize vs 9 = vq9 at hK dq9 ⊢
            subst vq9
            generalize vs 10 = vq10 at hK dq10 ⊢
            subst vq10
            go_wp2
            exact hK _ _ rfl (Mod.refl _ _)
          refine opsOkA_cons ?_ ?_
          · intro K vs W hR hD hK
            have dq8 : vs 8 = .bool false := hD 8 (by decide)
            have dq11 : vs 11 = .bool false := hD 11 (by decide)
            clear hD
            try dsimp only at hK ⊢
            simp only [Act.put, List.setIfInBounds_toArray, List.set_cons_succ, List.set_cons_zero] at hK
            generalize vs 8 = vq8 at hK dq8 ⊢
            subst vq8
            generalize vs 11 = vq11 at hK dq11 ⊢
            subst vq11
            go_wp2
            exact hK _ _ rfl (Mod.refl _ _)
          refine opsOkA_cons ?_ ?_
          · intro K vs W hR hD hK
            have dq12 : vs 12 = .bool false := hD 12 (by decide)
            clear hD
            try dsimp only at hK ⊢
            simp only [Act.put, List.setIfInBounds_toArray, List.set_cons_succ, List.set_cons_zero] at hK
            generalize vs 12 = vq12 at hK dq12 ⊢
            subst vq12
            go_wp2
            exact hK _ _ rfl (Mod.refl _ _)
          refine opsOkA_cons ?_ ?_
          · intro K vs W hR hD hK
            have dq13 : vs 13 = .bool false := hD 13 (by decide)
            clear hD
            try dsimp only at hK ⊢
            simp only [Act.put, List.setIfInBounds_toArray, List.set_cons_succ, List.set_cons_zero] at hK
            generalize vs 13 = vq13 at hK dq13 ⊢
            subst vq13
            go_wp2
            exact hK _ _ rfl (Mod.refl _ _)
          refine opsOkA_cons ?_ ?_
          · intro K vs W hR hD hK
            have dq13 : vs 13 = .bool false := hD 13 (by decide)
            clear hD
            try dsimp only at hK ⊢
            simp only [Act.put, List.setIfInBounds_toArray, List.set_cons_succ, List.set_cons_zero] at hK
            generalize vs 13 = vq13 at hK dq13 ⊢
            subst vq13
            go_wp2
            exact hK _ _ rfl (Mod.refl _ _)
          refine opsOkA_cons ?_ ?_
          · intro K vs W hR hD hK
            have dq13 : vs 13 = .bool false := hD 13 (by decide)
            have dq14 : vs 14 = .bool vb := hD 14 (by decide)
            have dq15 : vs 15 = .bool vb := hD 15 (by decide)
            clear hD
            try dsimp only at hK ⊢
            simp only [Act.put, List.setIfInBounds_toArray, List.set_cons_succ, List.set_cons_zero] at hK
            generalize vs 13 = vq13 at hK dq13 ⊢
            subst vq13
            generalize vs 14 = vq14 at hK dq14 ⊢
            subst vq14
            generalize vs 15 = vq15 at hK dq15 ⊢
            subst vq15
            go_wp2
            exact hK _ _ rfl (Mod.refl _ _)
          refine opsOkA_cons ?_ ?_
          · intro K vs W hR hD hK
            have dq13 : vs 13 = .bool false := hD 13 (by decide)
            have dq16 : vs 16 = .bool false := hD 16 (by decide)
            clear hD
            try dsimp only at hK ⊢
            simp only [Act.put, List.setIfInBounds_toArray, List.set_cons_succ, List.set_cons_zero] at hK
            generalize vs 13 = vq13 at hK dq13 ⊢
            subst vq13
            generalize vs 16 = vq16 at hK dq16 ⊢
            subst vq16
            go_wp2
            exact hK _ _ rfl (Mod.refl _ _)
          refine opsOkA_cons ?_ ?_
          · intro K vs W hR hD hK
            have dq17 : vs 17 = .bool false := hD 17 (by decide)
            clear hD
            try dsimp only at hK ⊢
            simp only [Act.put, List.setIfInBounds_toArray, List.set_cons_succ, List.set_cons_zero] at hK
            generalize vs 17 = vq17 at hK dq17 ⊢
            subst vq17
            go_wp2
            exact hK _ _ rfl (Mod.refl _ _)
          refine opsOkA_cons ?_ ?_
          · intro K vs W hR hD hK
            have dq18 : vs 18 = .bool false := hD 18 (by decide)
            clear hD
            try dsimp only at hK ⊢
            simp only [Act.put, List.setIfInBounds_toArray, List.set_cons_succ, List.set_cons_zero] at hK
            generalize vs 18 = vq18 at hK dq18 ⊢
            subst vq18
            go_wp2
            exact hK _ _ rfl (Mod.refl _ _)
          refine opsOkA_cons ?_ ?_
          · intro K vs W hR hD hK
            have dq18 : vs 18 = .bool false := hD 18 (by decide)
            clear hD
            try dsimp only at hK ⊢
            simp only [Act.put, List.setIfInBounds_toArray, List.set_cons_succ, List.set_cons_zero] at hK
            generalize vs 18 = vq18 at hK dq18 ⊢
            subst vq18
            go_wp2
            exact hK _ _ rfl (Mod.refl _ _)
          refine opsOkA_cons ?_ ?_
          · intro K vs W hR hD hK
            have dq18 : vs 18 = .bool false := hD 18 (by decide)
            clear hD
            try dsimp only at hK ⊢
            simp only [Act.put, List.setIfInBounds_toArray, List.set_cons_succ, List.set_cons_zero] at hK
            generalize vs 18 = vq18 at hK dq18 ⊢
            subst vq18
            go_wp2
            exact hK _ _ rfl (Mod.refl _ _)
          refine opsOkA_cons ?_ ?_
          · intro K vs W hR hD hK
            have dq18 : vs 18 = .bool false := hD 18 (by decide)
            have dq19 : vs 19 = .pointer (some ⟨t, 0, none⟩) := hD 19 (by decide)
            have dq20 : vs 20 = .int .i64 (er : Int) := hD 20 (by decide)
            have dq21 : vs 21 = .slice aw lw cw := hD 21 (by decide)
            clear hD
            try dsimp only at hK ⊢
            simp only [Act.put, List.setIfInBounds_toArray, List.set_cons_succ, List.set_cons_zero] at hK
            generalize vs 18 = vq18 at hK dq18 ⊢
            subst vq18
            generalize vs 19 = vq19 at hK dq19 ⊢
            subst vq19
            generalize vs 20 = vq20 at hK dq20 ⊢
            subst vq20
            generalize vs 21 = vq21 at hK dq21 ⊢
            subst vq21
            go_wp2_with (go_at_call 43; refine (wvalid_any t p B C G W ((HSd.out.at (hR)).2.2.2.1) (er : Int) aw lw cw ws HLW.out ((HSd.out.at (hR)).1) (by omega)).mono ?_; rintro e' w' ⟨rfl, hm'⟩; rw [HVB.out])
            exact hK _ _ rfl hm'
          refine opsOkA_cons ?_ ?_
          · intro K vs W hR hD hK
            have dq18 : vs 18 = .bool false := hD 18 (by decide)
            clear hD
            try dsimp only at hK ⊢
            simp only [Act.put, List.setIfInBounds_toArray, List.set_cons_succ, List.set_cons_zero] at hK
            generalize vs 18 = vq18 at hK dq18 ⊢
            subst vq18
            have hbx := (HSd.out.at (hR)).2.2.1
            have q0 := hbx.cell 0 rfl
            have q1 := hbx.cell 1 rfl
            have q2 := hbx.cell 2 rfl
            go_wp2
            exact hK _ _ rfl (Mod.refl _ _)
          refine opsOkA_cons ?_ ?_
          · intro K vs W hR hD hK
            have dq18 : vs 18 = .bool false := hD 18 (by decide)
            clear hD
            try dsimp only at hK ⊢
            simp only [Act.put, List.setIfInBounds_toArray, List.set_cons_succ, List.set_cons_zero] at hK
            generalize vs 18 = vq18 at hK dq18 ⊢
            subst vq18
            go_wp2
            exact hK _ _ rfl (Mod.refl _ _)
          refine opsOkA_cons ?_ ?_
          · intro K vs W hR hD hK
            have dq18 : vs 18 = .bool false := hD 18 (by decide)
            clear hD
            try dsimp only at hK ⊢
            simp only [Act.put, List.setIfInBounds_toArray, List.set_cons_succ, List.set_cons_zero] at hK
            generalize vs 18 = vq18 at hK dq18 ⊢
            subst vq18
            go_wp2
            exact hK _ _ rfl (Mod.refl _ _)
          refine opsOkA_cons ?_ ?_
          · intro K vs W hR hD hK
            have dq18 : vs 18 = .bool false := hD 18 (by decide)
            have dq23 : vs 23 = .agg #[.slice a1 n1 d1, .slice a2 n2 d2, .slice a3 n3 d3] := hD 23 (by decide)
            have dq24 : vs 24 = .int .i64 (er : Int) := hD 24 (by decide)
            have dq25 : vs 25 = .slice aw lw cw := hD 25 (by decide)
            clear hD
            try dsimp only at hK ⊢
            simp only [Act.put, List.setIfInBounds_toArray, List.set_cons_succ, List.set_cons_zero] at hK
            generalize vs 18 = vq18 at hK dq18 ⊢
            subst vq18
            generalize vs 23 = vq23 at hK dq23 ⊢
            subst vq23
            generalize vs 24 = vq24 at hK dq24 ⊢
            subst vq24
            generalize vs 25 = vq25 at hK dq25 ⊢
            subst vq25
            go_wp2_with (go_at_call 44; refine (r4walk_any G W a1 n1 d1 a2 n2 d2 a3 n3 d3 ((HSd.out.at (hR)).2.2.2.2.1) (by omega) (by omega) (er : Int) aw lw cw ws HLW.out ((HSd.out.at (hR)).1) (by omega)).mono ?_; rintro e' w' ⟨rfl, hm'⟩; rw [HVB.out])
            exact hK _ _ rfl hm'
          refine opsOkA_cons ?_ ?_
          · intro K vs W hR hD hK
            have dq18 : vs 18 = .bool false := hD 18 (by decide)
            have dq22 : vs 22 = .bool vb := hD 22 (by decide)
            have dq26 : vs 26 = .bool vb := hD 26 (by decide)
            clear hD
            try dsimp only at hK ⊢
            simp only [Act.put, List.setIfInBounds_toArray, List.set_cons_succ, List.set_cons_zero] at hK
            generalize vs 18 = vq18 at hK dq18 ⊢
            subst vq18
            generalize vs 22 = vq22 at hK dq22 ⊢
            subst vq22
            generalize vs 26 = vq26 at hK dq26 ⊢
            subst vq26
            go_wp2
            exact hK _ _ rfl (Mod.refl _ _)
          refine opsOkA_cons ?_ ?_
          · intro K vs W hR hD hK
            have dq18 : vs 18 = .bool false := hD 18 (by decide)
            have dq27 : vs 27 = .bool false := hD 27 (by decide)
            clear hD
            try dsimp only at hK ⊢
            simp only [Act.put, List.setIfInBounds_toArray, List.set_cons_succ, List.set_cons_zero] at hK
            generalize vs 18 = vq18 at hK dq18 ⊢
            subst vq18
            generalize vs 27 = vq27 at hK dq27 ⊢
            subst vq27
            go_wp2
            exact hK _ _ rfl (Mod.refl _ _)
          refine opsOkA_cons ?_ ?_
          · intro K vs W hR hD hK
            have dq28 : vs 28 = .bool false := hD 28 (by decide)
            clear hD
            try dsimp only at hK ⊢
            simp only [Act.put, List.setIfInBounds_toArray, List.set_cons_succ, List.set_cons_zero] at hK
            generalize vs 28 = vq28 at hK dq28 ⊢
            subst vq28
            go_wp2
            exact hK _ _ rfl (Mod.refl _ _)
          refine opsOkA_cons ?_ ?_
          · intro K vs W hR hD hK
            have dq29 : vs 29 = .bool false := hD 29 (by decide)
            clear hD
            try dsimp only at hK ⊢
            simp only [Act.put, List.setIfInBounds_toArray, List.set_cons_succ, List.set_cons_zero] at hK
            generalize vs 29 = vq29 at hK dq29 ⊢
            subst vq29
            go_wp2
            exact hK _ _ rfl (Mod.refl _ _)
          refine opsOkA_cons ?_ ?_
          · intro K vs W hR hD hK
            have dq29 : vs 29 = .bool false := hD 29 (by decide)
            clear hD
            try dsimp only at hK ⊢
            simp only [Act.put, List.setIfInBounds_toArray, List.set_cons_succ, List.set_cons_zero] at hK
            generalize vs 29 = vq29 at hK dq29 ⊢
            subst vq29
            go_wp2
            exact hK _ _ rfl (Mod.refl _ _)
          refine opsOkA_cons ?_ ?_
          · intro K vs W hR hD hK
            have dq29 : vs 29 = .bool false := hD 29 (by decide)
            have dq30 : vs 30 = .slice aw lw cw := hD 30 (by decide)
            have dq31 : vs 31 = .slice a6 n6 d6 := hD 31 (by decide)
            clear hD
            try dsimp only at hK ⊢
            simp only [Act.put, List.setIfInBounds_toArray, List.set_cons_succ, List.set_cons_zero] at hK
            generalize vs 29 = vq29 at hK dq29 ⊢
            subst vq29
            generalize vs 30 = vq30 at hK dq30 ⊢
            subst vq30
            generalize vs 31 = vq31 at hK dq31 ⊢
            subst vq31
            go_wp2_with (go_at_call 45; refine (wcmp_any W aw lw cw ws HLW.out ((HSd.out.at (hR)).1) (by omega) a6 n6 d6 ol HN6.out ((HSd.out.at (hR)).2.2.2.2.2.1) (by omega)).mono ?_; rintro e' w' ⟨rfl, hm'⟩; rw [HCQ.out])
            exact hK _ _ rfl hm'
          refine opsOkA_cons ?_ ?_
          · intro K vs W hR hD hK
            have dq29 : vs 29 = .bool false := hD 29 (by decide)
            clear hD
            try dsimp only at hK ⊢
            simp only [Act.put, List.setIfInBounds_toArray, List.set_cons_succ, List.set_cons_zero] at hK
            generalize vs 29 = vq29 at hK dq29 ⊢
            subst vq29
            go_wp2
            exact hK _ _ rfl (Mod.refl _ _)
          refine opsOkA_cons ?_ ?_
          · intro K vs W hR hD hK
            have dq29 : vs 29 = .bool false := hD 29 (by decide)
            clear hD
            try dsimp only at hK ⊢
            simp only [Act.put, List.setIfInBounds_toArray, List.set_cons_succ, List.set_cons_zero] at hK
            generalize vs 29 = vq29 at hK dq29 ⊢
            subst vq29
            go_wp2
            exact hK _ _ rfl (Mod.refl _ _)
          refine opsOkA_cons ?_ ?_
          · intro K vs W hR hD hK
            have dq29 : vs 29 = .bool false := hD 29 (by decide)
            have dq33 : vs 33 = .slice aw lw cw := hD 33 (by decide)
            have dq34 : vs 34 = .slice a6 n6 d6 := hD 34 (by decide)
            clear hD
            try dsimp only at hK ⊢
            simp only [Act.put, List.setIfInBounds_toArray, List.set_cons_succ, List.set_cons_zero] at hK
            generalize vs 29 = vq29 at hK dq29 ⊢
            subst vq29
            generalize vs 33 = vq33 at hK dq33 ⊢
            subst vq33
            generalize vs 34 = vq34 at hK dq34 ⊢
            subst vq34
            go_wp2_with (go_at_call 46; refine (r4cmp_any W aw lw cw ws HLW.out ((HSd.out.at (hR)).1) (by omega) a6 n6 d6 ol HN6.out ((HSd.out.at (hR)).2.2.2.2.2.1) (by omega)).mono ?_; rintro e' w' ⟨rfl, hm'⟩; rw [HCQ.out])
            exact hK _ _ rfl hm'
          refine opsOkA_cons ?_ ?_
          · intro K vs W hR hD hK
            have dq29 : vs 29 = .bool false := hD 29 (by decide)
            have dq32 : vs 32 = .int .i64 cq := hD 32 (by decide)
            have dq35 : vs 35 = .int .i64 cq := hD 35 (by decide)
            clear hD
            try dsimp only at hK ⊢
            simp only [Act.put, List.setIfInBounds_toArray, List.set_cons_succ, List.set_cons_zero] at hK
            generalize vs 29 = vq29 at hK dq29 ⊢
            subst vq29
            generalize vs 32 = vq32 at hK dq32 ⊢
            subst vq32
            generalize vs 35 = vq35 at hK dq35 ⊢
            subst vq35
            go_wp2
            exact hK _ _ rfl (Mod.refl _ _)
          refine opsOkA_cons ?_ ?_
          · intro K vs W hR hD hK
            have dq29 : vs 29 = .bool false := hD 29 (by decide)
            have dq36 : vs 36 = .bool false := hD 36 (by decide)
            clear hD
            try dsimp only at hK ⊢
            simp only [Act.put, List.setIfInBounds_toArray, List.set_cons_succ, List.set_cons_zero] at hK
            generalize vs 29 = vq29 at hK dq29 ⊢
            subst vq29
            generalize vs 36 = vq36 at hK dq36 ⊢
            subst vq36
            go_wp2
            exact hK _ _ rfl (Mod.refl _ _)
          exact opsOkA_nil
        · intro vs wq18 hR hF
          have dq37 : vs 37 = .bool false := hF 37 (by decide)
          clear hF
          try dsimp only
          generalize vs 37 = vq37 at dq37 ⊢
          subst dq37
          replace HS := Lib.hid (HSd.out.step hR)
          clear HSd hR
          have hbbg := (HS.out.now).2.2.1
          have qbg_0 := hbbg.cell 0 rfl
          have qbg_1 := hbbg.cell 1 rfl
          have qbg_2 := hbbg.cell 2 rfl
          have lbg := hbbg.lt
          clear hbbg
          go_wp2_with fail
          go_roundw
          case rel => exact ⟨2, by omega, rfl, (HS.out.now).2.1⟩
          case measure => simp [intOf]
theorem wtells_law (w : World) (a0 : Option Addr) (m c0 : Nat) (l : List Int) (ok : (encSlice (encInt .i64)).ok w (.slice a0 m c0, l)) (fr : Int) (_ : (Lit.int .i64 fr).wf = true) (a5 : Option Addr) (n5 d5 : Nat) (es : List Int) (ok5 : (encSlice (encInt .i64)).ok w (.slice a5 n5 d5, es)) (a6 : Option Addr) (n6 d6 : Nat) (ol : List Int) (ok6 : (encSlice (encInt .i64)).ok w (.slice a6 n6 d6, ol)) (a4 : Option Addr) (n4 d4 : Nat) (st : List Int) (ok4 : (encSlice (encInt .i64)).ok w (.slice a4 n4 d4, st)) :
    Calls Try.prog 7 #[.slice a0 m c0, .int .i64 fr, .slice a5 n5 d5, .slice a6 n6 d6, .slice a4 n4 d4] w fun e w' => e = .returned (.bool true) ∧ Below w.heap.size w w' := by
  obtain ⟨h1, r1, _⟩ := ok_ints ok
  obtain ⟨h4, r4, _⟩ := ok_ints ok4
  obtain ⟨h5, r5, _⟩ := ok_ints ok5
  obtain ⟨h6, r6, _⟩ := ok_ints ok6
  exact (wtells_all w a0 m c0 l h1 r1 fr a5 n5 d5 es h5 r5 a6 n6 d6 ol h6 r6 a4 n4 d4 st h4 r4).mono fun e w' h => ⟨h.1, h.2.below (Nat.le_refl _) (fun _ e => e.elim)⟩
end Go.Proofs.Ytmpcpmgpnccphaa
