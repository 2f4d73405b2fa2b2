/- DistTells walked. -/
import Derived.Test.YtgiojfihgdifbaaAwake11
import Derived.Test.YtgiojfihgdifbaaKOpen
import Derived.Test.YtgiojfihgdifbaaRegion2
import Derived.Deep.DeepCutAuto
import Derived.Deep.CutBlock
namespace Go.Proofs.Ytgiojfihgdifbaa
open Go.RowKit Mile
set_option maxRecDepth 100000
/-- What each operation of the statement leaves. -/
def dt_r15_0_F (a1 : Option Addr) (a2 : Option Addr) (a3 : Option Addr) (n1 : Nat) (d1 : Nat) (n2 : Nat) (d2 : Nat) (n3 : Nat) (d3 : Nat) (t : Nat) (G : GD) (hmay : May G) (ac : Option Addr) (nc : Nat) (cc : Nat) (cl : List Bool) (vv : Int) : List (Value → World → Prop) :=
  [IsV (.pointer (some ⟨t, 0, none⟩)),
   IsV (.int .i64 vv),
   IsV (.slice ac nc cc),
   (VFar (TFar G hmay vv cl)),
   IsV (.agg #[.slice a1 n1 d1, .slice a2 n2 d2, .slice a3 n3 d3]),
   IsV (.int .i64 vv),
   IsV (.slice ac nc cc),
   (VFar (TFar G hmay vv cl)),
   IsV (.bool true),
   IsV (.bool false)]
def dt_r15_0_D : List (List Nat) := [[], [], [], [0, 1, 2], [], [], [], [4, 5, 6], [3, 7], [8]]

/-- What each operation of the statement leaves. -/
def dt_r19_1_F (ev : Int) (a1 : Option Addr) (a2 : Option Addr) (a3 : Option Addr) (n1 : Nat) (d1 : Nat) (n2 : Nat) (d2 : Nat) (n3 : Nat) (d3 : Nat) (t : Nat) (bg : Nat) (G : GD) (hmay : May G) (ac : Option Addr) (nc : Nat) (cc : Nat) (cl : List Bool) (x : Int) (xm : Int) (bk : Bool) (re : Int) : List (Value → World → Prop) :=
  [IsV (.bool bk),
   IsV (.int .i64 x),
   IsV (.bool bk),
   IsV (.bool false),
   IsV (.bool false),
   IsV (.int .i64 xm),
   IsV (.int .i64 x),
   IsV (.int .i64 xm),
   IsV (.bool false),
   IsV (.bool false),
   IsV (.bool false),
   IsV (.pointer (some ⟨t, 0, none⟩)),
   IsV (.int .i64 ev),
   IsV (.slice ac nc cc),
   (VFar (FFar G hmay ev cl)),
   IsV (.agg #[.slice a1 n1 d1, .slice a2 n2 d2, .slice a3 n3 d3]),
   IsV (.int .i64 ev),
   IsV (.slice ac nc cc),
   (VFar (FFar G hmay ev cl)),
   IsV (.bool true),
   IsV (.bool false),
   IsV (.bool false),
   IsV (.bool false),
   IsV (.pointer (some ⟨t, 0, none⟩)),
   IsV (.int .i64 ev),
   IsV (.pointer (some ⟨bg, 1, none⟩)),
   IsV (.slice a2 n2 d2),
   IsV (.int .i64 (n2 : Int)),
   IsV (.int .i64 re),
   IsV (.slice ac nc cc),
   (VFar (FFar G hmay re cl)),
   IsV (.agg #[.slice a1 n1 d1, .slice a2 n2 d2, .slice a3 n3 d3]),
   IsV (.int .i64 ev),
   IsV (.pointer (some ⟨bg, 1, none⟩)),
   IsV (.slice a2 n2 d2),
   IsV (.int .i64 (n2 : Int)),
   IsV (.int .i64 re),
   IsV (.slice ac nc cc),
   (VFar (FFar G hmay re cl)),
   IsV (.bool true),
   IsV (.bool false),
   IsV (.bool false)]
def dt_r19_1_D : List (List Nat) := [[], [], [1], [0, 2], [3], [4], [4], [4, 6], [4, 5, 7], [4, 8], [9], [10], [10], [10], [10, 11, 12, 13], [10], [10], [10], [10, 15, 16, 17], [10, 14, 18], [10, 19], [10, 20], [21], [22], [22], [22], [22, 25], [22, 26], [22, 24, 27], [22], [22, 23, 28, 29], [22], [22], [22], [22, 33], [22, 34], [22, 32, 35], [22], [22, 31, 36, 37], [22, 30, 38], [22, 39], [22, 40]]

/-- What each operation of the statement leaves. -/
def dt_r15_2_F (a1 : Option Addr) (a2 : Option Addr) (a3 : Option Addr) (n1 : Nat) (d1 : Nat) (n2 : Nat) (d2 : Nat) (n3 : Nat) (d3 : Nat) (t : Nat) (G : GD) (hmay : May G) (ac : Option Addr) (nc : Nat) (cc : Nat) (cl : List Bool) (vv : Int) : List (Value → World → Prop) :=
  [IsV (.pointer (some ⟨t, 0, none⟩)),
   IsV (.int .i64 vv),
   IsV (.slice ac nc cc),
   (VFar (TFar G hmay vv cl)),
   IsV (.agg #[.slice a1 n1 d1, .slice a2 n2 d2, .slice a3 n3 d3]),
   IsV (.int .i64 vv),
   IsV (.slice ac nc cc),
   (VFar (TFar G hmay vv cl)),
   IsV (.bool true),
   IsV (.bool false)]
def dt_r15_2_D : List (List Nat) := [[], [], [], [0, 1, 2], [], [], [], [4, 5, 6], [3, 7], [8]]

/-- What each operation of the statement leaves. -/
def dt_r19_3_F (ev : Int) (a1 : Option Addr) (a2 : Option Addr) (a3 : Option Addr) (n1 : Nat) (d1 : Nat) (n2 : Nat) (d2 : Nat) (n3 : Nat) (d3 : Nat) (t : Nat) (bg : Nat) (G : GD) (hmay : May G) (ac : Option Addr) (nc : Nat) (cc : Nat) (cl : List Bool) (x : Int) (xm : Int) (bk : Bool) (re : Int) : List (Value → World → Prop) :=
  [IsV (.bool bk),
   IsV (.int .i64 x),
   IsV (.bool bk),
   IsV (.bool false),
   IsV (.bool false),
   IsV (.int .i64 xm),
   IsV (.int .i64 x),
   IsV (.int .i64 xm),
   IsV (.bool false),
   IsV (.bool false),
   IsV (.bool false),
   IsV (.pointer (some ⟨t, 0, none⟩)),
   IsV (.int .i64 ev),
   IsV (.slice ac nc cc),
   (VFar (FFar G hmay ev cl)),
   IsV (.agg #[.slice a1 n1 d1, .slice a2 n2 d2, .slice a3 n3 d3]),
   IsV (.int .i64 ev),
   IsV (.slice ac nc cc),
   (VFar (FFar G hmay ev cl)),
   IsV (.bool true),
   IsV (.bool false),
   IsV (.bool false),
   IsV (.bool false),
   IsV (.pointer (some ⟨t, 0, none⟩)),
   IsV (.int .i64 ev),
   IsV (.pointer (some ⟨bg, 1, none⟩)),
   IsV (.slice a2 n2 d2),
   IsV (.int .i64 (n2 : Int)),
   IsV (.int .i64 re),
   IsV (.slice ac nc cc),
   (VFar (FFar G hmay re cl)),
   IsV (.agg #[.slice a1 n1 d1, .slice a2 n2 d2, .slice a3 n3 d3]),
   IsV (.int .i64 ev),
   IsV (.pointer (some ⟨bg, 1, none⟩)),
   IsV (.slice a2 n2 d2),
   IsV (.int .i64 (n2 : Int)),
   IsV (.int .i64 re),
   IsV (.slice ac nc cc),
   (VFar (FFar G hmay re cl)),
   IsV (.bool true),
   IsV (.bool false),
   IsV (.bool false)]
def dt_r19_3_D : List (List Nat) := [[], [], [1], [0, 2], [3], [4], [4], [4, 6], [4, 5, 7], [4, 8], [9], [10], [10], [10], [10, 11, 12, 13], [10], [10], [10], [10, 15, 16, 17], [10, 14, 18], [10, 19], [10, 20], [21], [22], [22], [22], [22, 25], [22, 26], [22, 24, 27], [22], [22, 23, 28, 29], [22], [22], [22], [22, 33], [22, 34], [22, 32, 35], [22], [22, 31, 36, 37], [22, 30, 38], [22, 39], [22, 40]]

set_option maxHeartbeats 64000000 in
theorem dtells_all (w : World) (a0 : Option Addr) (m c0 : Nat) (l : List Int) (hm : l.length = m) (hr : Rd w 1 (.slice a0 m c0) m (l.map (Value.int .i64))) (a4 : Option Addr) (n4 d4 : Nat) (sh : List Int) (hn4 : sh.length = n4) (hr4 : Rd w 1 (.slice a4 n4 d4) n4 (sh.map (Value.int .i64))) (a5 : Option Addr) (n5 d5 : Nat) (rwl : List Bool) (hn5 : rwl.length = n5) (hr5 : Rd w 1 (.slice a5 n5 d5) n5 (rwl.map Value.bool)) (nv ev : Int) :
    Calls Try.prog 3 #[.slice a0 m c0, .slice a4 n4 d4, .slice a5 n5 d5, .int .i64 nv, .int .i64 ev] w fun e w' => e = .returned (.bool true) ∧ Mod (fun _ => False) w w' := by
  by_cases hlen0 : m ≤ 100
  case neg =>
    have HS : Hid (Ev (Mod (fun _ => False) w) w) := Lib.hid (Ev.mod w)
    have z0 : decide (100 < (m : Int)) = true := by simp; omega
    have z1 : decide (100 < m) = true := by simp; omega
    go_enter Try.func3, Try.ntmps3
    go_wp2_with fail
    refine (awake11_any _).mono ?_
    rintro e wq1 ⟨rfl, hm⟩
    replace HS := Lib.hid (HS.out.step hm)
    clear hm
    go_wp2_with fail
    go_ret
    exact ⟨rfl, HS.out.now⟩
  by_cases hlen1 : n4 ≤ 40
  case neg =>
    have HS : Hid (Ev (Mod (fun _ => False) w) w) := Lib.hid (Ev.mod w)
    have y0 : decide (100 < (m : Int)) = false := by simp; omega
    have z0 : decide (40 < (n4 : Int)) = true := by simp; omega
    have z1 : decide (40 < n4) = true := by simp; omega
    go_enter Try.func3, Try.ntmps3
    go_wp2_with fail
    refine (awake11_any _).mono ?_
    rintro e wq2 ⟨rfl, hm⟩
    replace HS := Lib.hid (HS.out.step hm)
    clear hm
    go_wp2_with fail
    go_ret
    exact ⟨rfl, HS.out.now⟩
  by_cases hlen2 : n5 ≤ 80
  case neg =>
    have HS : Hid (Ev (Mod (fun _ => False) w) w) := Lib.hid (Ev.mod w)
    have y0 : decide (100 < (m : Int)) = false := by simp; omega
    have y1 : decide (40 < (n4 : Int)) = false := by simp; omega
    have z0 : decide (80 < (n5 : Int)) = true := by simp; omega
    have z1 : decide (80 < n5) = true := by simp; omega
    go_enter Try.func3, Try.ntmps3
    go_wp2_with fail
    refine (awake11_any _).mono ?_
    rintro e wq3 ⟨rfl, hm⟩
    replace HS := Lib.hid (HS.out.step hm)
    clear hm
    go_wp2_with fail
    go_ret
    exact ⟨rfl, HS.out.now⟩
  have HS : Hid (Ev (Mod (fun _ => False) w) w) := Lib.hid (Ev.mod w)
  have y0 : decide (100 < (m : Int)) = false := by simp; omega
  have y1 : decide (40 < (n4 : Int)) = false := by simp; omega
  have y2 : decide (80 < (n5 : Int)) = false := by simp; omega
  replace HS := Lib.hid ((Ev.rd hr).and HS.out)
  replace HS := Lib.hid ((Ev.rd hr4).and HS.out)
  replace HS := Lib.hid ((Ev.rd hr5).and HS.out)
  have HN4 := Lib.hid hn4
  have HN5 := Lib.hid hn5
  clear hr hr4 hr5 hn4 hn5
  go_enter Try.func3, Try.ntmps3
  go_wp2_with fail
  refine (made11_any _ a0 m c0 l hm ((HS.out.now).2.2.1)).mono ?_
  rintro e wq4 ⟨a1, n1, d1, a2, n2, d2, a3, n3, d3, t, p, B, C, rfl, hg, hto, hmm⟩
  replace HS := Lib.hid (HS.out.step hmm)
  clear hmm
  replace HS := Lib.hid ((Ev.gv hg).and HS.out)
  replace HS := Lib.hid ((Ev.to hto).and HS.out)
  clear hg hto y0 y1 y2
  have hmay := Lib.hid (town_may l)
  have hfew := Lib.hid (town_few l)
  obtain ⟨G, hG⟩ : ∃ G, townG l = G := ⟨_, rfl⟩
  rw [hG] at hmay hfew
  rw [hG] at HS
  clear hG
  have hn := Lib.hid ((HS.out.now).2.1.n)
  have he := Lib.hid ((HS.out.now).2.1.e)
  have hb := Lib.hid ((HS.out.now).2.1.b)
  have h1n : n1 ≤ 16 := by have := hfew.out.1.2; have := hn.out; omega
  have h2n : n2 ≤ 67 := by have := hfew.out.2.1.2; have := he.out; omega
  have h2p : 1 ≤ n2 := by have := hfew.out.2.1.1; have := he.out; omega
  have h3n : n3 ≤ 469 := by have := hfew.out.2.2; have := hb.out; omega
  go_wp2_with fail
  obtain ⟨bg, hbg⟩ : ∃ b, wq4.heap.size = b := ⟨_, rfl⟩
  obtain ⟨wq5, hwq5⟩ : ∃ W, World.alloc wq4 (.cells #[.slice a1 n1 d1, .slice a2 n2 d2, .slice a3 n3 d3] 29) = W := ⟨_, rfl⟩
  have hBbg : Blk wq5 bg 29 [.slice a1 n1 d1, .slice a2 n2 d2, .slice a3 n3 d3] := by rw [← hwq5, ← hbg]; exact Blk.new _ 29 [.slice a1 n1 d1, .slice a2 n2 d2, .slice a3 n3 d3]
  have hzbg : wq5.heap.size = bg + 1 := by rw [← hwq5, ← hbg]; exact heap_size_alloc _ _
  replace HS := Lib.hid (HS.out.step (w' := wq5) (by rw [← hwq5]; exact Mod.alloc _ _ _))
  replace HS := Lib.hid ((Ev.blk hBbg).and HS.out)
  try rw [hwq5]
  try rw [hbg]
  clear hzbg hBbg hbg hwq5
  have hbbg := (HS.out.now).1
  have qbg_0 := hbbg.cell 0 rfl
  have qbg_1 := hbbg.cell 1 rfl
  have qbg_2 := hbbg.cell 2 rfl
  have lbg := hbbg.lt
  clear hbbg
  have hmay0 := hmay.out
  clear hmay
  skip
  obtain ⟨hmay, hmy⟩ : ∃ h : May G, h = hmay0 := ⟨_, rfl⟩
  clear hmy hmay0
  go_wp2_with fail
  clear qbg_0 qbg_1 qbg_2 lbg
  replace HS := Lib.hid ((Ev.mod wq5).and HS.out)
  go_loopw [13] (fun i wr => ∃ k : Nat, k ≤ 2 ∧ i = .int .i64 k ∧ Mod (fun _ => False) wq5 wr) (fun i _ => 2 - (intOf i).toNat)
  case atStart => exact ⟨0, by omega, rfl, Mod.refl _ _⟩
  case round =>
    obtain ⟨k, hk, rfl, hmr⟩ := hrel
    obtain ⟨wo, hwo⟩ : ∃ x : World, x = wr := ⟨_, rfl⟩
    subst hwo
    replace HS := Lib.hid (HS.out.step hmr)
    clear hmr
    have hbbg := (HS.out.now).2.1
    have qbg_0 := hbbg.cell 0 rfl
    have qbg_1 := hbbg.cell 1 rfl
    have qbg_2 := hbbg.cell 2 rfl
    have lbg := hbbg.lt
    clear hbbg
    have hk3 : k = 0 ∨ k = 1 ∨ k = 2 := by omega
    rcases hk3 with rfl | rfl | rfl
    · have HNC : Hid (rwl.length = n5) := HN5
      obtain ⟨ac, nc, cc, cl, hc0, HNC2, hcl⟩ : ∃ ac nc cc cl, Value.slice ac nc cc = .slice a5 n5 d5 ∧ Hid (List.length (α := Bool) cl = nc) ∧ Rd wo 1 (.slice ac nc cc) nc (cl.map Value.bool) := ⟨a5, n5, d5, rwl, rfl, HNC, (HS.out.now).2.2.2.2.1⟩
      clear HNC
      have HNC := HNC2
      clear HNC2
      replace HS := Lib.hid ((Ev.rd hcl).and HS.out)
      clear hcl
      clear qbg_0 qbg_1 qbg_2 lbg
      have hbbg := (HS.out.now).2.2.1
      have qbg_0 := hbbg.cell 0 rfl
      have qbg_1 := hbbg.cell 1 rfl
      have qbg_2 := hbbg.cell 2 rfl
      have lbg := hbbg.lt
      clear hbbg
      simp only [← hc0]
      clear hc0
      have hnc := HNC.out
      clear hnc
      go_wp2_with fail
      clear qbg_0 qbg_1 qbg_2 lbg
      replace HS := Lib.hid ((Ev.mod wo).and HS.out)
      go_loopw [15] (fun i wr => ∃ vv : Int, -1 ≤ vv ∧ vv ≤ (n1 : Int) + 1 ∧ i = .int .i64 vv ∧ Mod (fun _ => False) wo wr) (fun i _ => ((n1 : Int) + 1 - intOf i).toNat)
      case atStart => exact ⟨-1, by omega, by omega, rfl, Mod.refl _ _⟩
      case round =>
        obtain ⟨vv, hv1, hv2, rfl, hmr⟩ := hrel
        obtain ⟨wp, hwp⟩ : ∃ x : World, x = wr := ⟨_, rfl⟩
        subst hwp
        replace HS := Lib.hid (HS.out.step hmr)
        clear hmr
        have hbbg := (HS.out.now).2.2.2.1
        have qbg_0 := hbbg.cell 0 rfl
        have qbg_1 := hbbg.cell 1 rfl
        have qbg_2 := hbbg.cell 2 rfl
        have lbg := hbbg.lt
        clear hbbg
        by_cases hlv : vv ≤ (n1 : Int)
        case pos =>
          have z0 : decide (vv ≤ (n1 : Int)) = true := by simpa using hlv
          go_upto_region 15 with fail
          clear qbg_0 qbg_1 qbg_2 lbg
          have HSd := Lib.hid HS.out.drew
          refine wp_region_inv3 (act := ?actdt_r15_0) (Mod (fun _ => False)) (fun i => (dt_r15_0_F a1 a2 a3 n1 d1 n2 d2 n3 d3 t G hmay ac nc cc cl vv).getD i (fun _ _ => True)) (fun i => dt_r15_0_D.getD i []) (by kernel_rfl) (by kernel_rfl) (by kernel_rfl) (by kernel_rfl) (fun _ => Mod.refl _ _)
            (fun _ _ _ h k => h.trans k (fun _ _ e => e) (fun _ _ e => e)) ?hactdt_r15_0 (stable_list ?_) ?_ ?_
          case hactdt_r15_0 => intro vs; simp only [putAll, Nat.zero_add, Nat.reduceAdd, Act.put, List.setIfInBounds_toArray, List.set_cons_succ, List.set_cons_zero]; exact rfl
          · unfold dt_r15_0_F
            exact stable_cons (stable_val _) <| stable_cons (stable_val _) <| stable_cons (stable_val _) <| stable_cons (VFar.st) <| stable_cons (stable_val _) <| stable_cons (stable_val _) <| stable_cons (stable_val _) <| stable_cons (VFar.st) <| stable_cons (stable_val _) <| stable_cons (stable_val _) <| stable_nil
          · refine opsOkA_cons ?_ ?_
            · intro K vs W hR hD hK
              clear hD
              try dsimp only at hK ⊢
              simp only [Act.put, List.setIfInBounds_toArray, List.set_cons_succ, List.set_cons_zero] at hK
              go_wp2
              exact hK _ _ rfl (Mod.refl _ _)
            refine opsOkA_cons ?_ ?_
            · intro K vs W hR hD hK
              clear hD
              try dsimp only at hK ⊢
              simp only [Act.put, List.setIfInBounds_toArray, List.set_cons_succ, List.set_cons_zero] at hK
              go_wp2
              exact hK _ _ rfl (Mod.refl _ _)
            refine opsOkA_cons ?_ ?_
            · intro K vs W hR hD hK
              clear hD
              try dsimp only at hK ⊢
              simp only [Act.put, List.setIfInBounds_toArray, List.set_cons_succ, List.set_cons_zero] at hK
              go_wp2
              exact hK _ _ rfl (Mod.refl _ _)
            refine opsOkA_cons ?_ ?_
            · intro K vs W hR hD hK
              have dq0 : vs 0 = .pointer (some ⟨t, 0, none⟩) := hD 0 (by decide)
              have dq1 : vs 1 = .int .i64 vv := hD 1 (by decide)
              have dq2 : vs 2 = .slice ac nc cc := hD 2 (by decide)
              clear hD
              try dsimp only at hK ⊢
              simp only [Act.put, List.setIfInBounds_toArray, List.set_cons_succ, List.set_cons_zero] at hK
              generalize vs 0 = vq0 at hK dq0 ⊢
              subst vq0
              generalize vs 1 = vq1 at hK dq1 ⊢
              subst vq1
              generalize vs 2 = vq2 at hK dq2 ⊢
              subst vq2
              go_wp2_with (go_at_call 15; refine (dto_far t p B C G hmay W ((HSd.out.at (hR)).2.2.2.2.1) vv ac nc cc cl HNC.out ((HSd.out.at (hR)).2.1)).mono ?_; rintro e' w' ⟨x', rfl, hx', hm'⟩)
              exact hK _ _ hx' hm'
            refine opsOkA_cons ?_ ?_
            · intro K vs W hR hD hK
              clear hD
              try dsimp only at hK ⊢
              simp only [Act.put, List.setIfInBounds_toArray, List.set_cons_succ, List.set_cons_zero] at hK
              have hbx := (HSd.out.at (hR)).2.2.2.1
              have q0 := hbx.cell 0 rfl
              have q1 := hbx.cell 1 rfl
              have q2 := hbx.cell 2 rfl
              go_wp2
              exact hK _ _ rfl (Mod.refl _ _)
            refine opsOkA_cons ?_ ?_
            · intro K vs W hR hD hK
              clear hD
              try dsimp only at hK ⊢
              simp only [Act.put, List.setIfInBounds_toArray, List.set_cons_succ, List.set_cons_zero] at hK
              go_wp2
              exact hK _ _ rfl (Mod.refl _ _)
            refine opsOkA_cons ?_ ?_
            · intro K vs W hR hD hK
              clear hD
              try dsimp only at hK ⊢
              simp only [Act.put, List.setIfInBounds_toArray, List.set_cons_succ, List.set_cons_zero] at hK
              go_wp2
              exact hK _ _ rfl (Mod.refl _ _)
            refine opsOkA_cons ?_ ?_
            · intro K vs W hR hD hK
              have dq4 : vs 4 = .agg #[.slice a1 n1 d1, .slice a2 n2 d2, .slice a3 n3 d3] := hD 4 (by decide)
              have dq5 : vs 5 = .int .i64 vv := hD 5 (by decide)
              have dq6 : vs 6 = .slice ac nc cc := hD 6 (by decide)
              clear hD
              try dsimp only at hK ⊢
              simp only [Act.put, List.setIfInBounds_toArray, List.set_cons_succ, List.set_cons_zero] at hK
              generalize vs 4 = vq4 at hK dq4 ⊢
              subst vq4
              generalize vs 5 = vq5 at hK dq5 ⊢
              subst vq5
              generalize vs 6 = vq6 at hK dq6 ⊢
              subst vq6
              go_wp2_with (go_at_call 16; refine (r4to_far G hmay W a1 n1 d1 a2 n2 d2 a3 n3 d3 ((HSd.out.at (hR)).2.2.2.2.2.1) vv ac nc cc cl HNC.out ((HSd.out.at (hR)).2.1)).mono ?_; rintro e' w' ⟨x', rfl, hx', hm'⟩)
              exact hK _ _ hx' hm'
            refine opsOkA_cons ?_ ?_
            · intro K vs W hR hD hK
              have dq3 : (VFar (TFar G hmay vv cl)) (vs 3) W := hD 3 (by decide)
              have dq7 : (VFar (TFar G hmay vv cl)) (vs 7) W := hD 7 (by decide)
              clear hD
              try dsimp only at hK ⊢
              simp only [Act.put, List.setIfInBounds_toArray, List.set_cons_succ, List.set_cons_zero] at hK
              generalize vs 3 = vq3 at hK dq3 ⊢
              generalize vs 7 = vq7 at hK dq7 ⊢
              go_wp2_with (go_at_call 14; refine (ints_far TFar.uniq W _ _ dq3 dq7).mono ?_; rintro e' w' ⟨rfl, hm'⟩)
              exact hK _ _ rfl hm'
            refine opsOkA_cons ?_ ?_
            · intro K vs W hR hD hK
              have dq8 : vs 8 = .bool true := hD 8 (by decide)
              clear hD
              try dsimp only at hK ⊢
              simp only [Act.put, List.setIfInBounds_toArray, List.set_cons_succ, List.set_cons_zero] at hK
              generalize vs 8 = vq8 at hK dq8 ⊢
              subst vq8
              go_wp2
              exact hK _ _ rfl (Mod.refl _ _)
            exact opsOkA_nil
          · intro vs wq6 hR hF
            have dq9 : vs 9 = .bool false := hF 9 (by decide)
            clear hF
            try dsimp only
            generalize vs 9 = vq9 at dq9 ⊢
            subst dq9
            replace HS := Lib.hid (HSd.out.step hR)
            clear HSd hR
            have hbbg := (HS.out.now).2.2.2.1
            have qbg_0 := hbbg.cell 0 rfl
            have qbg_1 := hbbg.cell 1 rfl
            have qbg_2 := hbbg.cell 2 rfl
            have lbg := hbbg.lt
            clear hbbg
            go_wp2_with fail
            go_roundw
            case rel => exact ⟨vv + 1, by omega, by omega, by go_num, (HS.out.now).1⟩
            case measure => simp [intOf]; omega
        case neg =>
          have z0 : decide (vv ≤ (n1 : Int)) = false := by simp; omega
          go_wp2_with fail
          refine (dbtw_any t p B C G hmay _ ((HS.out.now).2.2.2.2.1) ev nv ac nc cc cl HNC.out ((HS.out.now).2.1)).mono ?_
          rintro e w' hp
          clear qbg_0 qbg_1 qbg_2 lbg
          obtain ⟨x, hbt, rfl, hmc⟩ := hp
          obtain ⟨wc, hwc⟩ : ∃ x : World, x = w' := ⟨_, rfl⟩
          subst hwc
          replace HS := Lib.hid (HS.out.step hmc)
          clear hmc
          have hbbg := (HS.out.now).2.2.2.1
          have qbg_0 := hbbg.cell 0 rfl
          have qbg_1 := hbbg.cell 1 rfl
          have qbg_2 := hbbg.cell 2 rfl
          have lbg := hbbg.lt
          clear hbbg
          have hlo := hbt.low
          have HBT := Lib.hid hbt
          clear hbt
          obtain ⟨bk, hbk⟩ : ∃ b, decide (0 ≤ x) = b := ⟨_, rfl⟩
          have hbk2 : decide (x ≠ -1) = bk := by rw [← hbk]; exact decide_eq_decide.2 (by omega)
          obtain ⟨xm, hxm⟩ : ∃ y, (if x = -1 then 0 else x) = y := ⟨_, rfl⟩
          rw [hbk2, hxm]
          have hmax : max x 0 = xm := by rw [← hxm]; split <;> omega
          clear hbk2 hxm z0
          go_wp2_with fail
          refine (r4btw_any G hmay _ a1 n1 d1 a2 n2 d2 a3 n3 d3 ((HS.out.now).2.2.2.2.2.1) ev nv ac nc cc cl HNC.out ((HS.out.now).2.1)).mono ?_
          rintro e w' hp
          clear qbg_0 qbg_1 qbg_2 lbg
          obtain ⟨x2, hbt, rfl, hmc⟩ := hp
          obtain rfl := HBT.out.uniq hbt
          obtain ⟨wd, hwd⟩ : ∃ x : World, x = w' := ⟨_, rfl⟩
          subst hwd
          replace HS := Lib.hid (HS.out.step hmc)
          clear hmc hbt
          have hbbg := (HS.out.now).2.2.2.1
          have qbg_0 := hbbg.cell 0 rfl
          have qbg_1 := hbbg.cell 1 rfl
          have qbg_2 := hbbg.cell 2 rfl
          have lbg := hbbg.lt
          clear hbbg
          go_upto_region 19 with fail
          obtain ⟨re, hre⟩ : ∃ y, ev % (n2 : Int) = y := ⟨_, rfl⟩
          have HRE := Lib.hid hre
          clear hre
          go_upto_region 19 with fail
          clear qbg_0 qbg_1 qbg_2 lbg
          have HSd := Lib.hid HS.out.drew
          refine wp_region_inv3 (act := ?actdt_r19_1) (Mod (fun _ => False)) (fun i => (dt_r19_1_F ev a1 a2 a3 n1 d1 n2 d2 n3 d3 t bg G hmay ac nc cc cl x xm bk re).getD i (fun _ _ => True)) (fun i => dt_r19_1_D.getD i []) (by kernel_rfl) (by kernel_rfl) (by kernel_rfl) (by kernel_rfl) (fun _ => Mod.refl _ _)
            (fun _ _ _ h k => h.trans k (fun _ _ e => e) (fun _ _ e => e)) ?hactdt_r19_1 (stable_list ?_) ?_ ?_
          case hactdt_r19_1 => intro vs; simp only [putAll, Nat.zero_add, Nat.reduceAdd, Act.put, List.setIfInBounds_toArray, List.set_cons_succ, List.set_cons_zero]; exact rfl
          · unfold dt_r19_1_F
            exact stable_cons (stable_val _) <| stable_cons (stable_val _) <| stable_cons (stable_val _) <| stable_cons (stable_val _) <| stable_cons (stable_val _) <| stable_cons (stable_val _) <| stable_cons (stable_val _) <| stable_cons (stable_val _) <| stable_cons (stable_val _) <| stable_cons (stable_val _) <| stable_cons (stable_val _) <| stable_cons (stable_val _) <| stable_cons (stable_val _) <| stable_cons (stable_val _) <| stable_cons (VFar.st) <| stable_cons (stable_val _) <| stable_cons (stable_val _) <| stable_cons (stable_val _) <| stable_cons (VFar.st) <| stable_cons (stable_val _) <| stable_cons (stable_val _) <| stable_cons (stable_val _) <| stable_cons (stable_val _) <| stable_cons (stable_val _) <| stable_cons (stable_val _) <| stable_cons (stable_val _) <| stable_cons (stable_val _) <| stable_cons (stable_val _) <| stable_cons (stable_val _) <| stable_cons (stable_val _) <| stable_cons (VFar.st) <| stable_cons (stable_val _) <| stable_cons (stable_val _) <| stable_cons (stable_val _) <| stable_cons (stable_val _) <| stable_cons (stable_val _) <| stable_cons (stable_val _) <| stable_cons (stable_val _) <| stable_cons (VFar.st) <| stable_cons (stable_val _) <| stable_cons (stable_val _) <| stable_cons (stable_val _) <| stable_nil
          · refine opsOkA_cons ?_ ?_
            · intro K vs W hR hD hK
              clear hD
              try dsimp only at hK ⊢
              simp only [Act.put, List.setIfInBounds_toArray, List.set_cons_succ, List.set_cons_zero] at hK
              go_wp2
              exact hK _ _ rfl (Mod.refl _ _)
            refine opsOkA_cons ?_ ?_
            · intro K vs W hR hD hK
              clear hD
              try dsimp only at hK ⊢
              simp only [Act.put, List.setIfInBounds_toArray, List.set_cons_succ, List.set_cons_zero] at hK
              go_wp2
              exact hK _ _ rfl (Mod.refl _ _)
            refine opsOkA_cons ?_ ?_
            · intro K vs W hR hD hK
              have dq1 : vs 1 = .int .i64 x := hD 1 (by decide)
              clear hD
              try dsimp only at hK ⊢
              simp only [Act.put, List.setIfInBounds_toArray, List.set_cons_succ, List.set_cons_zero] at hK
              generalize vs 1 = vq1 at hK dq1 ⊢
              subst vq1
              go_wp2
              exact hK _ _ rfl (Mod.refl _ _)
            refine opsOkA_cons ?_ ?_
            · intro K vs W hR hD hK
              have dq0 : vs 0 = .bool bk := hD 0 (by decide)
              have dq2 : vs 2 = .bool bk := hD 2 (by decide)
              clear hD
              try dsimp only at hK ⊢
              simp only [Act.put, List.setIfInBounds_toArray, List.set_cons_succ, List.set_cons_zero] at hK
              generalize vs 0 = vq0 at hK dq0 ⊢
              subst vq0
              generalize vs 2 = vq2 at hK dq2 ⊢
              subst vq2
              go_wp2
              exact hK _ _ rfl (Mod.refl _ _)
            refine opsOkA_cons ?_ ?_
            · intro K vs W hR hD hK
              have dq3 : vs 3 = .bool false := hD 3 (by decide)
              clear hD
              try dsimp only at hK ⊢
              simp only [Act.put, List.setIfInBounds_toArray, List.set_cons_succ, List.set_cons_zero] at hK
              generalize vs 3 = vq3 at hK dq3 ⊢
              subst vq3
              go_wp2
              exact hK _ _ rfl (Mod.refl _ _)
            refine opsOkA_cons ?_ ?_
            · intro K vs W hR hD hK
              have dq4 : vs 4 = .bool false := hD 4 (by decide)
              clear hD
              try dsimp only at hK ⊢
              simp only [Act.put, List.setIfInBounds_toArray, List.set_cons_succ, List.set_cons_zero] at hK
              generalize vs 4 = vq4 at hK dq4 ⊢
              subst vq4
              go_wp2
              exact hK _ _ rfl (Mod.refl _ _)
            refine opsOkA_cons ?_ ?_
            · intro K vs W hR hD hK
              have dq4 : vs 4 = .bool false := hD 4 (by decide)
              clear hD
              try dsimp only at hK ⊢
              simp only [Act.put, List.setIfInBounds_toArray, List.set_cons_succ, List.set_cons_zero] at hK
              generalize vs 4 = vq4 at hK dq4 ⊢
              subst vq4
              go_wp2
              exact hK _ _ rfl (Mod.refl _ _)
            refine opsOkA_cons ?_ ?_
            · intro K vs W hR hD hK
              have dq4 : vs 4 = .bool false := hD 4 (by decide)
              have dq6 : vs 6 = .int .i64 x := hD 6 (by decide)
              clear hD
              try dsimp only at hK ⊢
              simp only [Act.put, List.setIfInBounds_toArray, List.set_cons_succ, List.set_cons_zero] at hK
              generalize vs 4 = vq4 at hK dq4 ⊢
              subst vq4
              generalize vs 6 = vq6 at hK dq6 ⊢
              subst vq6
              go_wp2
              all_goals first | exact hK _ _ (congrArg (Value.int .i64) (show (0 : Int) = xm by omega)) (Mod.refl _ _) | exact hK _ _ (congrArg (Value.int .i64) (show x = xm by omega)) (Mod.refl _ _)
            refine opsOkA_cons ?_ ?_
            · intro K vs W hR hD hK
              have dq4 : vs 4 = .bool false := hD 4 (by decide)
              have dq5 : vs 5 = .int .i64 xm := hD 5 (by decide)
              have dq7 : vs 7 = .int .i64 xm := hD 7 (by decide)
              clear hD
              try dsimp only at hK ⊢
              simp only [Act.put, List.setIfInBounds_toArray, List.set_cons_succ, List.set_cons_zero] at hK
              generalize vs 4 = vq4 at hK dq4 ⊢
              subst vq4
              generalize vs 5 = vq5 at hK dq5 ⊢
              subst vq5
              generalize vs 7 = vq7 at hK dq7 ⊢
              subst vq7
              go_wp2
              exact hK _ _ rfl (Mod.refl _ _)
            refine opsOkA_cons ?_ ?_
            · intro K vs W hR hD hK
              have dq4 : vs 4 = .bool false := hD 4 (by decide)
              have dq8 : vs 8 = .bool false := hD 8 (by decide)
              clear hD
              try dsimp only at hK ⊢
              simp only [Act.put, List.setIfInBounds_toArray, List.set_cons_succ, List.set_cons_zero] at hK
              generalize vs 4 = vq4 at hK dq4 ⊢
              subst vq4
              generalize vs 8 = vq8 at hK dq8 ⊢
              subst vq8
              go_wp2
              exact hK _ _ rfl (Mod.refl _ _)
            refine opsOkA_cons ?_ ?_
            · intro K vs W hR hD hK
              have dq9 : vs 9 = .bool false := hD 9 (by decide)
              clear hD
              try dsimp only at hK ⊢
              simp only [Act.put, List.setIfInBounds_toArray, List.set_cons_succ, List.set_cons_zero] at hK
              generalize vs 9 = vq9 at hK dq9 ⊢
              subst vq9
              go_wp2
              exact hK _ _ rfl (Mod.refl _ _)
            refine opsOkA_cons ?_ ?_
            · intro K vs W hR hD hK
              have dq10 : vs 10 = .bool false := hD 10 (by decide)
              clear hD
              try dsimp only at hK ⊢
              simp only [Act.put, List.setIfInBounds_toArray, List.set_cons_succ, List.set_cons_zero] at hK
              generalize vs 10 = vq10 at hK dq10 ⊢
              subst vq10
              go_wp2
              exact hK _ _ rfl (Mod.refl _ _)
            refine opsOkA_cons ?_ ?_
            · intro K vs W hR hD hK
              have dq10 : vs 10 = .bool false := hD 10 (by decide)
              clear hD
              try dsimp only at hK ⊢
              simp only [Act.put, List.setIfInBounds_toArray, List.set_cons_succ, List.set_cons_zero] at hK
              generalize vs 10 = vq10 at hK dq10 ⊢
              subst vq10
              go_wp2
              exact hK _ _ rfl (Mod.refl _ _)
            refine opsOkA_cons ?_ ?_
            · intro K vs W hR hD hK
              have dq10 : vs 10 = .bool false := hD 10 (by decide)
              clear hD
              try dsimp only at hK ⊢
              simp only [Act.put, List.setIfInBounds_toArray, List.set_cons_succ, List.set_cons_zero] at hK
              generalize vs 10 = vq10 at hK dq10 ⊢
              subst vq10
              go_wp2
              exact hK _ _ rfl (Mod.refl _ _)
            refine opsOkA_cons ?_ ?_
            · intro K vs W hR hD hK
              have dq10 : vs 10 = .bool false := hD 10 (by decide)
              have dq11 : vs 11 = .pointer (some ⟨t, 0, none⟩) := hD 11 (by decide)
              have dq12 : vs 12 = .int .i64 ev := hD 12 (by decide)
              have dq13 : vs 13 = .slice ac nc cc := hD 13 (by decide)
              clear hD
              try dsimp only at hK ⊢
              simp only [Act.put, List.setIfInBounds_toArray, List.set_cons_succ, List.set_cons_zero] at hK
              generalize vs 10 = vq10 at hK dq10 ⊢
              subst vq10
              generalize vs 11 = vq11 at hK dq11 ⊢
              subst vq11
              generalize vs 12 = vq12 at hK dq12 ⊢
              subst vq12
              generalize vs 13 = vq13 at hK dq13 ⊢
              subst vq13
              go_wp2_with (go_at_call 19; refine (dfrom_far t p B C G hmay W ((HSd.out.at (hR)).2.2.2.2.1) ev ac nc cc cl HNC.out ((HSd.out.at (hR)).2.1)).mono ?_; rintro e' w' ⟨x', rfl, hx', hm'⟩)
              exact hK _ _ hx' hm'
            refine opsOkA_cons ?_ ?_
            · intro K vs W hR hD hK
              have dq10 : vs 10 = .bool false := hD 10 (by decide)
              clear hD
              try dsimp only at hK ⊢
              simp only [Act.put, List.setIfInBounds_toArray, List.set_cons_succ, List.set_cons_zero] at hK
              generalize vs 10 = vq10 at hK dq10 ⊢
              subst vq10
              have hbx := (HSd.out.at (hR)).2.2.2.1
              have q0 := hbx.cell 0 rfl
              have q1 := hbx.cell 1 rfl
              have q2 := hbx.cell 2 rfl
              go_wp2
              exact hK _ _ rfl (Mod.refl _ _)
            refine opsOkA_cons ?_ ?_
            · intro K vs W hR hD hK
              have dq10 : vs 10 = .bool false := hD 10 (by decide)
              clear hD
              try dsimp only at hK ⊢
              simp only [Act.put, List.setIfInBounds_toArray, List.set_cons_succ, List.set_cons_zero] at hK
              generalize vs 10 = vq10 at hK dq10 ⊢
              subst vq10
              go_wp2
              exact hK _ _ rfl (Mod.refl _ _)
            refine opsOkA_cons ?_ ?_
            · intro K vs W hR hD hK
              have dq10 : vs 10 = .bool false := hD 10 (by decide)
              clear hD
              try dsimp only at hK ⊢
              simp only [Act.put, List.setIfInBounds_toArray, List.set_cons_succ, List.set_cons_zero] at hK
              generalize vs 10 = vq10 at hK dq10 ⊢
              subst vq10
              go_wp2
              exact hK _ _ rfl (Mod.refl _ _)
            refine opsOkA_cons ?_ ?_
            · intro K vs W hR hD hK
              have dq10 : vs 10 = .bool false := hD 10 (by decide)
              have dq15 : vs 15 = .agg #[.slice a1 n1 d1, .slice a2 n2 d2, .slice a3 n3 d3] := hD 15 (by decide)
              have dq16 : vs 16 = .int .i64 ev := hD 16 (by decide)
              have dq17 : vs 17 = .slice ac nc cc := hD 17 (by decide)
              clear hD
              try dsimp only at hK ⊢
              simp only [Act.put, List.setIfInBounds_toArray, List.set_cons_succ, List.set_cons_zero] at hK
              generalize vs 10 = vq10 at hK dq10 ⊢
              subst vq10
              generalize vs 15 = vq15 at hK dq15 ⊢
              subst vq15
              generalize vs 16 = vq16 at hK dq16 ⊢
              subst vq16
              generalize vs 17 = vq17 at hK dq17 ⊢
              subst vq17
              go_wp2_with (go_at_call 20; refine (r4from_far G hmay W a1 n1 d1 a2 n2 d2 a3 n3 d3 ((HSd.out.at (hR)).2.2.2.2.2.1) ev ac nc cc cl HNC.out ((HSd.out.at (hR)).2.1)).mono ?_; rintro e' w' ⟨x', rfl, hx', hm'⟩)
              exact hK _ _ hx' hm'
            refine opsOkA_cons ?_ ?_
            · intro K vs W hR hD hK
              have dq10 : vs 10 = .bool false := hD 10 (by decide)
              have dq14 : (VFar (FFar G hmay ev cl)) (vs 14) W := hD 14 (by decide)
              have dq18 : (VFar (FFar G hmay ev cl)) (vs 18) W := hD 18 (by decide)
              clear hD
              try dsimp only at hK ⊢
              simp only [Act.put, List.setIfInBounds_toArray, List.set_cons_succ, List.set_cons_zero] at hK
              generalize vs 10 = vq10 at hK dq10 ⊢
              subst vq10
              generalize vs 14 = vq14 at hK dq14 ⊢
              generalize vs 18 = vq18 at hK dq18 ⊢
              go_wp2_with (go_at_call 14; refine (ints_far FFar.uniq W _ _ dq14 dq18).mono ?_; rintro e' w' ⟨rfl, hm'⟩)
              exact hK _ _ rfl hm'
            refine opsOkA_cons ?_ ?_
            · intro K vs W hR hD hK
              have dq10 : vs 10 = .bool false := hD 10 (by decide)
              have dq19 : vs 19 = .bool true := hD 19 (by decide)
              clear hD
              try dsimp only at hK ⊢
              simp only [Act.put, List.setIfInBounds_toArray, List.set_cons_succ, List.set_cons_zero] at hK
              generalize vs 10 = vq10 at hK dq10 ⊢
              subst vq10
              generalize vs 19 = vq19 at hK dq19 ⊢
              subst vq19
              go_wp2
              exact hK _ _ rfl (Mod.refl _ _)
            refine opsOkA_cons ?_ ?_
            · intro K vs W hR hD hK
              have dq10 : vs 10 = .bool false := hD 10 (by decide)
              have dq20 : vs 20 = .bool false := hD 20 (by decide)
              clear hD
              try dsimp only at hK ⊢
              simp only [Act.put, List.setIfInBounds_toArray, List.set_cons_succ, List.set_cons_zero] at hK
              generalize vs 10 = vq10 at hK dq10 ⊢
              subst vq10
              generalize vs 20 = vq20 at hK dq20 ⊢
              subst vq20
              go_wp2
              exact hK _ _ rfl (Mod.refl _ _)
            refine opsOkA_cons ?_ ?_
            · intro K vs W hR hD hK
              have dq21 : vs 21 = .bool false := hD 21 (by decide)
              clear hD
              try dsimp only at hK ⊢
              simp only [Act.put, List.setIfInBounds_toArray, List.set_cons_succ, List.set_cons_zero] at hK
              generalize vs 21 = vq21 at hK dq21 ⊢
              subst vq21
              go_wp2
              exact hK _ _ rfl (Mod.refl _ _)
            refine opsOkA_cons ?_ ?_
            · intro K vs W hR hD hK
              have dq22 : vs 22 = .bool false := hD 22 (by decide)
              clear hD
              try dsimp only at hK ⊢
              simp only [Act.put, List.setIfInBounds_toArray, List.set_cons_succ, List.set_cons_zero] at hK
              generalize vs 22 = vq22 at hK dq22 ⊢
              subst vq22
              go_wp2
              exact hK _ _ rfl (Mod.refl _ _)
            refine opsOkA_cons ?_ ?_
            · intro K vs W hR hD hK
              have dq22 : vs 22 = .bool false := hD 22 (by decide)
              clear hD
              try dsimp only at hK ⊢
              simp only [Act.put, List.setIfInBounds_toArray, List.set_cons_succ, List.set_cons_zero] at hK
              generalize vs 22 = vq22 at hK dq22 ⊢
              subst vq22
              go_wp2
              exact hK _ _ rfl (Mod.refl _ _)
            refine opsOkA_cons ?_ ?_
            · intro K vs W hR hD hK
              have dq22 : vs 22 = .bool false := hD 22 (by decide)
              clear hD
              try dsimp only at hK ⊢
              simp only [Act.put, List.setIfInBounds_toArray, List.set_cons_succ, List.set_cons_zero] at hK
              generalize vs 22 = vq22 at hK dq22 ⊢
              subst vq22
              go_wp2
              exact hK _ _ rfl (Mod.refl _ _)
            refine opsOkA_cons ?_ ?_
            · intro K vs W hR hD hK
              have dq22 : vs 22 = .bool false := hD 22 (by decide)
              have dq25 : vs 25 = .pointer (some ⟨bg, 1, none⟩) := hD 25 (by decide)
              clear hD
              try dsimp only at hK ⊢
              simp only [Act.put, List.setIfInBounds_toArray, List.set_cons_succ, List.set_cons_zero] at hK
              generalize vs 22 = vq22 at hK dq22 ⊢
              subst vq22
              generalize vs 25 = vq25 at hK dq25 ⊢
              subst vq25
              have q0 := ((HSd.out.at (hR)).2.2.2.1).cell 1 rfl
              go_wp2
              exact hK _ _ rfl (Mod.refl _ _)
            refine opsOkA_cons ?_ ?_
            · intro K vs W hR hD hK
              have dq22 : vs 22 = .bool false := hD 22 (by decide)
              have dq26 : vs 26 = .slice a2 n2 d2 := hD 26 (by decide)
              clear hD
              try dsimp only at hK ⊢
              simp only [Act.put, List.setIfInBounds_toArray, List.set_cons_succ, List.set_cons_zero] at hK
              generalize vs 22 = vq22 at hK dq22 ⊢
              subst vq22
              generalize vs 26 = vq26 at hK dq26 ⊢
              subst vq26
              go_wp2_with fail
              exact hK _ _ rfl (Mod.refl _ _)
            refine opsOkA_cons ?_ ?_
            · intro K vs W hR hD hK
              have dq22 : vs 22 = .bool false := hD 22 (by decide)
              have dq24 : vs 24 = .int .i64 ev := hD 24 (by decide)
              have dq27 : vs 27 = .int .i64 (n2 : Int) := hD 27 (by decide)
              clear hD
              try dsimp only at hK ⊢
              simp only [Act.put, List.setIfInBounds_toArray, List.set_cons_succ, List.set_cons_zero] at hK
              generalize vs 22 = vq22 at hK dq22 ⊢
              subst vq22
              generalize vs 24 = vq24 at hK dq24 ⊢
              subst vq24
              generalize vs 27 = vq27 at hK dq27 ⊢
              subst vq27
              go_wp2_with (go_at_call 21; refine (round_any ev (n2 : Int) W (by omega) (by omega)).mono ?_; rintro e' w' ⟨rfl, rfl⟩; rw [HRE.out])
              exact hK _ _ rfl (Mod.refl _ _)
            refine opsOkA_cons ?_ ?_
            · intro K vs W hR hD hK
              have dq22 : vs 22 = .bool false := hD 22 (by decide)
              clear hD
              try dsimp only at hK ⊢
              simp only [Act.put, List.setIfInBounds_toArray, List.set_cons_succ, List.set_cons_zero] at hK
              generalize vs 22 = vq22 at hK dq22 ⊢
              subst vq22
              go_wp2
              exact hK _ _ rfl (Mod.refl _ _)
            refine opsOkA_cons ?_ ?_
            · intro K vs W hR hD hK
              have dq22 : vs 22 = .bool false := hD 22 (by decide)
              have dq23 : vs 23 = .pointer (some ⟨t, 0, none⟩) := hD 23 (by decide)
              have dq28 : vs 28 = .int .i64 re := hD 28 (by decide)
              have dq29 : vs 29 = .slice ac nc cc := hD 29 (by decide)
              clear hD
              try dsimp only at hK ⊢
              simp only [Act.put, List.setIfInBounds_toArray, List.set_cons_succ, List.set_cons_zero] at hK
              generalize vs 22 = vq22 at hK dq22 ⊢
              subst vq22
              generalize vs 23 = vq23 at hK dq23 ⊢
              subst vq23
              generalize vs 28 = vq28 at hK dq28 ⊢
              subst vq28
              generalize vs 29 = vq29 at hK dq29 ⊢
              subst vq29
              go_wp2_with (go_at_call 19; refine (dfrom_far t p B C G hmay W ((HSd.out.at (hR)).2.2.2.2.1) re ac nc cc cl HNC.out ((HSd.out.at (hR)).2.1)).mono ?_; rintro e' w' ⟨x', rfl, hx', hm'⟩)
              exact hK _ _ hx' hm'
            refine opsOkA_cons ?_ ?_
            · intro K vs W hR hD hK
              have dq22 : vs 22 = .bool false := hD 22 (by decide)
              clear hD
              try dsimp only at hK ⊢
              simp only [Act.put, List.setIfInBounds_toArray, List.set_cons_succ, List.set_cons_zero] at hK
              generalize vs 22 = vq22 at hK dq22 ⊢
              subst vq22
              have hbx := (HSd.out.at (hR)).2.2.2.1
              have q0 := hbx.cell 0 rfl
              have q1 := hbx.cell 1 rfl
              have q2 := hbx.cell 2 rfl
              go_wp2
              exact hK _ _ rfl (Mod.refl _ _)
            refine opsOkA_cons ?_ ?_
            · intro K vs W hR hD hK
              have dq22 : vs 22 = .bool false := hD 22 (by decide)
              clear hD
              try dsimp only at hK ⊢
              simp only [Act.put, List.setIfInBounds_toArray, List.set_cons_succ, List.set_cons_zero] at hK
              generalize vs 22 = vq22 at hK dq22 ⊢
              subst vq22
              go_wp2
              exact hK _ _ rfl (Mod.refl _ _)
            refine opsOkA_cons ?_ ?_
            · intro K vs W hR hD hK
              have dq22 : vs 22 = .bool false := hD 22 (by decide)
              clear hD
              try dsimp only at hK ⊢
              simp only [Act.put, List.setIfInBounds_toArray, List.set_cons_succ, List.set_cons_zero] at hK
              generalize vs 22 = vq22 at hK dq22 ⊢
              subst vq22
              go_wp2
              exact hK _ _ rfl (Mod.refl _ _)
            refine opsOkA_cons ?_ ?_
            · intro K vs W hR hD hK
              have dq22 : vs 22 = .bool false := hD 22 (by decide)
              have dq33 : vs 33 = .pointer (some ⟨bg, 1, none⟩) := hD 33 (by decide)
              clear hD
              try dsimp only at hK ⊢
              simp only [Act.put, List.setIfInBounds_toArray, List.set_cons_succ, List.set_cons_zero] at hK
              generalize vs 22 = vq22 at hK dq22 ⊢
              subst vq22
              generalize vs 33 = vq33 at hK dq33 ⊢
              subst vq33
              have q0 := ((HSd.out.at (hR)).2.2.2.1).cell 1 rfl
              go_wp2
              exact hK _ _ rfl (Mod.refl _ _)
            refine opsOkA_cons ?_ ?_
            · intro K vs W hR hD hK
              have dq22 : vs 22 = .bool false := hD 22 (by decide)
              have dq34 : vs 34 = .slice a2 n2 d2 := hD 34 (by decide)
              clear hD
              try dsimp only at hK ⊢
              simp only [Act.put, List.setIfInBounds_toArray, List.set_cons_succ, List.set_cons_zero] at hK
              generalize vs 22 = vq22 at hK dq22 ⊢
              subst vq22
              generalize vs 34 = vq34 at hK dq34 ⊢
              subst vq34
              go_wp2_with fail
              exact hK _ _ rfl (Mod.refl _ _)
            refine opsOkA_cons ?_ ?_
            · intro K vs W hR hD hK
              have dq22 : vs 22 = .bool false := hD 22 (by decide)
              have dq32 : vs 32 = .int .i64 ev := hD 32 (by decide)
              have dq35 : vs 35 = .int .i64 (n2 : Int) := hD 35 (by decide)
              clear hD
              try dsimp only at hK ⊢
              simp only [Act.put, List.setIfInBounds_toArray, List.set_cons_succ, List.set_cons_zero] at hK
              generalize vs 22 = vq22 at hK dq22 ⊢
              subst vq22
              generalize vs 32 = vq32 at hK dq32 ⊢
              subst vq32
              generalize vs 35 = vq35 at hK dq35 ⊢
              subst vq35
              go_wp2_with (go_at_call 21; refine (round_any ev (n2 : Int) W (by omega) (by omega)).mono ?_; rintro e' w' ⟨rfl, rfl⟩; rw [HRE.out])
              exact hK _ _ rfl (Mod.refl _ _)
            refine opsOkA_cons ?_ ?_
            · intro K vs W hR hD hK
              have dq22 : vs 22 = .bool false := hD 22 (by decide)
              clear hD
              try dsimp only at hK ⊢
              simp only [Act.put, List.setIfInBounds_toArray, List.set_cons_succ, List.set_cons_zero] at hK
              generalize vs 22 = vq22 at hK dq22 ⊢
              subst vq22
              go_wp2
              exact hK _ _ rfl (Mod.refl _ _)
            refine opsOkA_cons ?_ ?_
            · intro K vs W hR hD hK
              have dq22 : vs 22 = .bool false := hD 22 (by decide)
              have dq31 : vs 31 = .agg #[.slice a1 n1 d1, .slice a2 n2 d2, .slice a3 n3 d3] := hD 31 (by decide)
              have dq36 : vs 36 = .int .i64 re := hD 36 (by decide)
              have dq37 : vs 37 = .slice ac nc cc := hD 37 (by decide)
              clear hD
              try dsimp only at hK ⊢
              simp only [Act.put, List.setIfInBounds_toArray, List.set_cons_succ, List.set_cons_zero] at hK
              generalize vs 22 = vq22 at hK dq22 ⊢
              subst vq22
              generalize vs 31 = vq31 at hK dq31 ⊢
              subst vq31
              generalize vs 36 = vq36 at hK dq36 ⊢
              subst vq36
              generalize vs 37 = vq37 at hK dq37 ⊢
              subst vq37
              go_wp2_with (go_at_call 20; refine (r4from_far G hmay W a1 n1 d1 a2 n2 d2 a3 n3 d3 ((HSd.out.at (hR)).2.2.2.2.2.1) re ac nc cc cl HNC.out ((HSd.out.at (hR)).2.1)).mono ?_; rintro e' w' ⟨x', rfl, hx', hm'⟩)
              exact hK _ _ hx' hm'
            refine opsOkA_cons ?_ ?_
            · intro K vs W hR hD hK
              have dq22 : vs 22 = .bool false := hD 22 (by decide)
              have dq30 : (VFar (FFar G hmay re cl)) (vs 30) W := hD 30 (by decide)
              have dq38 : (VFar (FFar G hmay re cl)) (vs 38) W := hD 38 (by decide)
              clear hD
              try dsimp only at hK ⊢
              simp only [Act.put, List.setIfInBounds_toArray, List.set_cons_succ, List.set_cons_zero] at hK
              generalize vs 22 = vq22 at hK dq22 ⊢
              subst vq22
              generalize vs 30 = vq30 at hK dq30 ⊢
              generalize vs 38 = vq38 at hK dq38 ⊢
              go_wp2_with (go_at_call 14; refine (ints_far FFar.uniq W _ _ dq30 dq38).mono ?_; rintro e' w' ⟨rfl, hm'⟩)
              exact hK _ _ rfl hm'
            refine opsOkA_cons ?_ ?_
            · intro K vs W hR hD hK
              have dq22 : vs 22 = .bool false := hD 22 (by decide)
              have dq39 : vs 39 = .bool true := hD 39 (by decide)
              clear hD
              try dsimp only at hK ⊢
              simp only [Act.put, List.setIfInBounds_toArray, List.set_cons_succ, List.set_cons_zero] at hK
              generalize vs 22 = vq22 at hK dq22 ⊢
              subst vq22
              generalize vs 39 = vq39 at hK dq39 ⊢
              subst vq39
              go_wp2
              exact hK _ _ rfl (Mod.refl _ _)
            refine opsOkA_cons ?_ ?_
            · intro K vs W hR hD hK
              have dq22 : vs 22 = .bool false := hD 22 (by decide)
              have dq40 : vs 40 = .bool false := hD 40 (by decide)
              clear hD
              try dsimp only at hK ⊢
              simp only [Act.put, List.setIfInBounds_toArray, List.set_cons_succ, List.set_cons_zero] at hK
              generalize vs 22 = vq22 at hK dq22 ⊢
              subst vq22
              generalize vs 40 = vq40 at hK dq40 ⊢
              subst vq40
              go_wp2
              exact hK _ _ rfl (Mod.refl _ _)
            exact opsOkA_nil
          · intro vs wq7 hR hF
            have dq41 : vs 41 = .bool false := hF 41 (by decide)
            clear hF
            try dsimp only
            generalize vs 41 = vq41 at dq41 ⊢
            subst dq41
            replace HS := Lib.hid (HSd.out.step hR)
            clear HSd hR
            have hbbg := (HS.out.now).2.2.2.1
            have qbg_0 := hbbg.cell 0 rfl
            have qbg_1 := hbbg.cell 1 rfl
            have qbg_2 := hbbg.cell 2 rfl
            have lbg := hbbg.lt
            clear hbbg
            go_wp2_with fail
            go_roundw
            case rel => exact ⟨1, by omega, by go_num, (HS.out.now).2.2.1⟩
            case measure => simp [intOf]
    · skip
      go_wp2_with fail
      refine (shut_any G (by have := hfew.out.2.1.1; omega) _ a1 n1 d1 a2 n2 d2 a3 n3 d3 ((HS.out.now).2.2.2.1) (by omega) a4 n4 d4 sh HN4.out ((HS.out.now).2.2.2.2.2.1) (by omega)).mono ?_
      rintro e w' ⟨rb, rfl, ho, hmc⟩
      clear qbg_0 qbg_1 qbg_2 lbg
      obtain ⟨wa, hwa⟩ : ∃ x : World, x = w' := ⟨_, rfl⟩
      subst hwa
      replace HS := Lib.hid (HS.out.step hmc)
      obtain ⟨ac, nc, cc, cl, hc0, HNC, hcl⟩ : ∃ ac nc cc cl, Value.slice ac nc cc = .slice (some ⟨rb, 0, none⟩) n2 n2 ∧ Hid (List.length (α := Bool) cl = nc) ∧ Rd wa 1 (.slice ac nc cc) nc (cl.map Value.bool) := ⟨some ⟨rb, 0, none⟩, n2, n2, shutL n2 sh, rfl, Lib.hid (shutL_len n2 sh), Rd.ofOwn ho⟩
      replace HS := Lib.hid ((Ev.rd hcl).and HS.out)
      clear hcl ho hmc
      have hbbg := (HS.out.now).2.2.1
      have qbg_0 := hbbg.cell 0 rfl
      have qbg_1 := hbbg.cell 1 rfl
      have qbg_2 := hbbg.cell 2 rfl
      have lbg := hbbg.lt
      clear hbbg
      simp only [← hc0]
      clear hc0
      have hnc := HNC.out
      clear hnc
      go_wp2_with fail
      clear qbg_0 qbg_1 qbg_2 lbg
      replace HS := Lib.hid ((Ev.mod wa).and HS.out)
      go_loopw [15] (fun i wr => ∃ vv : Int, -1 ≤ vv ∧ vv ≤ (n1 : Int) + 1 ∧ i = .int .i64 vv ∧ Mod (fun _ => False) wa wr) (fun i _ => ((n1 : Int) + 1 - intOf i).toNat)
      case atStart => exact ⟨-1, by omega, by omega, rfl, Mod.refl _ _⟩
      case round =>
        obtain ⟨vv, hv1, hv2, rfl, hmr⟩ := hrel
        obtain ⟨wp, hwp⟩ : ∃ x : World, x = wr := ⟨_, rfl⟩
        subst hwp
        replace HS := Lib.hid (HS.out.step hmr)
        clear hmr
        have hbbg := (HS.out.now).2.2.2.1
        have qbg_0 := hbbg.cell 0 rfl
        have qbg_1 := hbbg.cell 1 rfl
        have qbg_2 := hbbg.cell 2 rfl
        have lbg := hbbg.lt
        clear hbbg
        by_cases hlv : vv ≤ (n1 : Int)
        case pos =>
          have z0 : decide (vv ≤ (n1 : Int)) = true := by simpa using hlv
          go_upto_region 15 with fail
          clear qbg_0 qbg_1 qbg_2 lbg
          have HSd := Lib.hid HS.out.drew
          refine wp_region_inv3 (act := ?actdt_r15_2) (Mod (fun _ => False)) (fun i => (dt_r15_2_F a1 a2 a3 n1 d1 n2 d2 n3 d3 t G hmay ac nc cc cl vv).getD i (fun _ _ => True)) (fun i => dt_r15_2_D.getD i []) (by kernel_rfl) (by kernel_rfl) (by kernel_rfl) (by kernel_rfl) (fun _ => Mod.refl _ _)
            (fun _ _ _ h k => h.trans k (fun _ _ e => e) (fun _ _ e => e)) ?hactdt_r15_2 (stable_list ?_) ?_ ?_
          case hactdt_r15_2 => intro vs; simp only [putAll, Nat.zero_add, Nat.reduceAdd, Act.put, List.setIfInBounds_toArray, List.set_cons_succ, List.set_cons_zero]; exact rfl
          · unfold dt_r15_2_F
            exact stable_cons (stable_val _) <| stable_cons (stable_val _) <| stable_cons (stable_val _) <| stable_cons (VFar.st) <| stable_cons (stable_val _) <| stable_cons (stable_val _) <| stable_cons (stable_val _) <| stable_cons (VFar.st) <| stable_cons (stable_val _) <| stable_cons (stable_val _) <| stable_nil
          · refine opsOkA_cons ?_ ?_
            · intro K vs W hR hD hK
              clear hD
              try dsimp only at hK ⊢
              simp only [Act.put, List.setIfInBounds_toArray, List.set_cons_succ, List.set_cons_zero] at hK
              go_wp2
              exact hK _ _ rfl (Mod.refl _ _)
            refine opsOkA_cons ?_ ?_
            · intro K vs W hR hD hK
              clear hD
              try dsimp only at hK ⊢
              simp only [Act.put, List.setIfInBounds_toArray, List.set_cons_succ, List.set_cons_zero] at hK
              go_wp2
              exact hK _ _ rfl (Mod.refl _ _)
            refine opsOkA_cons ?_ ?_
            · intro K vs W hR hD hK
              clear hD
              try dsimp only at hK ⊢
              simp only [Act.put, List.setIfInBounds_toArray, List.set_cons_succ, List.set_cons_zero] at hK
              go_wp2
              exact hK _ _ rfl (Mod.refl _ _)
            refine opsOkA_cons ?_ ?_
            · intro K vs W hR hD hK
              have dq0 : vs 0 = .pointer (some ⟨t, 0, none⟩) := hD 0 (by decide)
              have dq1 : vs 1 = .int .i64 vv := hD 1 (by decide)
              have dq2 : vs 2 = .slice ac nc cc := hD 2 (by decide)
              clear hD
              try dsimp only at hK ⊢
              simp only [Act.put, List.setIfInBounds_toArray, List.set_cons_succ, List.set_cons_zero] at hK
              generalize vs 0 = vq0 at hK dq0 ⊢
              subst vq0
              generalize vs 1 = vq1 at hK dq1 ⊢
              subst vq1
              generalize vs 2 = vq2 at hK dq2 ⊢
              subst vq2
              go_wp2_with (go_at_call 15; refine (dto_far t p B C G hmay W ((HSd.out.at (hR)).2.2.2.2.1) vv ac nc cc cl HNC.out ((HSd.out.at (hR)).2.1)).mono ?_; rintro e' w' ⟨x', rfl, hx', hm'⟩)
              exact hK _ _ hx' hm'
            refine opsOkA_cons ?_ ?_
            · intro K vs W hR hD hK
              clear hD
              try dsimp only at hK ⊢
              simp only [Act.put, List.setIfInBounds_toArray, List.set_cons_succ, List.set_cons_zero] at hK
              have hbx := (HSd.out.at (hR)).2.2.2.1
              have q0 := hbx.cell 0 rfl
              have q1 := hbx.cell 1 rfl
              have q2 := hbx.cell 2 rfl
              go_wp2
              exact hK _ _ rfl (Mod.refl _ _)
            refine opsOkA_cons ?_ ?_
            · intro K vs W hR hD hK
              clear hD
              try dsimp only at hK ⊢
              simp only [Act.put, List.setIfInBounds_toArray, List.set_cons_succ, List.set_cons_zero] at hK
              go_wp2
              exact hK _ _ rfl (Mod.refl _ _)
            refine opsOkA_cons ?_ ?_
            · intro K vs W hR hD hK
              clear hD
              try dsimp only at hK ⊢
              simp only [Act.put, List.setIfInBounds_toArray, List.set_cons_succ, List.set_cons_zero] at hK
              go_wp2
              exact hK _ _ rfl (Mod.refl _ _)
            refine opsOkA_cons ?_ ?_
            · intro K vs W hR hD hK
              have dq4 : vs 4 = .agg #[.slice a1 n1 d1, .slice a2 n2 d2, .slice a3 n3 d3] := hD 4 (by decide)
              have dq5 : vs 5 = .int .i64 vv := hD 5 (by decide)
              have dq6 : vs 6 = .slice ac nc cc := hD 6 (by decide)
              clear hD
              try dsimp only at hK ⊢
              simp only [Act.put, List.setIfInBounds_toArray, List.set_cons_succ, List.set_cons_zero] at hK
              generalize vs 4 = vq4 at hK dq4 ⊢
              subst vq4
              generalize vs 5 = vq5 at hK dq5 ⊢
              subst vq5
              generalize vs 6 = vq6 at hK dq6 ⊢
              subst vq6
              go_wp2_with (go_at_call 16; refine (r4to_far G hmay W a1 n1 d1 a2 n2 d2 a3 n3 d3 ((HSd.out.at (hR)).2.2.2.2.2.1) vv ac nc cc cl HNC.out ((HSd.out.at (hR)).2.1)).mono ?_; rintro e' w' ⟨x', rfl, hx', hm'⟩)
              exact hK _ _ hx' hm'
            refine opsOkA_cons ?_ ?_
            · intro K vs W hR hD hK
              have dq3 : (VFar (TFar G hmay vv cl)) (vs 3) W := hD 3 (by decide)
              have dq7 : (VFar (TFar G hmay vv cl)) (vs 7) W := hD 7 (by decide)
              clear hD
              try dsimp only at hK ⊢
              simp only [Act.put, List.setIfInBounds_toArray, List.set_cons_succ, List.set_cons_zero] at hK
              generalize vs 3 = vq3 at hK dq3 ⊢
              generalize vs 7 = vq7 at hK dq7 ⊢
              go_wp2_with (go_at_call 14; refine (ints_far TFar.uniq W _ _ dq3 dq7).mono ?_; rintro e' w' ⟨rfl, hm'⟩)
              exact hK _ _ rfl hm'
            refine opsOkA_cons ?_ ?_
            · intro K vs W hR hD hK
              have dq8 : vs 8 = .bool true := hD 8 (by decide)
              clear hD
              try dsimp only at hK ⊢
              simp only [Act.put, List.setIfInBounds_toArray, List.set_cons_succ, List.set_cons_zero] at hK
              generalize vs 8 = vq8 at hK dq8 ⊢
              subst vq8
              go_wp2
              exact hK _ _ rfl (Mod.refl _ _)
            exact opsOkA_nil
          · intro vs wq8 hR hF
            have dq9 : vs 9 = .bool false := hF 9 (by decide)
            clear hF
            try dsimp only
            generalize vs 9 = vq9 at dq9 ⊢
            subst dq9
            replace HS := Lib.hid (HSd.out.step hR)
            clear HSd hR
            have hbbg := (HS.out.now).2.2.2.1
            have qbg_0 := hbbg.cell 0 rfl
            have qbg_1 := hbbg.cell 1 rfl
            have qbg_2 := hbbg.cell 2 rfl
            have lbg := hbbg.lt
            clear hbbg
            go_wp2_with fail
            go_roundw
            case rel => exact ⟨vv + 1, by omega, by omega, by go_num, (HS.out.now).1⟩
            case measure => simp [intOf]; omega
        case neg =>
          have z0 : decide (vv ≤ (n1 : Int)) = false := by simp; omega
          go_wp2_with fail
          refine (dbtw_any t p B C G hmay _ ((HS.out.now).2.2.2.2.1) ev nv ac nc cc cl HNC.out ((HS.out.now).2.1)).mono ?_
          rintro e w' hp
          clear qbg_0 qbg_1 qbg_2 lbg
          obtain ⟨x, hbt, rfl, hmc⟩ := hp
          obtain ⟨wc, hwc⟩ : ∃ x : World, x = w' := ⟨_, rfl⟩
          subst hwc
          replace HS := Lib.hid (HS.out.step hmc)
          clear hmc
          have hbbg := (HS.out.now).2.2.2.1
          have qbg_0 := hbbg.cell 0 rfl
          have qbg_1 := hbbg.cell 1 rfl
          have qbg_2 := hbbg.cell 2 rfl
          have lbg := hbbg.lt
          clear hbbg
          have hlo := hbt.low
          have HBT := Lib.hid hbt
          clear hbt
          obtain ⟨bk, hbk⟩ : ∃ b, decide (0 ≤ x) = b := ⟨_, rfl⟩
          have hbk2 : decide (x ≠ -1) = bk := by rw [← hbk]; exact decide_eq_decide.2 (by omega)
          obtain ⟨xm, hxm⟩ : ∃ y, (if x = -1 then 0 else x) = y := ⟨_, rfl⟩
          rw [hbk2, hxm]
          have hmax : max x 0 = xm := by rw [← hxm]; split <;> omega
          clear hbk2 hxm z0
          go_wp2_with fail
          refine (r4btw_any G hmay _ a1 n1 d1 a2 n2 d2 a3 n3 d3 ((HS.out.now).2.2.2.2.2.1) ev nv ac nc cc cl HNC.out ((HS.out.now).2.1)).mono ?_
          rintro e w' hp
          clear qbg_0 qbg_1 qbg_2 lbg
          obtain ⟨x2, hbt, rfl, hmc⟩ := hp
          obtain rfl := HBT.out.uniq hbt
          obtain ⟨wd, hwd⟩ : ∃ x : World, x = w' := ⟨_, rfl⟩
          subst hwd
          replace HS := Lib.hid (HS.out.step hmc)
          clear hmc hbt
          have hbbg := (HS.out.now).2.2.2.1
          have qbg_0 := hbbg.cell 0 rfl
          have qbg_1 := hbbg.cell 1 rfl
          have qbg_2 := hbbg.cell 2 rfl
          have lbg := hbbg.lt
          clear hbbg
          go_upto_region 19 with fail
          obtain ⟨re, hre⟩ : ∃ y, ev % (n2 : Int) = y := ⟨_, rfl⟩
          have HRE := Lib.hid hre
          clear hre
          go_upto_region 19 with fail
          clear qbg_0 qbg_1 qbg_2 lbg
          have HSd := Lib.hid HS.out.drew
          refine wp_region_inv3 (act := ?actdt_r19_3) (Mod (fun _ => False)) (fun i => (dt_r19_3_F ev a1 a2 a3 n1 d1 n2 d2 n3 d3 t bg G hmay ac nc cc cl x xm bk re).getD i (fun _ _ => True)) (fun i => dt_r19_3_D.getD i []) (by kernel_rfl) (by kernel_rfl) (by kernel_rfl) (by kernel_rfl) (fun _ => Mod.refl _ _)
            (fun _ _ _ h k => h.trans k (fun _ _ e => e) (fun _ _ e => e)) ?hactdt_r19_3 (stable_list ?_) ?_ ?_
          case hactdt_r19_3 => intro vs; simp only [putAll, Nat.zero_add, Nat.reduceAdd, Act.put, List.setIfInBounds_toArray, List.set_cons_succ, List.set_cons_zero]; exact rfl
          · unfold dt_r19_3_F
            exact stable_cons (stable_val _) <| stable_cons (stable_val _) <| stable_cons (stable_val _) <| stable_cons (stable_val _) <| stable_cons (stable_val _) <| stable_cons (stable_val _) <| stable_cons (stable_val _) <| stable_cons (stable_val _) <| stable_cons (stable_val _) <| stable_cons (stable_val _) <| stable_cons (stable_val _) <| stable_cons (stable_val _) <| stable_cons (stable_val _) <| stable_cons (stable_val _) <| stable_cons (VFar.st) <| stable_cons (stable_val _) <| stable_cons (stable_val _) <| stable_cons (stable_val _) <| stable_cons (VFar.st) <| stable_cons (stable_val _) <| stable_cons (stable_val _) <| stable_cons (stable_val _) <| stable_cons (stable_val _) <| stable_cons (stable_val _) <| stable_cons (stable_val _) <| stable_cons (stable_val _) <| stable_cons (stable_val _) <| stable_cons (stable_val _) <| stable_cons (stable_val _) <| stable_cons (stable_val _) <| stable_cons (VFar.st) <| stable_cons (stable_val _) <| stable_cons (stable_val _) <| stable_cons (stable_val _) <| stable_cons (stable_val _) <| stable_cons (stable_val _) <| stable_cons (stable_val _) <| stable_cons (stable_val _) <| stable_cons (VFar.st) <| stable_cons (stable_val _) <| stable_cons (stable_val _) <| stable_cons (stable_val _) <| stable_nil
          · refine opsOkA_cons ?_ ?_
            · intro K vs W hR hD hK
              clear hD
              try dsimp only at hK ⊢
              simp only [Act.put, List.setIfInBounds_toArray, List.set_cons_succ, List.set_cons_zero] at hK
              go_wp2
              exact hK _ _ rfl (Mod.refl _ _)
            refine opsOkA_cons ?_ ?_
            · intro K vs W hR hD hK
              clear hD
              try dsimp only at hK ⊢
              simp only [Act.put, List.setIfInBounds_toArray, List.set_cons_succ, List.set_cons_zero] at hK
              go_wp2
              exact hK _ _ rfl (Mod.refl _ _)
            refine opsOkA_cons ?_ ?_
            · intro K vs W hR hD hK
              have dq1 : vs 1 = .int .i64 x := hD 1 (by decide)
              clear hD
              try dsimp only at hK ⊢
              simp only [Act.put, List.setIfInBounds_toArray, List.set_cons_succ, List.set_cons_zero] at hK
              generalize vs 1 = vq1 at hK dq1 ⊢
              subst vq1
              go_wp2
              exact hK _ _ rfl (Mod.refl _ _)
            refine opsOkA_cons ?_ ?_
            · intro K vs W hR hD hK
              have dq0 : vs 0 = .bool bk := hD 0 (by decide)
              have dq2 : vs 2 = .bool bk := hD 2 (by decide)
              clear hD
              try dsimp only at hK ⊢
              simp only [Act.put, List.setIfInBounds_toArray, List.set_cons_succ, List.set_cons_zero] at hK
              generalize vs 0 = vq0 at hK dq0 ⊢
              subst vq0
              generalize vs 2 = vq2 at hK dq2 ⊢
              subst vq2
              go_wp2
              exact hK _ _ rfl (Mod.refl _ _)
            refine opsOkA_cons ?_ ?_
            · intro K vs W hR hD hK
              have dq3 : vs 3 = .bool false := hD 3 (by decide)
              clear hD
              try dsimp only at hK ⊢
              simp only [Act.put, List.setIfInBounds_toArray, List.set_cons_succ, List.set_cons_zero] at hK
              generalize vs 3 = vq3 at hK dq3 ⊢
              subst vq3
              go_wp2
              exact hK _ _ rfl (Mod.refl _ _)
            refine opsOkA_cons ?_ ?_
            · intro K vs W hR hD hK
              have dq4 : vs 4 = .bool false := hD 4 (by decide)
              clear hD
              try dsimp only at hK ⊢
              simp only [Act.put, List.setIfInBounds_toArray, List.set_cons_succ, List.set_cons_zero] at hK
              generalize vs 4 = vq4 at hK dq4 ⊢
              subst vq4
              go_wp2
              exact hK _ _ rfl (Mod.refl _ _)
            refine opsOkA_cons ?_ ?_
            · intro K vs W hR hD hK
              have dq4 : vs 4 = .bool false := hD 4 (by decide)
              clear hD
              try dsimp only at hK ⊢
              simp only [Act.put, List.setIfInBounds_toArray, List.set_cons_succ, List.set_cons_zero] at hK
              generalize vs 4 = vq4 at hK dq4 ⊢
              subst vq4
              go_wp2
              exact hK _ _ rfl (Mod.refl _ _)
            refine opsOkA_cons ?_ ?_
            · intro K vs W hR hD hK
              have dq4 : vs 4 = .bool false := hD 4 (by decide)
              have dq6 : vs 6 = .int .i64 x := hD 6 (by decide)
              clear hD
              try dsimp only at hK ⊢
              simp only [Act.put, List.setIfInBounds_toArray, List.set_cons_succ, List.set_cons_zero] at hK
              generalize vs 4 = vq4 at hK dq4 ⊢
              subst vq4
              generalize vs 6 = vq6 at hK dq6 ⊢
              subst vq6
              go_wp2
              all_goals first | exact hK _ _ (congrArg (Value.int .i64) (show (0 : Int) = xm by omega)) (Mod.refl _ _) | exact hK _ _ (congrArg (Value.int .i64) (show x = xm by omega)) (Mod.refl _ _)
            refine opsOkA_cons ?_ ?_
            · intro K vs W hR hD hK
              have dq4 : vs 4 = .bool false := hD 4 (by decide)
              have dq5 : vs 5 = .int .i64 xm := hD 5 (by decide)
              have dq7 : vs 7 = .int .i64 xm := hD 7 (by decide)
              clear hD
              try dsimp only at hK ⊢
              simp only [Act.put, List.setIfInBounds_toArray, List.set_cons_succ, List.set_cons_zero] at hK
              generalize vs 4 = vq4 at hK dq4 ⊢
              subst vq4
              generalize vs 5 = vq5 at hK dq5 ⊢
              subst vq5
              generalize vs 7 = vq7 at hK dq7 ⊢
              subst vq7
              go_wp2
              exact hK _ _ rfl (Mod.refl _ _)
            refine opsOkA_cons ?_ ?_
            · intro K vs W hR hD hK
              have dq4 : vs 4 = .bool false := hD 4 (by decide)
              have dq8 : vs 8 = .bool false := hD 8 (by decide)
              clear hD
              try dsimp only at hK ⊢
              simp only [Act.put, List.setIfInBounds_toArray, List.set_cons_succ, List.set_cons_zero] at hK
              generalize vs 4 = vq4 at hK dq4 ⊢
              subst vq4
              generalize vs 8 = vq8 at hK dq8 ⊢
              subst vq8
              go_wp2
              exact hK _ _ rfl (Mod.refl _ _)
            refine opsOkA_cons ?_ ?_
            · intro K vs W hR hD hK
              have dq9 : vs 9 = .bool false := hD 9 (by decide)
              clear hD
              try dsimp only at hK ⊢
              simp only [Act.put, List.setIfInBounds_toArray, List.set_cons_succ, List.set_cons_zero] at hK
              generalize vs 9 = vq9 at hK dq9 ⊢
              subst vq9
              go_wp2
              exact hK _ _ rfl (Mod.refl _ _)
            refine opsOkA_cons ?_ ?_
            · intro K vs W hR hD hK
              have dq10 : vs 10 = .bool false := hD 10 (by decide)
              clear hD
              try dsimp only at hK ⊢
              simp only [Act.put, List.setIfInBounds_toArray, List.set_cons_succ, List.set_cons_zero] at hK
              generalize vs 10 = vq10 at hK dq10 ⊢
              subst vq10
              go_wp2
              exact hK _ _ rfl (Mod.refl _ _)
            refine opsOkA_cons ?_ ?_
            · intro K vs W hR hD hK
              have dq10 : vs 10 = .bool false := hD 10 (by decide)
              clear hD
              try dsimp only at hK ⊢
              simp only [Act.put, List.setIfInBounds_toArray, List.set_cons_succ, List.set_cons_zero] at hK
              generalize vs 10 = vq10 at hK dq10 ⊢
              subst vq10
              go_wp2
              exact hK _ _ rfl (Mod.refl _ _)
            refine opsOkA_cons ?_ ?_
            · intro K vs W hR hD hK
              have dq10 : vs 10 = .bool false := hD 10 (by decide)
              clear hD
              try dsimp only at hK ⊢
              simp only [Act.put, List.setIfInBounds_toArray, List.set_cons_succ, List.set_cons_zero] at hK
              generalize vs 10 = vq10 at hK dq10 ⊢
              subst vq10
              go_wp2
              exact hK _ _ rfl (Mod.refl _ _)
            refine opsOkA_cons ?_ ?_
            · intro K vs W hR hD hK
              have dq10 : vs 10 = .bool false := hD 10 (by decide)
              have dq11 : vs 11 = .pointer (some ⟨t, 0, none⟩) := hD 11 (by decide)
              have dq12 : vs 12 = .int .i64 ev := hD 12 (by decide)
              have dq13 : vs 13 = .slice ac nc cc := hD 13 (by decide)
              clear hD
              try dsimp only at hK ⊢
              simp only [Act.put, List.setIfInBounds_toArray, List.set_cons_succ, List.set_cons_zero] at hK
              generalize vs 10 = vq10 at hK dq10 ⊢
              subst vq10
              generalize vs 11 = vq11 at hK dq11 ⊢
              subst vq11
              generalize vs 12 = vq12 at hK dq12 ⊢
              subst vq12
              generalize vs 13 = vq13 at hK dq13 ⊢
              subst vq13
              go_wp2_with (go_at_call 19; refine (dfrom_far t p B C G hmay W ((HSd.out.at (hR)).2.2.2.2.1) ev ac nc cc cl HNC.out ((HSd.out.at (hR)).2.1)).mono ?_; rintro e' w' ⟨x', rfl, hx', hm'⟩)
              exact hK _ _ hx' hm'
            refine opsOkA_cons ?_ ?_
            · intro K vs W hR hD hK
              have dq10 : vs 10 = .bool false := hD 10 (by decide)
              clear hD
              try dsimp only at hK ⊢
              simp only [Act.put, List.setIfInBounds_toArray, List.set_cons_succ, List.set_cons_zero] at hK
              generalize vs 10 = vq10 at hK dq10 ⊢
              subst vq10
              have hbx := (HSd.out.at (hR)).2.2.2.1
              have q0 := hbx.cell 0 rfl
              have q1 := hbx.cell 1 rfl
              have q2 := hbx.cell 2 rfl
              go_wp2
              exact hK _ _ rfl (Mod.refl _ _)
            refine opsOkA_cons ?_ ?_
            · intro K vs W hR hD hK
              have dq10 : vs 10 = .bool false := hD 10 (by decide)
              clear hD
              try dsimp only at hK ⊢
              simp only [Act.put, List.setIfInBounds_toArray, List.set_cons_succ, List.set_cons_zero] at hK
              generalize vs 10 = vq10 at hK dq10 ⊢
              subst vq10
              go_wp2
              exact hK _ _ rfl (Mod.refl _ _)
            refine opsOkA_cons ?_ ?_
            · intro K vs W hR hD hK
              have dq10 : vs 10 = .bool false := hD 10 (by decide)
              clear hD
              try dsimp only at hK ⊢
              simp only [Act.put, List.setIfInBounds_toArray, List.set_cons_succ, List.set_cons_zero] at hK
              generalize vs 10 = vq10 at hK dq10 ⊢
              subst vq10
              go_wp2
              exact hK _ _ rfl (Mod.refl _ _)
            refine opsOkA_cons ?_ ?_
            · intro K vs W hR hD hK
              have dq10 : vs 10 = .bool false := hD 10 (by decide)
              have dq15 : vs 15 = .agg #[.slice a1 n1 d1, .slice a2 n2 d2, .slice a3 n3 d3] := hD 15 (by decide)
              have dq16 : vs 16 = .int .i64 ev := hD 16 (by decide)
              have dq17 : vs 17 = .slice ac nc cc := hD 17 (by decide)
              clear hD
              try dsimp only at hK ⊢
              simp only [Act.put, List.setIfInBounds_toArray, List.set_cons_succ, List.set_cons_zero] at hK
              generalize vs 10 = vq10 at hK dq10 ⊢
              subst vq10
              generalize vs 15 = vq15 at hK dq15 ⊢
              subst vq15
              generalize vs 16 = vq16 at hK dq16 ⊢
              subst vq16
              generalize vs 17 = vq17 at hK dq17 ⊢
              subst vq17
              go_wp2_with (go_at_call 20; refine (r4from_far G hmay W a1 n1 d1 a2 n2 d2 a3 n3 d3 ((HSd.out.at (hR)).2.2.2.2.2.1) ev ac nc cc cl HNC.out ((HSd.out.at (hR)).2.1)).mono ?_; rintro e' w' ⟨x', rfl, hx', hm'⟩)
              exact hK _ _ hx' hm'
            refine opsOkA_cons ?_ ?_
            · intro K vs W hR hD hK
              have dq10 : vs 10 = .bool false := hD 10 (by decide)
              have dq14 : (VFar (FFar G hmay ev cl)) (vs 14) W := hD 14 (by decide)
              have dq18 : (VFar (FFar G hmay ev cl)) (vs 18) W := hD 18 (by decide)
              clear hD
              try dsimp only at hK ⊢
              simp only [Act.put, List.setIfInBounds_toArray, List.set_cons_succ, List.set_cons_zero] at hK
              generalize vs 10 = vq10 at hK dq10 ⊢
              subst vq10
              generalize vs 14 = vq14 at hK dq14 ⊢
              generalize vs 18 = vq18 at hK dq18 ⊢
              go_wp2_with (go_at_call 14; refine (ints_far FFar.uniq W _ _ dq14 dq18).mono ?_; rintro e' w' ⟨rfl, hm'⟩)
              exact hK _ _ rfl hm'
            refine opsOkA_cons ?_ ?_
            · intro K vs W hR hD hK
              have dq10 : vs 10 = .bool false := hD 10 (by decide)
              have dq19 : vs 19 = .bool true := hD 19 (by decide)
              clear hD
              try dsimp only at hK ⊢
              simp only [Act.put, List.setIfInBounds_toArray, List.set_cons_succ, List.set_cons_zero] at hK
              generalize vs 10 = vq10 at hK dq10 ⊢
              subst vq10
              generalize vs 19 = vq19 at hK dq19 ⊢
              subst vq19
              go_wp2
              exact hK _ _ rfl (Mod.refl _ _)
            refine opsOkA_cons ?_ ?_
            · intro K vs W hR hD hK
              have dq10 : vs 10 = .bool false := hD 10 (by decide)
              have dq20 : vs 20 = .bool false := hD 20 (by decide)
              clear hD
              try dsimp only at hK ⊢
              simp only [Act.put, List.setIfInBounds_toArray, List.set_cons_succ, List.set_cons_zero] at hK
              generalize vs 10 = vq10 at hK dq10 ⊢
              subst vq10
              generalize vs 20 = vq20 at hK dq20 ⊢
              subst vq20
              go_wp2
              exact hK _ _ rfl (Mod.refl _ _)
            refine opsOkA_cons ?_ ?_
            · intro K vs W hR hD hK
              have dq21 : vs 21 = .bool false := hD 21 (by decide)
              clear hD
              try dsimp only at hK ⊢
              simp only [Act.put, List.setIfInBounds_toArray, List.set_cons_succ, List.set_cons_zero] at hK
              generalize vs 21 = vq21 at hK dq21 ⊢
              subst vq21
              go_wp2
              exact hK _ _ rfl (Mod.refl _ _)
            refine opsOkA_cons ?_ ?_
            · intro K vs W hR hD hK
              have dq22 : vs 22 = .bool false := hD 22 (by decide)
              clear hD
              try dsimp only at hK ⊢
              simp only [Act.put, List.setIfInBounds_toArray, List.set_cons_succ, List.set_cons_zero] at hK
              generalize vs 22 = vq22 at hK dq22 ⊢
              subst vq22
              go_wp2
              exact hK _ _ rfl (Mod.refl _ _)
            refine opsOkA_cons ?_ ?_
            · intro K vs W hR hD hK
              have dq22 : vs 22 = .bool false := hD 22 (by decide)
              clear hD
              try dsimp only at hK ⊢
              simp only [Act.put, List.setIfInBounds_toArray, List.set_cons_succ, List.set_cons_zero] at hK
              generalize vs 22 = vq22 at hK dq22 ⊢
              subst vq22
              go_wp2
              exact hK _ _ rfl (Mod.refl _ _)
            refine opsOkA_cons ?_ ?_
            · intro K vs W hR hD hK
              have dq22 : vs 22 = .bool false := hD 22 (by decide)
              clear hD
              try dsimp only at hK ⊢
              simp only [Act.put, List.setIfInBounds_toArray, List.set_cons_succ, List.set_cons_zero] at hK
              generalize vs 22 = vq22 at hK dq22 ⊢
              subst vq22
              go_wp2
              exact hK _ _ rfl (Mod.refl _ _)
            refine opsOkA_cons ?_ ?_
            · intro K vs W hR hD hK
              have dq22 : vs 22 = .bool false := hD 22 (by decide)
              have dq25 : vs 25 = .pointer (some ⟨bg, 1, none⟩) := hD 25 (by decide)
              clear hD
              try dsimp only at hK ⊢
              simp only [Act.put, List.setIfInBounds_toArray, List.set_cons_succ, List.set_cons_zero] at hK
              generalize vs 22 = vq22 at hK dq22 ⊢
              subst vq22
              generalize vs 25 = vq25 at hK dq25 ⊢
              subst vq25
              have q0 := ((HSd.out.at (hR)).2.2.2.1).cell 1 rfl
              go_wp2
              exact hK _ _ rfl (Mod.refl _ _)
            refine opsOkA_cons ?_ ?_
            · intro K vs W hR hD hK
              have dq22 : vs 22 = .bool false := hD 22 (by decide)
              have dq26 : vs 26 = .slice a2 n2 d2 := hD 26 (by decide)
              clear hD
              try dsimp only at hK ⊢
              simp only [Act.put, List.setIfInBounds_toArray, List.set_cons_succ, List.set_cons_zero] at hK
              generalize vs 22 = vq22 at hK dq22 ⊢
              subst vq22
              generalize vs 26 = vq26 at hK dq26 ⊢
              subst vq26
              go_wp2_with fail
              exact hK _ _ rfl (Mod.refl _ _)
            refine opsOkA_cons ?_ ?_
            · intro K vs W hR hD hK
              have dq22 : vs 22 = .bool false := hD 22 (by decide)
              have dq24 : vs 24 = .int .i64 ev := hD 24 (by decide)
              have dq27 : vs 27 = .int .i64 (n2 : Int) := hD 27 (by decide)
              clear hD
              try dsimp only at hK ⊢
              simp only [Act.put, List.setIfInBounds_toArray, List.set_cons_succ, List.set_cons_zero] at hK
              generalize vs 22 = vq22 at hK dq22 ⊢
              subst vq22
              generalize vs 24 = vq24 at hK dq24 ⊢
              subst vq24
              generalize vs 27 = vq27 at hK dq27 ⊢
              subst vq27
              go_wp2_with (go_at_call 21; refine (round_any ev (n2 : Int) W (by omega) (by omega)).mono ?_; rintro e' w' ⟨rfl, rfl⟩; rw [HRE.out])
              exact hK _ _ rfl (Mod.refl _ _)
            refine opsOkA_cons ?_ ?_
            · intro K vs W hR hD hK
              have dq22 : vs 22 = .bool false := hD 22 (by decide)
              clear hD
              try dsimp only at hK ⊢
              simp only [Act.put, List.setIfInBounds_toArray, List.set_cons_succ, List.set_cons_zero] at hK
              generalize vs 22 = vq22 at hK dq22 ⊢
              subst vq22
              go_wp2
              exact hK _ _ rfl (Mod.refl _ _)
            refine opsOkA_cons ?_ ?_
            · intro K vs W hR hD hK
              have dq22 : vs 22 = .bool false := hD 22 (by decide)
              have dq23 : vs 23 = .pointer (some ⟨t, 0, none⟩) := hD 23 (by decide)
              have dq28 : vs 28 = .int .i64 re := hD 28 (by decide)
              have dq29 : vs 29 = .slice ac nc cc := hD 29 (by decide)
              clear hD
              try dsimp only at hK ⊢
              simp only [Act.put, List.setIfInBounds_toArray, List.set_cons_succ, List.set_cons_zero] at hK
              generalize vs 22 = vq22 at hK dq22 ⊢
              subst vq22
              generalize vs 23 = vq23 at hK dq23 ⊢
              subst vq23
              generalize vs 28 = vq28 at hK dq28 ⊢
              subst vq28
              generalize vs 29 = vq29 at hK dq29 ⊢
              subst vq29
              go_wp2_with (go_at_call 19; refine (dfrom_far t p B C G hmay W ((HSd.out.at (hR)).2.2.2.2.1) re ac nc cc cl HNC.out ((HSd.out.at (hR)).2.1)).mono ?_; rintro e' w' ⟨x', rfl, hx', hm'⟩)
              exact hK _ _ hx' hm'
            refine opsOkA_cons ?_ ?_
            · intro K vs W hR hD hK
              have dq22 : vs 22 = .bool false := hD 22 (by decide)
              clear hD
              try dsimp only at hK ⊢
              simp only [Act.put, List.setIfInBounds_toArray, List.set_cons_succ, List.set_cons_zero] at hK
              generalize vs 22 = vq22 at hK dq22 ⊢
              subst vq22
              have hbx := (HSd.out.at (hR)).2.2.2.1
              have q0 := hbx.cell 0 rfl
              have q1 := hbx.cell 1 rfl
              have q2 := hbx.cell 2 rfl
              go_wp2
              exact hK _ _ rfl (Mod.refl _ _)
            refine opsOkA_cons ?_ ?_
            · intro K vs W hR hD hK
              have dq22 : vs 22 = .bool false := hD 22 (by decide)
              clear hD
              try dsimp only at hK ⊢
              simp only [Act.put, List.setIfInBounds_toArray, List.set_cons_succ, List.set_cons_zero] at hK
              generalize vs 22 = vq22 at hK dq22 ⊢
              subst vq22
              go_wp2
              exact hK _ _ rfl (Mod.refl _ _)
            refine opsOkA_cons ?_ ?_
            · intro K vs W hR hD hK
              have dq22 : vs 22 = .bool false := hD 22 (by decide)
              clear hD
              try dsimp only at hK ⊢
              simp only [Act.put, List.setIfInBounds_toArray, List.set_cons_succ, List.set_cons_zero] at hK
              generalize vs 22 = vq22 at hK dq22 ⊢
              subst vq22
              go_wp2
              exact hK _ _ rfl (Mod.refl _ _)
            refine opsOkA_cons ?_ ?_
            · intro K vs W hR hD hK
              have dq22 : vs 22 = .bool false := hD 22 (by decide)
              have dq33 : vs 33 = .pointer (some ⟨bg, 1, none⟩) := hD 33 (by decide)
              clear hD
              try dsimp only at hK ⊢
              simp only [Act.put, List.setIfInBounds_toArray, List.set_cons_succ, List.set_cons_zero] at hK
              generalize vs 22 = vq22 at hK dq22 ⊢
              subst vq22
              generalize vs 33 = vq33 at hK dq33 ⊢
              subst vq33
              have q0 := ((HSd.out.at (hR)).2.2.2.1).cell 1 rfl
              go_wp2
              exact hK _ _ rfl (Mod.refl _ _)
            refine opsOkA_cons ?_ ?_
            · intro K vs W hR hD hK
              have dq22 : vs 22 = .bool false := hD 22 (by decide)
              have dq34 : vs 34 = .slice a2 n2 d2 := hD 34 (by decide)
              clear hD
              try dsimp only at hK ⊢
              simp only [Act.put, List.setIfInBounds_toArray, List.set_cons_succ, List.set_cons_zero] at hK
              generalize vs 22 = vq22 at hK dq22 ⊢
              subst vq22
              generalize vs 34 = vq34 at hK dq34 ⊢
              subst vq34
              go_wp2_with fail
              exact hK _ _ rfl (Mod.refl _ _)
            refine opsOkA_cons ?_ ?_
            · intro K vs W hR hD hK
              have dq22 : vs 22 = .bool false := hD 22 (by decide)
              have dq32 : vs 32 = .int .i64 ev := hD 32 (by decide)
              have dq35 : vs 35 = .int .i64 (n2 : Int) := hD 35 (by decide)
              clear hD
              try dsimp only at hK ⊢
              simp only [Act.put, List.setIfInBounds_toArray, List.set_cons_succ, List.set_cons_zero] at hK
              generalize vs 22 = vq22 at hK dq22 ⊢
              subst vq22
              generalize vs 32 = vq32 at hK dq32 ⊢
              subst vq32
              generalize vs 35 = vq35 at hK dq35 ⊢
              subst vq35
              go_wp2_with (go_at_call 21; refine (round_any ev (n2 : Int) W (by omega) (by omega)).mono ?_; rintro e' w' ⟨rfl, rfl⟩; rw [HRE.out])
              exact hK _ _ rfl (Mod.refl _ _)
            refine opsOkA_cons ?_ ?_
            · intro K vs W hR hD hK
              have dq22 : vs 22 = .bool false := hD 22 (by decide)
              clear hD
              try dsimp only at hK ⊢
              simp only [Act.put, List.setIfInBounds_toArray, List.set_cons_succ, List.set_cons_zero] at hK
              generalize vs 22 = vq22 at hK dq22 ⊢
              subst vq22
              go_wp2
              exact hK _ _ rfl (Mod.refl _ _)
            refine opsOkA_cons ?_ ?_
            · intro K vs W hR hD hK
              have dq22 : vs 22 = .bool false := hD 22 (by decide)
              have dq31 : vs 31 = .agg #[.slice a1 n1 d1, .slice a2 n2 d2, .slice a3 n3 d3] := hD 31 (by decide)
              have dq36 : vs 36 = .int .i64 re := hD 36 (by decide)
              have dq37 : vs 37 = .slice ac nc cc := hD 37 (by decide)
              clear hD
              try dsimp only at hK ⊢
              simp only [Act.put, List.setIfInBounds_toArray, List.set_cons_succ, List.set_cons_zero] at hK
              generalize vs 22 = vq22 at hK dq22 ⊢
              subst vq22
              generalize vs 31 = vq31 at hK dq31 ⊢
              subst vq31
              generalize vs 36 = vq36 at hK dq36 ⊢
              subst vq36
              generalize vs 37 = vq37 at hK dq37 ⊢
              subst vq37
              go_wp2_with (go_at_call 20; refine (r4from_far G hmay W a1 n1 d1 a2 n2 d2 a3 n3 d3 ((HSd.out.at (hR)).2.2.2.2.2.1) re ac nc cc cl HNC.out ((HSd.out.at (hR)).2.1)).mono ?_; rintro e' w' ⟨x', rfl, hx', hm'⟩)
              exact hK _ _ hx' hm'
            refine opsOkA_cons ?_ ?_
            · intro K vs W hR hD hK
              have dq22 : vs 22 = .bool false := hD 22 (by decide)
              have dq30 : (VFar (FFar G hmay re cl)) (vs 30) W := hD 30 (by decide)
              have dq38 : (VFar (FFar G hmay re cl)) (vs 38) W := hD 38 (by decide)
              clear hD
              try dsimp only at hK ⊢
              simp only [Act.put, List.setIfInBounds_toArray, List.set_cons_succ, List.set_cons_zero] at hK
              generalize vs 22 = vq22 at hK dq22 ⊢
              subst vq22
              generalize vs 30 = vq30 at hK dq30 ⊢
              generalize vs 38 = vq38 at hK dq38 ⊢
              go_wp2_with (go_at_call 14; refine (ints_far FFar.uniq W _ _ dq30 dq38).mono ?_; rintro e' w' ⟨rfl, hm'⟩)
              exact hK _ _ rfl hm'
            refine opsOkA_cons ?_ ?_
            · intro K vs W hR hD hK
              have dq22 : vs 22 = .bool false := hD 22 (by decide)
              have dq39 : vs 39 = .bool true := hD 39 (by decide)
              clear hD
              try dsimp only at hK ⊢
              simp only [Act.put, List.setIfInBounds_toArray, List.set_cons_succ, List.set_cons_zero] at hK
              generalize vs 22 = vq22 at hK dq22 ⊢
              subst vq22
              generalize vs 39 = vq39 at hK dq39 ⊢
              subst vq39
              go_wp2
              exact hK _ _ rfl (Mod.refl _ _)
            refine opsOkA_cons ?_ ?_
            · intro K vs W hR hD hK
              have dq22 : vs 22 = .bool false := hD 22 (by decide)
              have dq40 : vs 40 = .bool false := hD 40 (by decide)
              clear hD
              try dsimp only at hK ⊢
              simp only [Act.put, List.setIfInBounds_toArray, List.set_cons_succ, List.set_cons_zero] at hK
              generalize vs 22 = vq22 at hK dq22 ⊢
              subst vq22
              generalize vs 40 = vq40 at hK dq40 ⊢
              subst vq40
              go_wp2
              exact hK _ _ rfl (Mod.refl _ _)
            exact opsOkA_nil
          · intro vs wq9 hR hF
            have dq41 : vs 41 = .bool false := hF 41 (by decide)
            clear hF
            try dsimp only
            generalize vs 41 = vq41 at dq41 ⊢
            subst dq41
            replace HS := Lib.hid (HSd.out.step hR)
            clear HSd hR
            have hbbg := (HS.out.now).2.2.2.1
            have qbg_0 := hbbg.cell 0 rfl
            have qbg_1 := hbbg.cell 1 rfl
            have qbg_2 := hbbg.cell 2 rfl
            have lbg := hbbg.lt
            clear hbbg
            go_wp2_with fail
            go_roundw
            case rel => exact ⟨2, by omega, by go_num, (HS.out.now).2.2.1⟩
            case measure => simp [intOf]
    · skip
      go_wp2_with fail
      refine (awake11_any _).mono ?_
      rintro e wq10 ⟨rfl, hmz⟩
      replace HS := Lib.hid (HS.out.step hmz)
      clear hmz
      clear qbg_0 qbg_1 qbg_2 lbg
      have hbbg := (HS.out.now).2.1
      have qbg_0 := hbbg.cell 0 rfl
      have qbg_1 := hbbg.cell 1 rfl
      have qbg_2 := hbbg.cell 2 rfl
      have lbg := hbbg.lt
      clear hbbg
      go_wp2_with fail
      go_ret
      exact ⟨rfl, (HS.out.now).2.2.2.2.2.2.2⟩
theorem opens_bools : Opens Try.prog 23 (encSlice encBool) := opens_slice Try.underlying23 (by kernel_rfl) (opens_bool Try.underlying4) (by decide)
theorem ok_bools {w : World} {a : Option Addr} {n c : Nat} {bs : List Bool} (ok : (encSlice encBool).ok w (.slice a n c, bs)) : bs.length = n ∧ Rd w 1 (.slice a n c) n (bs.map Value.bool) := by
  obtain ⟨hr, hb⟩ := ok
  have hr : Rd w 1 (.slice a n c) bs.length (bs.flatMap fun x => [Value.bool x]) := hr
  have hn := hr.len_eq
  subst hn
  exact ⟨rfl, by simpa [List.map_eq_flatMap] using hr⟩
theorem dtells_law (w : World) (a0 : Option Addr) (m c0 : Nat) (l : List Int) (ok : (encSlice (encInt .i64)).ok w (.slice a0 m c0, l)) (a4 : Option Addr) (n4 d4 : Nat) (sh : List Int) (ok4 : (encSlice (encInt .i64)).ok w (.slice a4 n4 d4, sh)) (a5 : Option Addr) (n5 d5 : Nat) (rwl : List Bool) (ok5 : (encSlice encBool).ok w (.slice a5 n5 d5, rwl)) (nv : Int) (_ : (Lit.int .i64 nv).wf = true) (ev : Int) (_ : (Lit.int .i64 ev).wf = true) :
    Calls Try.prog 3 #[.slice a0 m c0, .slice a4 n4 d4, .slice a5 n5 d5, .int .i64 nv, .int .i64 ev] w fun e w' => e = .returned (.bool true) ∧ Below w.heap.size w w' := by
  obtain ⟨hn, hr, _⟩ := ok_ints ok
  obtain ⟨hn4, hr4, _⟩ := ok_ints ok4
  obtain ⟨hn5, hr5⟩ := ok_bools ok5
  exact (dtells_all w a0 m c0 l hn hr a4 n4 d4 sh hn4 hr4 a5 n5 d5 rwl hn5 hr5 nv ev).mono fun e w' h => ⟨h.1, h.2.below (Nat.le_refl _) (fun _ e => e.elim)⟩
end Go.Proofs.Ytgiojfihgdifbaa
