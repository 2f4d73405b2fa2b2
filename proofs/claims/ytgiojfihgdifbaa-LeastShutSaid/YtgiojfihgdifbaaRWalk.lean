/- milepostref4's Weight, Walk, End, Cmp by contract. -/
import Derived.Test.YtgiojfihgdifbaaWalkP
import Derived.Test.YtgiojfihgdifbaaRTurn
import Derived.Test.YtgiojfihgdifbaaIRow
import Derived.Test.YtgiojfihgdifbaaRegion2
import Derived.Test.YtgiojfihgdifbaaKReg
import Derived.Deep.DeepCutAuto
import Derived.Deep.CutBlock
namespace Go.Proofs.Ytgiojfihgdifbaa
open Go.RowKit Mile
set_option maxRecDepth 100000
/-- What each operation of the statement leaves. -/
def rww_r5_0_F (a : Option Addr) (n : Nat) (c : Nat) (k : Nat) (x : Int) (a1 : Option Addr) (a2 : Option Addr) (a3 : Option Addr) (n1 : Nat) (d1 : Nat) (n2 : Nat) (d2 : Nat) (n3 : Nat) (d3 : Nat) (eb : Nat) (eo : Nat) : List (Value → World → Prop) :=
  [IsV (.agg #[.slice a1 n1 d1, .slice a2 n2 d2, .slice a3 n3 d3]),
   IsV (.slice a n c),
   IsV (.int .i64 (k : Int)),
   IsV (.pointer (some ⟨eb, eo, none⟩)),
   IsV (.int .i64 x),
   IsV (.bool true),
   IsV (.bool false)]
def rww_r5_0_D : List (List Nat) := [[], [], [], [1, 2], [3], [0, 4], [5]]

/-- What each operation of the statement leaves. -/
def rww_r7_1_F (a : Option Addr) (n : Nat) (c : Nat) (k : Nat) (x : Int) (s0 : Int) (z : Int) (a2 : Option Addr) (n2 : Nat) (d2 : Nat) (bx : Nat) (eb : Nat) (eo : Nat) (gb : Nat) (go : Nat) : List (Bool × (Value → World → Prop)) :=
  [(true, IsV (.int .i64 s0)),
   (true, IsV (.pointer (some ⟨bx, 1, none⟩))),
   (true, IsV (.slice a2 n2 d2)),
   (true, IsV (.slice a n c)),
   (true, IsV (.int .i64 (k : Int))),
   (true, IsV (.pointer (some ⟨eb, eo, none⟩))),
   (true, IsV (.int .i64 x)),
   (true, IsV (.pointer (some ⟨gb, go, none⟩))),
   (true, IsV (.pointer (some ⟨gb, go + 2, none⟩))),
   (true, IsV (.int .i64 z)),
   (true, IsV (.int .i64 (s0 + z)))]
def rww_r7_1_D : List (List Nat) := [[], [], [1], [], [], [3, 4], [5], [2, 6], [7], [8], [0, 9]]
def rww_r7_1_C : List Nat := [1000, 1000, 1000, 1000, 1000, 1000, 1000, 1000, 1000, 1000, 1000]

/-- What each operation of the statement leaves. -/
def rww_r5_2_F (a : Option Addr) (n : Nat) (c : Nat) (k : Nat) (x : Int) (a1 : Option Addr) (a2 : Option Addr) (a3 : Option Addr) (n1 : Nat) (d1 : Nat) (n2 : Nat) (d2 : Nat) (n3 : Nat) (d3 : Nat) (eb : Nat) (eo : Nat) : List (Value → World → Prop) :=
  [IsV (.agg #[.slice a1 n1 d1, .slice a2 n2 d2, .slice a3 n3 d3]),
   IsV (.slice a n c),
   IsV (.int .i64 (k : Int)),
   IsV (.pointer (some ⟨eb, eo, none⟩)),
   IsV (.int .i64 x),
   IsV (.bool false),
   IsV (.bool true)]
def rww_r5_2_D : List (List Nat) := [[], [], [], [1, 2], [3], [0, 4], [5]]

set_option maxHeartbeats 16000000 in
theorem r4weight_any (G : GD) (hmay : May G) (w : World) (a1 : Option Addr) (n1 d1 : Nat) (a2 : Option Addr) (n2 d2 : Nat) (a3 : Option Addr) (n3 d3 : Nat) (h : GV w a1 n1 d1 a2 n2 d2 a3 n3 d3 G) (q2 : n2 ≤ 100000) (q3 : n3 ≤ 100000) (a : Option Addr) (n c : Nat) (xs : List Int) (hn : xs.length = n) (hr : Rd w 1 (.slice a n c) n (xs.map (Value.int .i64))) (hb : n ≤ 100000) :
    Calls Try.prog 30 #[.agg #[.slice a1 n1 d1, .slice a2 n2 d2, .slice a3 n3 d3], .slice a n c] w fun e w' => e = .returned (.tuple #[.int .i64 (wtN G xs), .bool (allE G xs)]) ∧ Mod (fun _ => False) w w' := by
  obtain ⟨iI, hiI, hzI, hsI, hbI⟩ := info_parts GR.infoI
  obtain ⟨iE, hiE, hzE, hsE, hbE⟩ := info_parts GR.infoE
  have HN := Lib.hid hn
  clear hn
  have HMAY := Lib.hid hmay
  have he := Lib.hid h.e
  clear hmay
  have HS : Hid (Ev (Mod (fun _ => False) w) w) := Lib.hid (Ev.mod w)
  replace HS := Lib.hid ((Ev.gv h).and HS.out)
  replace HS := Lib.hid ((Ev.rd hr).and HS.out)
  clear h hr
  go_enter Try.func30, Try.ntmps30
  go_upto_region 1 with fail
  obtain ⟨bx, hbx⟩ : ∃ b, w.heap.size = b := ⟨_, rfl⟩
  obtain ⟨wq1, hwq1⟩ : ∃ W, World.alloc w (.cells #[.slice a1 n1 d1, .slice a2 n2 d2, .slice a3 n3 d3] 29) = W := ⟨_, rfl⟩
  have hBbx : Blk wq1 bx 29 [.slice a1 n1 d1, .slice a2 n2 d2, .slice a3 n3 d3] := by rw [← hwq1, ← hbx]; exact Blk.new _ 29 [.slice a1 n1 d1, .slice a2 n2 d2, .slice a3 n3 d3]
  have hzbx : wq1.heap.size = bx + 1 := by rw [← hwq1, ← hbx]; exact heap_size_alloc _ _
  replace HS := Lib.hid (HS.out.step (w' := wq1) (by rw [← hwq1]; exact Mod.alloc _ _ _))
  replace HS := Lib.hid ((Ev.blk hBbx).and HS.out)
  try rw [hwq1]
  try rw [hbx]
  clear hzbx hBbx hbx hwq1
  have hbbx := (HS.out.now).1
  have qbx_0 := hbbx.cell 0 rfl
  have qbx_1 := hbbx.cell 1 rfl
  have qbx_2 := hbbx.cell 2 rfl
  have lbx := hbbx.lt
  clear hbbx
  go_wp2_with fail
  replace HS := Lib.hid ((Ev.mod wq1).and HS.out)
  go_loopw [6, 7] (fun s i wr => ∃ (k : Nat) (s0 : Int), k ≤ n ∧ i = .int .i64 k ∧ s = .int .i64 s0 ∧ s0 = wS G (xs.take k) ∧ allE G (xs.take k) = true ∧ Mod (fun _ => False) wq1 wr) (fun s i _ => n - (intOf i).toNat)
  case atStart => exact ⟨0, 0, by omega, rfl, rfl, rfl, rfl, Mod.refl _ _⟩
  case round =>
    obtain ⟨k, s0, hk, rfl, rfl, hs, hall, hmr⟩ := hrel
    obtain ⟨wo, hwo⟩ : ∃ x : World, x = wr := ⟨_, rfl⟩
    subst hwo
    replace HS := Lib.hid (HS.out.step hmr)
    clear hmr
    clear qbx_0 qbx_1 qbx_2 lbx
    have hbbx := (HS.out.now).2.1
    have qbx_0 := hbbx.cell 0 rfl
    have qbx_1 := hbbx.cell 1 rfl
    have qbx_2 := hbbx.cell 2 rfl
    have lbx := hbbx.lt
    clear hbbx
    have hsb : 0 ≤ s0 ∧ s0 ≤ 6553500000 := by have h1 := wS_le G HMAY.out (xs.take k) hall; have h2 : (xs.take k).length ≤ k := List.length_take_le _ _; rw [hs]; omega
    have hs1 := hsb.1
    have hs2 := hsb.2
    clear hsb
    have HSUM := Lib.hid hs
    have HALL := Lib.hid hall
    clear hs hall
    by_cases hlt : k < n
    case pos =>
      have hkl : k < xs.length := by rw [HN.out]; exact hlt
      have ht1 := Lib.hid (allE_take G xs k hkl)
      have ht2 := Lib.hid (wS_take G xs k hkl)
      have hno := Lib.hid (allE_no G xs k hkl)
      obtain ⟨x, HX0⟩ : ∃ qz, xs[k] = qz := ⟨_, rfl⟩
      have HX := Lib.hid HX0
      clear HX0
      rw [HX.out] at ht1 ht2 hno
      obtain ⟨eb, eo, hpl, e0⟩ := rd1 (HS.out.now).2.2.1 k hkl
      have hix := fun wx => run_indexS (P := Try.prog) wx 22 3 iI 1 Try.underlying22 hiI hsI a n c k hlt ((HS.out.now).2.2.1.some_ (by have := hlt; omega))
      rw [hpl] at hix
      have HIe := Lib.hid hix
      clear hix hpl
      rw [HX.out] at e0
      replace HS := Lib.hid ((Ev.cell e0).and HS.out)
      clear e0
      have z0 : decide ((k : Int) < (n : Int)) = true := by simp; omega
      by_cases hx : 0 ≤ x ∧ x < (G.E.length : Int)
      case pos =>
        have hz := wt_le G HMAY.out x (decide_eq_true hx)
        obtain ⟨kx, hkx⟩ := Int.eq_ofNat_of_zero_le hx.1
        have hxl : kx < G.E.length := by have := hx.2; omega
        have hxn : kx < n2 := by rw [← he.out]; exact hxl
        have HKX := Lib.hid hkx
        have HZ := Lib.hid hz
        clear hkx hz
        have HXE := Lib.hid hx
        clear hx
        go_upto_region 5 with fail
        clear qbx_0 qbx_1 qbx_2 lbx
        have HSd := Lib.hid HS.out.drew
        refine wp_region_inv3 (act := ?actrww_r5_0) (Mod (fun _ => False)) (fun i => (rww_r5_0_F a n c k x a1 a2 a3 n1 d1 n2 d2 n3 d3 eb eo).getD i (fun _ _ => True)) (fun i => rww_r5_0_D.getD i []) (by kernel_rfl) (by kernel_rfl) (by kernel_rfl) (by kernel_rfl) (fun _ => Mod.refl _ _)
          (fun _ _ _ h k => h.trans k (fun _ _ e => e) (fun _ _ e => e)) ?hactrww_r5_0 (stable_list ?_) ?_ ?_
        case hactrww_r5_0 => intro vs; simp only [putAll, Nat.zero_add, Nat.reduceAdd, Act.put, List.setIfInBounds_toArray, List.set_cons_succ, List.set_cons_zero]; exact rfl
        · unfold rww_r5_0_F
          exact stable_cons (stable_val _) <| stable_cons (stable_val _) <| stable_cons (stable_val _) <| stable_cons (stable_val _) <| stable_cons (stable_val _) <| stable_cons (stable_val _) <| stable_cons (stable_val _) <| stable_nil
        · refine opsOkA_cons ?_ ?_
          · intro K vs W hR hD hK
            clear hD
            try dsimp only at hK ⊢
            simp only [Act.put, List.setIfInBounds_toArray, List.set_cons_succ, List.set_cons_zero] at hK
            have hbx := (HSd.out.at (hR)).2.2.1
            have q0 := hbx.cell 0 rfl
            have q1 := hbx.cell 1 rfl
            have q2 := hbx.cell 2 rfl
            go_wp2
            exact hK _ _ rfl (Mod.refl _ _)
          refine opsOkA_cons ?_ ?_
          · intro K vs W hR hD hK
            clear hD
            try dsimp only at hK ⊢
            simp only [Act.put, List.setIfInBounds_toArray, List.set_cons_succ, List.set_cons_zero] at hK
            go_wp2
            exact hK _ _ rfl (Mod.refl _ _)
          refine opsOkA_cons ?_ ?_
          · intro K vs W hR hD hK
            clear hD
            try dsimp only at hK ⊢
            simp only [Act.put, List.setIfInBounds_toArray, List.set_cons_succ, List.set_cons_zero] at hK
            go_wp2
            exact hK _ _ rfl (Mod.refl _ _)
          refine opsOkA_cons ?_ ?_
          · intro K vs W hR hD hK
            have dq1 : vs 1 = .slice a n c := hD 1 (by decide)
            have dq2 : vs 2 = .int .i64 (k : Int) := hD 2 (by decide)
            clear hD
            try dsimp only at hK ⊢
            simp only [Act.put, List.setIfInBounds_toArray, List.set_cons_succ, List.set_cons_zero] at hK
            generalize vs 1 = vq1 at hK dq1 ⊢
            subst vq1
            generalize vs 2 = vq2 at hK dq2 ⊢
            subst vq2
            have hix := HIe.out
            go_wp2_with fail
            exact hK _ _ rfl (Mod.refl _ _)
          refine opsOkA_cons ?_ ?_
          · intro K vs W hR hD hK
            have dq3 : vs 3 = .pointer (some ⟨eb, eo, none⟩) := hD 3 (by decide)
            clear hD
            try dsimp only at hK ⊢
            simp only [Act.put, List.setIfInBounds_toArray, List.set_cons_succ, List.set_cons_zero] at hK
            generalize vs 3 = vq3 at hK dq3 ⊢
            subst vq3
            have c0 := (HSd.out.at (hR)).1
            go_wp2
            exact hK _ _ rfl (Mod.refl _ _)
          refine opsOkA_cons ?_ ?_
          · intro K vs W hR hD hK
            have dq0 : vs 0 = .agg #[.slice a1 n1 d1, .slice a2 n2 d2, .slice a3 n3 d3] := hD 0 (by decide)
            have dq4 : vs 4 = .int .i64 x := hD 4 (by decide)
            clear hD
            try dsimp only at hK ⊢
            simp only [Act.put, List.setIfInBounds_toArray, List.set_cons_succ, List.set_cons_zero] at hK
            generalize vs 0 = vq0 at hK dq0 ⊢
            subst vq0
            generalize vs 4 = vq4 at hK dq4 ⊢
            subst vq4
            go_wp2_with (go_at_call 31; refine (r4edge_any G W a1 n1 d1 a2 n2 d2 a3 n3 d3 ((HSd.out.at (hR)).2.2.2.2.1) (by omega) x).mono ?_; rintro e' w' ⟨rfl, hm'⟩; rw [decide_eq_true HXE.out])
            exact hK _ _ rfl hm'
          refine opsOkA_cons ?_ ?_
          · intro K vs W hR hD hK
            have dq5 : vs 5 = .bool true := hD 5 (by decide)
            clear hD
            try dsimp only at hK ⊢
            simp only [Act.put, List.setIfInBounds_toArray, List.set_cons_succ, List.set_cons_zero] at hK
            generalize vs 5 = vq5 at hK dq5 ⊢
            subst vq5
            go_wp2
            exact hK _ _ rfl (Mod.refl _ _)
          exact opsOkA_nil
        · intro vs wq2 hR hF
          have dq6 : vs 6 = .bool false := hF 6 (by decide)
          clear hF
          try dsimp only
          generalize vs 6 = vq6 at dq6 ⊢
          subst dq6
          replace HS := Lib.hid (HSd.out.step hR)
          clear HSd hR
          have hbbx := (HS.out.now).2.2.1
          have qbx_0 := hbbx.cell 0 rfl
          have qbx_1 := hbbx.cell 1 rfl
          have qbx_2 := hbbx.cell 2 rfl
          have lbx := hbbx.lt
          clear hbbx
          have hz := HZ.out
          have hze : (eAt G x).2.2 = (G.E[kx]).2.2 := by rw [HKX.out, eAt_eq G kx hxl]
          rw [hze] at ht2 hz
          clear hze
          obtain ⟨x0, Hx00⟩ : ∃ qz, (G.E[kx]).1 = qz := ⟨_, rfl⟩
          have Hx0 := Lib.hid Hx00
          clear Hx00
          obtain ⟨y0, Hy00⟩ : ∃ qz, (G.E[kx]).2.1 = qz := ⟨_, rfl⟩
          have Hy0 := Lib.hid Hy00
          clear Hy00
          obtain ⟨z, Hz0⟩ : ∃ qz, (G.E[kx]).2.2 = qz := ⟨_, rfl⟩
          have Hz := Lib.hid Hz0
          clear Hz0
          obtain ⟨gb, go, hpl, e0, e1, e2⟩ := rd3 (HS.out.now).2.2.2.2.1.re kx hxl
          have hix := fun wx => run_indexS (P := Try.prog) wx 26 43 iE 3 Try.underlying26 hiE hsE a2 n2 d2 kx hxn ((HS.out.now).2.2.2.2.1.re.some_ (by have := hxn; omega))
          rw [hpl] at hix
          have HIg := Lib.hid hix
          clear hix hpl
          rw [Hx0.out] at e0
          replace HS := Lib.hid ((Ev.cell e0).and HS.out)
          clear e0
          rw [Hy0.out] at e1
          replace HS := Lib.hid ((Ev.cell e1).and HS.out)
          clear e1
          rw [Hz.out] at e2
          replace HS := Lib.hid ((Ev.cell e2).and HS.out)
          clear e2
          rw [Hz.out] at hz ht2
          have hz1 := hz.1
          have hz2 := hz.2
          clear hz
          go_upto_region 7 with fail
          clear qbx_0 qbx_1 qbx_2 lbx
          have HSd := Lib.hid HS.out.drew
          have HST : ∀ (ix : Nat) (vx : Value) (wx wy : World), factOf (rww_r7_1_F a n c k x s0 z a2 n2 d2 bx eb eo gb go) ix vx wx → Mod (fun _ => False) wx wy → factOf (rww_r7_1_F a n c k x s0 z a2 n2 d2 bx eb eo gb go) ix vx wy := by
            refine fact_stays ?_
            intro f hf
            simp only [rww_r7_1_F, List.mem_cons, List.not_mem_nil, or_false] at hf
            rcases hf with rfl | rfl | rfl | rfl | rfl | rfl | rfl | rfl | rfl | rfl | rfl <;> first | exact stable_val _ | exact stable_new
          have HSO : ∀ px ∈ (rww_r7_1_F a n c k x s0 z a2 n2 d2 bx eb eo gb go), px.1 = true → ∀ (vx : Value) (wx wy : World), px.2 vx wx → px.2 vx wy := by
            intro f hf
            simp only [rww_r7_1_F, List.mem_cons, List.not_mem_nil, or_false] at hf
            rcases hf with rfl | rfl | rfl | rfl | rfl | rfl | rfl | rfl | rfl | rfl | rfl <;> first | exact fun _ _ _ _ h => h | (intro h; cases h)
          refine wp_region_mut (Mod (fun _ => False)) (factOf (rww_r7_1_F a n c k x s0 z a2 n2 d2 bx eb eo gb go)) (fun i => rww_r7_1_C.getD i 1000) (Mod (fun _ => False) (World.drew wq2)) 10 (fun i => rww_r7_1_D.getD i []) 11 _ rfl rfl (by kernel_rfl) (by kernel_rfl) (by kernel_rfl) (by kernel_rfl) (by kernel_rfl) (fun _ => Mod.refl _ _)
            (fun _ _ _ h k => h.trans k (fun _ _ e => e) (fun _ _ e => e)) (Mod.refl _ _) ?_ ?_
          · refine opsOkM_cons ?_ ?_
            · intro K vs W hR hD hI hL hK
              clear hD
              have dqL : vs 11 = .int .i64 s0 := hL
              clear hL
              replace hI := hI (.inr (by kernel_rfl))
              simp only [putAll, Nat.zero_add, Nat.reduceAdd, Act.put, List.setIfInBounds_toArray, List.set_cons_succ, List.set_cons_zero] at hK ⊢
              generalize vs 11 = vqL at hK dqL ⊢
              subst vqL
              go_wp2
              exact hK _ _ rfl (fun _ _ _ h => h) (fun _ _ h => h) (Mod.refl _ _)
            refine opsOkM_cons ?_ ?_
            · intro K vs W hR hD hI hL hK
              clear hD
              clear hL
              replace hI := hI (.inr (by kernel_rfl))
              simp only [putAll, Nat.zero_add, Nat.reduceAdd, Act.put, List.setIfInBounds_toArray, List.set_cons_succ, List.set_cons_zero] at hK ⊢
              go_wp2
              exact hK _ _ rfl (fun _ _ _ h => h) (fun _ _ h => h) (Mod.refl _ _)
            refine opsOkM_cons ?_ ?_
            · intro K vs W hR hD hI hL hK
              have dq1 : vs 1 = .pointer (some ⟨bx, 1, none⟩) := hD 1 (by decide)
              clear hD
              clear hL
              replace hI := hI (.inr (by kernel_rfl))
              simp only [putAll, Nat.zero_add, Nat.reduceAdd, Act.put, List.setIfInBounds_toArray, List.set_cons_succ, List.set_cons_zero] at hK ⊢
              generalize vs 1 = vq1 at hK dq1 ⊢
              subst vq1
              have q0 := ((HSd.out.at (hI)).2.2.2.2.2.1).cell 1 rfl
              go_wp2
              exact hK _ _ rfl (fun _ _ _ h => h) (fun _ _ h => h) (Mod.refl _ _)
            refine opsOkM_cons ?_ ?_
            · intro K vs W hR hD hI hL hK
              clear hD
              clear hL
              replace hI := hI (.inr (by kernel_rfl))
              simp only [putAll, Nat.zero_add, Nat.reduceAdd, Act.put, List.setIfInBounds_toArray, List.set_cons_succ, List.set_cons_zero] at hK ⊢
              go_wp2
              exact hK _ _ rfl (fun _ _ _ h => h) (fun _ _ h => h) (Mod.refl _ _)
            refine opsOkM_cons ?_ ?_
            · intro K vs W hR hD hI hL hK
              clear hD
              clear hL
              replace hI := hI (.inr (by kernel_rfl))
              simp only [putAll, Nat.zero_add, Nat.reduceAdd, Act.put, List.setIfInBounds_toArray, List.set_cons_succ, List.set_cons_zero] at hK ⊢
              go_wp2
              exact hK _ _ rfl (fun _ _ _ h => h) (fun _ _ h => h) (Mod.refl _ _)
            refine opsOkM_cons ?_ ?_
            · intro K vs W hR hD hI hL hK
              have dq3 : vs 3 = .slice a n c := hD 3 (by decide)
              have dq4 : vs 4 = .int .i64 (k : Int) := hD 4 (by decide)
              clear hD
              clear hL
              replace hI := hI (.inr (by kernel_rfl))
              simp only [putAll, Nat.zero_add, Nat.reduceAdd, Act.put, List.setIfInBounds_toArray, List.set_cons_succ, List.set_cons_zero] at hK ⊢
              generalize vs 3 = vq3 at hK dq3 ⊢
              subst vq3
              generalize vs 4 = vq4 at hK dq4 ⊢
              subst vq4
              have hix := HIe.out
              go_wp2_with fail
              exact hK _ _ rfl (fun _ _ _ h => h) (fun _ _ h => h) (Mod.refl _ _)
            refine opsOkM_cons ?_ ?_
            · intro K vs W hR hD hI hL hK
              have dq5 : vs 5 = .pointer (some ⟨eb, eo, none⟩) := hD 5 (by decide)
              clear hD
              clear hL
              replace hI := hI (.inr (by kernel_rfl))
              simp only [putAll, Nat.zero_add, Nat.reduceAdd, Act.put, List.setIfInBounds_toArray, List.set_cons_succ, List.set_cons_zero] at hK ⊢
              generalize vs 5 = vq5 at hK dq5 ⊢
              subst vq5
              have c0 := (HSd.out.at (hI)).2.2.2.1
              go_wp2
              exact hK _ _ rfl (fun _ _ _ h => h) (fun _ _ h => h) (Mod.refl _ _)
            refine opsOkM_cons ?_ ?_
            · intro K vs W hR hD hI hL hK
              have dq2 : vs 2 = .slice a2 n2 d2 := hD 2 (by decide)
              have dq6 : vs 6 = .int .i64 x := hD 6 (by decide)
              clear hD
              clear hL
              replace hI := hI (.inr (by kernel_rfl))
              simp only [putAll, Nat.zero_add, Nat.reduceAdd, Act.put, List.setIfInBounds_toArray, List.set_cons_succ, List.set_cons_zero] at hK ⊢
              generalize vs 2 = vq2 at hK dq2 ⊢
              subst vq2
              generalize vs 6 = vq6 at hK dq6 ⊢
              subst vq6
              have hix := HIg.out
              rw [← HKX.out] at hix
              go_wp2_with fail
              exact hK _ _ rfl (fun _ _ _ h => h) (fun _ _ h => h) (Mod.refl _ _)
            refine opsOkM_cons ?_ ?_
            · intro K vs W hR hD hI hL hK
              have dq7 : vs 7 = .pointer (some ⟨gb, go, none⟩) := hD 7 (by decide)
              clear hD
              clear hL
              replace hI := hI (.inr (by kernel_rfl))
              simp only [putAll, Nat.zero_add, Nat.reduceAdd, Act.put, List.setIfInBounds_toArray, List.set_cons_succ, List.set_cons_zero] at hK ⊢
              generalize vs 7 = vq7 at hK dq7 ⊢
              subst vq7
              go_wp2
              exact hK _ _ rfl (fun _ _ _ h => h) (fun _ _ h => h) (Mod.refl _ _)
            refine opsOkM_cons ?_ ?_
            · intro K vs W hR hD hI hL hK
              have dq8 : vs 8 = .pointer (some ⟨gb, go + 2, none⟩) := hD 8 (by decide)
              clear hD
              clear hL
              replace hI := hI (.inr (by kernel_rfl))
              simp only [putAll, Nat.zero_add, Nat.reduceAdd, Act.put, List.setIfInBounds_toArray, List.set_cons_succ, List.set_cons_zero] at hK ⊢
              generalize vs 8 = vq8 at hK dq8 ⊢
              subst vq8
              have c2 := (HSd.out.at (hI)).1
              go_wp2
              exact hK _ _ rfl (fun _ _ _ h => h) (fun _ _ h => h) (Mod.refl _ _)
            refine opsOkM_cons ?_ ?_
            · intro K vs W hR hD hI hL hK
              have dq0 : vs 0 = .int .i64 s0 := hD 0 (by decide)
              have dq9 : vs 9 = .int .i64 z := hD 9 (by decide)
              clear hD
              clear hL
              replace hI := hI (.inl rfl)
              simp only [putAll, Nat.zero_add, Nat.reduceAdd, Act.put, List.setIfInBounds_toArray, List.set_cons_succ, List.set_cons_zero] at hK ⊢
              generalize vs 0 = vq0 at hK dq0 ⊢
              subst vq0
              generalize vs 9 = vq9 at hK dq9 ⊢
              subst vq9
              go_wp2
              exact hK _ _ rfl (fun _ _ _ h => h) (fun h _ => absurd rfl h) (Mod.refl _ _)
            exact opsOkM_nil
          · intro vs wq3 hR hF
            have dq10 : vs 10 = .int .i64 (s0 + z) := hF 10 (by decide) (by decide)
            clear hF
            simp only [putAll, Nat.zero_add, Nat.reduceAdd, Act.put, List.setIfInBounds_toArray, List.set_cons_succ, List.set_cons_zero]
            generalize vs 10 = vq10 at dq10 ⊢
            subst vq10
            replace HS := Lib.hid (HSd.out.step hR)
            clear HSd hR
            have hbbx := (HS.out.now).2.2.2.2.2.1
            have qbx_0 := hbbx.cell 0 rfl
            have qbx_1 := hbbx.cell 1 rfl
            have qbx_2 := hbbx.cell 2 rfl
            have lbx := hbbx.lt
            clear hbbx
            go_wp2_with fail
            go_roundw
            case rel => exact ⟨k + 1, s0 + z, hlt, by go_num, by go_num, by rw [ht2.out, ← HSUM.out], by rw [ht1.out, HALL.out]; exact decide_eq_true HXE.out, (HS.out.now).2.2.2.2.1⟩
            case measure => simp [intOf]; omega
      case neg =>
        have HXE := Lib.hid hx
        clear hx
        go_upto_region 5 with fail
        clear qbx_0 qbx_1 qbx_2 lbx
        have HSd := Lib.hid HS.out.drew
        refine wp_region_inv3 (act := ?actrww_r5_2) (Mod (fun _ => False)) (fun i => (rww_r5_2_F a n c k x a1 a2 a3 n1 d1 n2 d2 n3 d3 eb eo).getD i (fun _ _ => True)) (fun i => rww_r5_2_D.getD i []) (by kernel_rfl) (by kernel_rfl) (by kernel_rfl) (by kernel_rfl) (fun _ => Mod.refl _ _)
          (fun _ _ _ h k => h.trans k (fun _ _ e => e) (fun _ _ e => e)) ?hactrww_r5_2 (stable_list ?_) ?_ ?_
        case hactrww_r5_2 => intro vs; simp only [putAll, Nat.zero_add, Nat.reduceAdd, Act.put, List.setIfInBounds_toArray, List.set_cons_succ, List.set_cons_zero]; exact rfl
        · unfold rww_r5_2_F
          exact stable_cons (stable_val _) <| stable_cons (stable_val _) <| stable_cons (stable_val _) <| stable_cons (stable_val _) <| stable_cons (stable_val _) <| stable_cons (stable_val _) <| stable_cons (stable_val _) <| stable_nil
        · refine opsOkA_cons ?_ ?_
          · intro K vs W hR hD hK
            clear hD
            try dsimp only at hK ⊢
            simp only [Act.put, List.setIfInBounds_toArray, List.set_cons_succ, List.set_cons_zero] at hK
            have hbx := (HSd.out.at (hR)).2.2.1
            have q0 := hbx.cell 0 rfl
            have q1 := hbx.cell 1 rfl
            have q2 := hbx.cell 2 rfl
            go_wp2
            exact hK _ _ rfl (Mod.refl _ _)
          refine opsOkA_cons ?_ ?_
          · intro K vs W hR hD hK
            clear hD
            try dsimp only at hK ⊢
            simp only [Act.put, List.setIfInBounds_toArray, List.set_cons_succ, List.set_cons_zero] at hK
            go_wp2
            exact hK _ _ rfl (Mod.refl _ _)
          refine opsOkA_cons ?_ ?_
          · intro K vs W hR hD hK
            clear hD
            try dsimp only at hK ⊢
            simp only [Act.put, List.setIfInBounds_toArray, List.set_cons_succ, List.set_cons_zero] at hK
            go_wp2
            exact hK _ _ rfl (Mod.refl _ _)
          refine opsOkA_cons ?_ ?_
          · intro K vs W hR hD hK
            have dq1 : vs 1 = .slice a n c := hD 1 (by decide)
            have dq2 : vs 2 = .int .i64 (k : Int) := hD 2 (by decide)
            clear hD
            try dsimp only at hK ⊢
            simp only [Act.put, List.setIfInBounds_toArray, List.set_cons_succ, List.set_cons_zero] at hK
            generalize vs 1 = vq1 at hK dq1 ⊢
            subst vq1
            generalize vs 2 = vq2 at hK dq2 ⊢
            subst vq2
            have hix := HIe.out
            go_wp2_with fail
            exact hK _ _ rfl (Mod.refl _ _)
          refine opsOkA_cons ?_ ?_
          · intro K vs W hR hD hK
            have dq3 : vs 3 = .pointer (some ⟨eb, eo, none⟩) := hD 3 (by decide)
            clear hD
            try dsimp only at hK ⊢
            simp only [Act.put, List.setIfInBounds_toArray, List.set_cons_succ, List.set_cons_zero] at hK
            generalize vs 3 = vq3 at hK dq3 ⊢
            subst vq3
            have c0 := (HSd.out.at (hR)).1
            go_wp2
            exact hK _ _ rfl (Mod.refl _ _)
          refine opsOkA_cons ?_ ?_
          · intro K vs W hR hD hK
            have dq0 : vs 0 = .agg #[.slice a1 n1 d1, .slice a2 n2 d2, .slice a3 n3 d3] := hD 0 (by decide)
            have dq4 : vs 4 = .int .i64 x := hD 4 (by decide)
            clear hD
            try dsimp only at hK ⊢
            simp only [Act.put, List.setIfInBounds_toArray, List.set_cons_succ, List.set_cons_zero] at hK
            generalize vs 0 = vq0 at hK dq0 ⊢
            subst vq0
            generalize vs 4 = vq4 at hK dq4 ⊢
            subst vq4
            go_wp2_with (go_at_call 31; refine (r4edge_any G W a1 n1 d1 a2 n2 d2 a3 n3 d3 ((HSd.out.at (hR)).2.2.2.2.1) (by omega) x).mono ?_; rintro e' w' ⟨rfl, hm'⟩; rw [decide_eq_false HXE.out])
            exact hK _ _ rfl hm'
          refine opsOkA_cons ?_ ?_
          · intro K vs W hR hD hK
            have dq5 : vs 5 = .bool false := hD 5 (by decide)
            clear hD
            try dsimp only at hK ⊢
            simp only [Act.put, List.setIfInBounds_toArray, List.set_cons_succ, List.set_cons_zero] at hK
            generalize vs 5 = vq5 at hK dq5 ⊢
            subst vq5
            go_wp2
            exact hK _ _ rfl (Mod.refl _ _)
          exact opsOkA_nil
        · intro vs wq4 hR hF
          have dq6 : vs 6 = .bool true := hF 6 (by decide)
          clear hF
          try dsimp only
          generalize vs 6 = vq6 at dq6 ⊢
          subst dq6
          replace HS := Lib.hid (HSd.out.step hR)
          clear HSd hR
          have hbbx := (HS.out.now).2.2.1
          have qbx_0 := hbbx.cell 0 rfl
          have qbx_1 := hbbx.cell 1 rfl
          have qbx_2 := hbbx.cell 2 rfl
          have lbx := hbbx.lt
          clear hbbx
          have HF := Lib.hid (hno.out (decide_eq_false HXE.out))
          go_wp2_with fail
          go_ret2
          refine ⟨?_, (HS.out.now).2.2.2.2.2⟩
          unfold wtN
          rw [HF.out]; rfl
    case neg =>
      obtain rfl : k = n := by omega
      have z0 : decide ((k : Int) < (k : Int)) = false := by simp
      go_wp2_with fail
      go_ret2
      refine ⟨?_, (HS.out.now).2.2.2.2⟩
      have ht : xs.take k = xs := List.take_of_length_le (by rw [HN.out]; exact Nat.le_refl _)
      have h1 := HALL.out
      rw [ht] at h1
      unfold wtN
      rw [h1, HSUM.out, ht]; rfl
/-- What each operation of the statement leaves. -/
def rwk_r6_0_F (a : Option Addr) (n : Nat) (c : Nat) (k : Nat) (x : Int) (f0 : Int) (a1 : Option Addr) (a2 : Option Addr) (a3 : Option Addr) (n1 : Nat) (d1 : Nat) (n2 : Nat) (d2 : Nat) (n3 : Nat) (d3 : Nat) (eb : Nat) (eo : Nat) : List (Value → World → Prop) :=
  [IsV (.agg #[.slice a1 n1 d1, .slice a2 n2 d2, .slice a3 n3 d3]),
   IsV (.int .i64 f0),
   IsV (.slice a n c),
   IsV (.int .i64 (k : Int)),
   IsV (.pointer (some ⟨eb, eo, none⟩)),
   IsV (.int .i64 x),
   IsV (.bool true),
   IsV (.bool false)]
def rwk_r6_0_D : List (List Nat) := [[], [], [], [], [2, 3], [4], [0, 1, 5], [6]]

/-- What each operation of the statement leaves. -/
def rwk_r6_1_F (a : Option Addr) (n : Nat) (c : Nat) (k : Nat) (x : Int) (f0 : Int) (a1 : Option Addr) (a2 : Option Addr) (a3 : Option Addr) (n1 : Nat) (d1 : Nat) (n2 : Nat) (d2 : Nat) (n3 : Nat) (d3 : Nat) (eb : Nat) (eo : Nat) : List (Value → World → Prop) :=
  [IsV (.agg #[.slice a1 n1 d1, .slice a2 n2 d2, .slice a3 n3 d3]),
   IsV (.int .i64 f0),
   IsV (.slice a n c),
   IsV (.int .i64 (k : Int)),
   IsV (.pointer (some ⟨eb, eo, none⟩)),
   IsV (.int .i64 x),
   IsV (.bool false),
   IsV (.bool true)]
def rwk_r6_1_D : List (List Nat) := [[], [], [], [], [2, 3], [4], [0, 1, 5], [6]]

set_option maxHeartbeats 16000000 in
theorem r4walk_any (G : GD) (w : World) (a1 : Option Addr) (n1 d1 : Nat) (a2 : Option Addr) (n2 d2 : Nat) (a3 : Option Addr) (n3 d3 : Nat) (h : GV w a1 n1 d1 a2 n2 d2 a3 n3 d3 G) (q2 : n2 ≤ 100000) (q3 : n3 ≤ 100000) (f : Int) (a : Option Addr) (n c : Nat) (xs : List Int) (hn : xs.length = n) (hr : Rd w 1 (.slice a n c) n (xs.map (Value.int .i64))) (hb : n ≤ 100000) :
    Calls Try.prog 53 #[.agg #[.slice a1 n1 d1, .slice a2 n2 d2, .slice a3 n3 d3], .int .i64 f, .slice a n c] w fun e w' => e = .returned (.bool (validB G f xs)) ∧ Mod (fun _ => False) w w' := by
  obtain ⟨iI, hiI, hzI, hsI, hbI⟩ := info_parts GR.infoI
  obtain ⟨iE, hiE, hzE, hsE, hbE⟩ := info_parts GR.infoE
  have HN := Lib.hid hn
  clear hn
  have he := Lib.hid h.e
  have HS : Hid (Ev (Mod (fun _ => False) w) w) := Lib.hid (Ev.mod w)
  replace HS := Lib.hid ((Ev.gv h).and HS.out)
  replace HS := Lib.hid ((Ev.rd hr).and HS.out)
  clear h hr
  go_enter Try.func53, Try.ntmps53
  go_upto_region 1 with fail
  obtain ⟨bx, hbx⟩ : ∃ b, w.heap.size = b := ⟨_, rfl⟩
  obtain ⟨wq1, hwq1⟩ : ∃ W, World.alloc w (.cells #[.slice a1 n1 d1, .slice a2 n2 d2, .slice a3 n3 d3] 29) = W := ⟨_, rfl⟩
  have hBbx : Blk wq1 bx 29 [.slice a1 n1 d1, .slice a2 n2 d2, .slice a3 n3 d3] := by rw [← hwq1, ← hbx]; exact Blk.new _ 29 [.slice a1 n1 d1, .slice a2 n2 d2, .slice a3 n3 d3]
  have hzbx : wq1.heap.size = bx + 1 := by rw [← hwq1, ← hbx]; exact heap_size_alloc _ _
  replace HS := Lib.hid (HS.out.step (w' := wq1) (by rw [← hwq1]; exact Mod.alloc _ _ _))
  replace HS := Lib.hid ((Ev.blk hBbx).and HS.out)
  try rw [hwq1]
  try rw [hbx]
  clear hzbx hBbx hbx hwq1
  have hbbx := (HS.out.now).1
  have qbx_0 := hbbx.cell 0 rfl
  have qbx_1 := hbbx.cell 1 rfl
  have qbx_2 := hbbx.cell 2 rfl
  have lbx := hbbx.lt
  clear hbbx
  by_cases hf : 0 ≤ f ∧ f < (G.E.length : Int)
  case pos =>
    have HFE := Lib.hid hf
    clear hf
    go_wp2_with fail
    refine (r4edge_any G _ a1 n1 d1 a2 n2 d2 a3 n3 d3 ((HS.out.now).2.2.1) (by omega) f).mono ?_
    rintro e wq2 ⟨rfl, hmm⟩
    replace HS := Lib.hid (HS.out.step hmm)
    clear hmm
    clear qbx_0 qbx_1 qbx_2 lbx
    have hbbx := (HS.out.now).1
    have qbx_0 := hbbx.cell 0 rfl
    have qbx_1 := hbbx.cell 1 rfl
    have qbx_2 := hbbx.cell 2 rfl
    have lbx := hbbx.lt
    clear hbbx
    rw [decide_eq_true HFE.out]
    go_wp2_with fail
    replace HS := Lib.hid ((Ev.mod wq2).and HS.out)
    go_loopw [1, 7] (fun s i wr => ∃ (k : Nat) (f0 : Int), k ≤ n ∧ i = .int .i64 k ∧ s = .int .i64 f0 ∧ f0 = lastD f (xs.take k) ∧ wlk G f (xs.take k) = true ∧ Mod (fun _ => False) wq2 wr) (fun s i _ => n - (intOf i).toNat)
    case atStart => exact ⟨0, f, by omega, rfl, rfl, rfl, rfl, Mod.refl _ _⟩
    case round =>
      obtain ⟨k, f0, hk, rfl, rfl, hs, hall, hmr⟩ := hrel
      obtain ⟨wo, hwo⟩ : ∃ x : World, x = wr := ⟨_, rfl⟩
      subst hwo
      replace HS := Lib.hid (HS.out.step hmr)
      clear hmr
      clear qbx_0 qbx_1 qbx_2 lbx
      have hbbx := (HS.out.now).2.1
      have qbx_0 := hbbx.cell 0 rfl
      have qbx_1 := hbbx.cell 1 rfl
      have qbx_2 := hbbx.cell 2 rfl
      have lbx := hbbx.lt
      clear hbbx
      have HSUM := Lib.hid hs
      have HALL := Lib.hid hall
      clear hs hall
      by_cases hlt : k < n
      case pos =>
        have hkl : k < xs.length := by rw [HN.out]; exact hlt
        have ht1 := Lib.hid (wlk_take G f xs k hkl)
        have ht2 := Lib.hid (lastD_take f xs k hkl)
        have hno := Lib.hid (wlk_no G f xs k hkl)
        obtain ⟨x, HX0⟩ : ∃ qz, xs[k] = qz := ⟨_, rfl⟩
        have HX := Lib.hid HX0
        clear HX0
        rw [HX.out] at ht1 ht2
        obtain ⟨eb, eo, hpl, e0⟩ := rd1 (HS.out.now).2.2.1 k hkl
        have hix := fun wx => run_indexS (P := Try.prog) wx 22 3 iI 1 Try.underlying22 hiI hsI a n c k hlt ((HS.out.now).2.2.1.some_ (by have := hlt; omega))
        rw [hpl] at hix
        have HIe := Lib.hid hix
        clear hix hpl
        rw [HX.out] at e0
        replace HS := Lib.hid ((Ev.cell e0).and HS.out)
        clear e0
        have z0 : decide ((k : Int) < (n : Int)) = true := by simp; omega
        obtain ⟨b, HB0⟩ : ∃ qz, turnB G f0 x = qz := ⟨_, rfl⟩
        have HB := Lib.hid HB0
        clear HB0
        cases b with
        | true =>
          go_upto_region 6 with fail
          clear qbx_0 qbx_1 qbx_2 lbx
          have HSd := Lib.hid HS.out.drew
          refine wp_region_inv3 (act := ?actrwk_r6_0) (Mod (fun _ => False)) (fun i => (rwk_r6_0_F a n c k x f0 a1 a2 a3 n1 d1 n2 d2 n3 d3 eb eo).getD i (fun _ _ => True)) (fun i => rwk_r6_0_D.getD i []) (by kernel_rfl) (by kernel_rfl) (by kernel_rfl) (by kernel_rfl) (fun _ => Mod.refl _ _)
            (fun _ _ _ h k => h.trans k (fun _ _ e => e) (fun _ _ e => e)) ?hactrwk_r6_0 (stable_list ?_) ?_ ?_
          case hactrwk_r6_0 => intro vs; simp only [putAll, Nat.zero_add, Nat.reduceAdd, Act.put, List.setIfInBounds_toArray, List.set_cons_succ, List.set_cons_zero]; exact rfl
          · unfold rwk_r6_0_F
            exact stable_cons (stable_val _) <| stable_cons (stable_val _) <| stable_cons (stable_val _) <| stable_cons (stable_val _) <| stable_cons (stable_val _) <| stable_cons (stable_val _) <| stable_cons (stable_val _) <| stable_cons (stable_val _) <| stable_nil
          · refine opsOkA_cons ?_ ?_
            · intro K vs W hR hD hK
              clear hD
              try dsimp only at hK ⊢
              simp only [Act.put, List.setIfInBounds_toArray, List.set_cons_succ, List.set_cons_zero] at hK
              have hbx := (HSd.out.at (hR)).2.2.1
              have q0 := hbx.cell 0 rfl
              have q1 := hbx.cell 1 rfl
              have q2 := hbx.cell 2 rfl
              go_wp2
              exact hK _ _ rfl (Mod.refl _ _)
            refine opsOkA_cons ?_ ?_
            · intro K vs W hR hD hK
              clear hD
              try dsimp only at hK ⊢
              simp only [Act.put, List.setIfInBounds_toArray, List.set_cons_succ, List.set_cons_zero] at hK
              go_wp2
              exact hK _ _ rfl (Mod.refl _ _)
            refine opsOkA_cons ?_ ?_
            · intro K vs W hR hD hK
              clear hD
              try dsimp only at hK ⊢
              simp only [Act.put, List.setIfInBounds_toArray, List.set_cons_succ, List.set_cons_zero] at hK
              go_wp2
              exact hK _ _ rfl (Mod.refl _ _)
            refine opsOkA_cons ?_ ?_
            · intro K vs W hR hD hK
              clear hD
              try dsimp only at hK ⊢
              simp only [Act.put, List.setIfInBounds_toArray, List.set_cons_succ, List.set_cons_zero] at hK
              go_wp2
              exact hK _ _ rfl (Mod.refl _ _)
            refine opsOkA_cons ?_ ?_
            · intro K vs W hR hD hK
              have dq2 : vs 2 = .slice a n c := hD 2 (by decide)
              have dq3 : vs 3 = .int .i64 (k : Int) := hD 3 (by decide)
              clear hD
              try dsimp only at hK ⊢
              simp only [Act.put, List.setIfInBounds_toArray, List.set_cons_succ, List.set_cons_zero] at hK
              generalize vs 2 = vq2 at hK dq2 ⊢
              subst vq2
              generalize vs 3 = vq3 at hK dq3 ⊢
              subst vq3
              have hix := HIe.out
              go_wp2_with fail
              exact hK _ _ rfl (Mod.refl _ _)
            refine opsOkA_cons ?_ ?_
            · intro K vs W hR hD hK
              have dq4 : vs 4 = .pointer (some ⟨eb, eo, none⟩) := hD 4 (by decide)
              clear hD
              try dsimp only at hK ⊢
              simp only [Act.put, List.setIfInBounds_toArray, List.set_cons_succ, List.set_cons_zero] at hK
              generalize vs 4 = vq4 at hK dq4 ⊢
              subst vq4
              have c0 := (HSd.out.at (hR)).1
              go_wp2
              exact hK _ _ rfl (Mod.refl _ _)
            refine opsOkA_cons ?_ ?_
            · intro K vs W hR hD hK
              have dq0 : vs 0 = .agg #[.slice a1 n1 d1, .slice a2 n2 d2, .slice a3 n3 d3] := hD 0 (by decide)
              have dq1 : vs 1 = .int .i64 f0 := hD 1 (by decide)
              have dq5 : vs 5 = .int .i64 x := hD 5 (by decide)
              clear hD
              try dsimp only at hK ⊢
              simp only [Act.put, List.setIfInBounds_toArray, List.set_cons_succ, List.set_cons_zero] at hK
              generalize vs 0 = vq0 at hK dq0 ⊢
              subst vq0
              generalize vs 1 = vq1 at hK dq1 ⊢
              subst vq1
              generalize vs 5 = vq5 at hK dq5 ⊢
              subst vq5
              go_wp2_with (go_at_call 50; refine (r4turn_any G W a1 n1 d1 a2 n2 d2 a3 n3 d3 ((HSd.out.at (hR)).2.2.2.2.1) (by omega) (by omega) f0 x).mono ?_; rintro e' w' ⟨rfl, hm'⟩; rw [HB.out])
              exact hK _ _ rfl hm'
            refine opsOkA_cons ?_ ?_
            · intro K vs W hR hD hK
              have dq6 : vs 6 = .bool true := hD 6 (by decide)
              clear hD
              try dsimp only at hK ⊢
              simp only [Act.put, List.setIfInBounds_toArray, List.set_cons_succ, List.set_cons_zero] at hK
              generalize vs 6 = vq6 at hK dq6 ⊢
              subst vq6
              go_wp2
              exact hK _ _ rfl (Mod.refl _ _)
            exact opsOkA_nil
          · intro vs wq3 hR hF
            have dq7 : vs 7 = .bool false := hF 7 (by decide)
            clear hF
            try dsimp only
            generalize vs 7 = vq7 at dq7 ⊢
            subst dq7
            replace HS := Lib.hid (HSd.out.step hR)
            clear HSd hR
            have hbbx := (HS.out.now).2.2.1
            have qbx_0 := hbbx.cell 0 rfl
            have qbx_1 := hbbx.cell 1 rfl
            have qbx_2 := hbbx.cell 2 rfl
            have lbx := hbbx.lt
            clear hbbx
            have qe := (HS.out.now).1
            have hix := HIe.out
            go_wp2_with fail
            go_roundw
            case rel => exact ⟨k + 1, x, hlt, by go_num, rfl, ht2.out.symm, by rw [ht1.out, HALL.out, ← HSUM.out]; exact HB.out, (HS.out.now).2.1⟩
            case measure => simp [intOf]; omega
        | false =>
          go_upto_region 6 with fail
          clear qbx_0 qbx_1 qbx_2 lbx
          have HSd := Lib.hid HS.out.drew
          refine wp_region_inv3 (act := ?actrwk_r6_1) (Mod (fun _ => False)) (fun i => (rwk_r6_1_F a n c k x f0 a1 a2 a3 n1 d1 n2 d2 n3 d3 eb eo).getD i (fun _ _ => True)) (fun i => rwk_r6_1_D.getD i []) (by kernel_rfl) (by kernel_rfl) (by kernel_rfl) (by kernel_rfl) (fun _ => Mod.refl _ _)
            (fun _ _ _ h k => h.trans k (fun _ _ e => e) (fun _ _ e => e)) ?hactrwk_r6_1 (stable_list ?_) ?_ ?_
          case hactrwk_r6_1 => intro vs; simp only [putAll, Nat.zero_add, Nat.reduceAdd, Act.put, List.setIfInBounds_toArray, List.set_cons_succ, List.set_cons_zero]; exact rfl
          · unfold rwk_r6_1_F
            exact stable_cons (stable_val _) <| stable_cons (stable_val _) <| stable_cons (stable_val _) <| stable_cons (stable_val _) <| stable_cons (stable_val _) <| stable_cons (stable_val _) <| stable_cons (stable_val _) <| stable_cons (stable_val _) <| stable_nil
          · refine opsOkA_cons ?_ ?_
            · intro K vs W hR hD hK
              clear hD
              try dsimp only at hK ⊢
              simp only [Act.put, List.setIfInBounds_toArray, List.set_cons_succ, List.set_cons_zero] at hK
              have hbx := (HSd.out.at (hR)).2.2.1
              have q0 := hbx.cell 0 rfl
              have q1 := hbx.cell 1 rfl
              have q2 := hbx.cell 2 rfl
              go_wp2
              exact hK _ _ rfl (Mod.refl _ _)
            refine opsOkA_cons ?_ ?_
            · intro K vs W hR hD hK
              clear hD
              try dsimp only at hK ⊢
              simp only [Act.put, List.setIfInBounds_toArray, List.set_cons_succ, List.set_cons_zero] at hK
              go_wp2
              exact hK _ _ rfl (Mod.refl _ _)
            refine opsOkA_cons ?_ ?_
            · intro K vs W hR hD hK
              clear hD
              try dsimp only at hK ⊢
              simp only [Act.put, List.setIfInBounds_toArray, List.set_cons_succ, List.set_cons_zero] at hK
              go_wp2
              exact hK _ _ rfl (Mod.refl _ _)
            refine opsOkA_cons ?_ ?_
            · intro K vs W hR hD hK
              clear hD
              try dsimp only at hK ⊢
              simp only [Act.put, List.setIfInBounds_toArray, List.set_cons_succ, List.set_cons_zero] at hK
              go_wp2
              exact hK _ _ rfl (Mod.refl _ _)
            refine opsOkA_cons ?_ ?_
            · intro K vs W hR hD hK
              have dq2 : vs 2 = .slice a n c := hD 2 (by decide)
              have dq3 : vs 3 = .int .i64 (k : Int) := hD 3 (by decide)
              clear hD
              try dsimp only at hK ⊢
              simp only [Act.put, List.setIfInBounds_toArray, List.set_cons_succ, List.set_cons_zero] at hK
              generalize vs 2 = vq2 at hK dq2 ⊢
              subst vq2
              generalize vs 3 = vq3 at hK dq3 ⊢
              subst vq3
              have hix := HIe.out
              go_wp2_with fail
              exact hK _ _ rfl (Mod.refl _ _)
            refine opsOkA_cons ?_ ?_
            · intro K vs W hR hD hK
              have dq4 : vs 4 = .pointer (some ⟨eb, eo, none⟩) := hD 4 (by decide)
              clear hD
              try dsimp only at hK ⊢
              simp only [Act.put, List.setIfInBounds_toArray, List.set_cons_succ, List.set_cons_zero] at hK
              generalize vs 4 = vq4 at hK dq4 ⊢
              subst vq4
              have c0 := (HSd.out.at (hR)).1
              go_wp2
              exact hK _ _ rfl (Mod.refl _ _)
            refine opsOkA_cons ?_ ?_
            · intro K vs W hR hD hK
              have dq0 : vs 0 = .agg #[.slice a1 n1 d1, .slice a2 n2 d2, .slice a3 n3 d3] := hD 0 (by decide)
              have dq1 : vs 1 = .int .i64 f0 := hD 1 (by decide)
              have dq5 : vs 5 = .int .i64 x := hD 5 (by decide)
              clear hD
              try dsimp only at hK ⊢
              simp only [Act.put, List.setIfInBounds_toArray, List.set_cons_succ, List.set_cons_zero] at hK
              generalize vs 0 = vq0 at hK dq0 ⊢
              subst vq0
              generalize vs 1 = vq1 at hK dq1 ⊢
              subst vq1
              generalize vs 5 = vq5 at hK dq5 ⊢
              subst vq5
              go_wp2_with (go_at_call 50; refine (r4turn_any G W a1 n1 d1 a2 n2 d2 a3 n3 d3 ((HSd.out.at (hR)).2.2.2.2.1) (by omega) (by omega) f0 x).mono ?_; rintro e' w' ⟨rfl, hm'⟩; rw [HB.out])
              exact hK _ _ rfl hm'
            refine opsOkA_cons ?_ ?_
            · intro K vs W hR hD hK
              have dq6 : vs 6 = .bool false := hD 6 (by decide)
              clear hD
              try dsimp only at hK ⊢
              simp only [Act.put, List.setIfInBounds_toArray, List.set_cons_succ, List.set_cons_zero] at hK
              generalize vs 6 = vq6 at hK dq6 ⊢
              subst vq6
              go_wp2
              exact hK _ _ rfl (Mod.refl _ _)
            exact opsOkA_nil
          · intro vs wq4 hR hF
            have dq7 : vs 7 = .bool true := hF 7 (by decide)
            clear hF
            try dsimp only
            generalize vs 7 = vq7 at dq7 ⊢
            subst dq7
            replace HS := Lib.hid (HSd.out.step hR)
            clear HSd hR
            have hbbx := (HS.out.now).2.2.1
            have qbx_0 := hbbx.cell 0 rfl
            have qbx_1 := hbbx.cell 1 rfl
            have qbx_2 := hbbx.cell 2 rfl
            have lbx := hbbx.lt
            clear hbbx
            have hf := hno.out (by rw [ht1.out, HALL.out, ← HSUM.out]; exact HB.out)
            have HF := Lib.hid hf
            clear hf
            go_wp2_with fail
            go_ret
            refine ⟨?_, (HS.out.now).2.2.2.2.2⟩
            unfold validB
            rw [HF.out, Bool.and_false]; rfl
      case neg =>
        obtain rfl : k = n := by omega
        have z0 : decide ((k : Int) < (k : Int)) = false := by simp
        have ht : xs.take k = xs := List.take_of_length_le (by rw [HN.out]; exact Nat.le_refl _)
        have h1 := HALL.out
        rw [ht] at h1
        have HW := Lib.hid h1
        clear ht h1
        go_wp2_with fail
        go_ret
        refine ⟨?_, (HS.out.now).2.2.2.2⟩
        unfold validB edB
        rw [decide_eq_true HFE.out, HW.out]; rfl
  case neg =>
    have HFE := Lib.hid hf
    clear hf
    go_wp2_with fail
    refine (r4edge_any G _ a1 n1 d1 a2 n2 d2 a3 n3 d3 ((HS.out.now).2.2.1) (by omega) f).mono ?_
    rintro e wq5 ⟨rfl, hmm⟩
    replace HS := Lib.hid (HS.out.step hmm)
    clear hmm
    clear qbx_0 qbx_1 qbx_2 lbx
    have hbbx := (HS.out.now).1
    have qbx_0 := hbbx.cell 0 rfl
    have qbx_1 := hbbx.cell 1 rfl
    have qbx_2 := hbbx.cell 2 rfl
    have lbx := hbbx.lt
    clear hbbx
    rw [decide_eq_false HFE.out]
    go_wp2_with fail
    go_ret
    refine ⟨?_, (HS.out.now).2.2.2⟩
    unfold validB edB
    rw [decide_eq_false HFE.out]; rfl

set_option maxHeartbeats 16000000 in
theorem r4end_any (G : GD) (w : World) (a1 : Option Addr) (n1 d1 : Nat) (a2 : Option Addr) (n2 d2 : Nat) (a3 : Option Addr) (n3 d3 : Nat) (h : GV w a1 n1 d1 a2 n2 d2 a3 n3 d3 G) (q2 : n2 ≤ 100000) (q3 : n3 ≤ 100000) (f : Int) (a : Option Addr) (n c : Nat) (xs : List Int) (hn : xs.length = n) (hr : Rd w 1 (.slice a n c) n (xs.map (Value.int .i64))) (hb : n ≤ 100000) :
    Calls Try.prog 29 #[.agg #[.slice a1 n1 d1, .slice a2 n2 d2, .slice a3 n3 d3], .int .i64 f, .slice a n c] w fun e w' => e = .returned (.tuple #[.int .i64 (endN G f xs), .bool (validB G f xs)]) ∧ Mod (fun _ => False) w w' := by
  obtain ⟨iI, hiI, hzI, hsI, hbI⟩ := info_parts GR.infoI
  obtain ⟨iE, hiE, hzE, hsE, hbE⟩ := info_parts GR.infoE
  have HN := Lib.hid hn
  clear hn
  have he := Lib.hid h.e
  have HS : Hid (Ev (Mod (fun _ => False) w) w) := Lib.hid (Ev.mod w)
  replace HS := Lib.hid ((Ev.gv h).and HS.out)
  replace HS := Lib.hid ((Ev.rd hr).and HS.out)
  clear h hr
  go_enter Try.func29, Try.ntmps29
  go_upto_region 1 with fail
  obtain ⟨bx, hbx⟩ : ∃ b, w.heap.size = b := ⟨_, rfl⟩
  obtain ⟨wq1, hwq1⟩ : ∃ W, World.alloc w (.cells #[.slice a1 n1 d1, .slice a2 n2 d2, .slice a3 n3 d3] 29) = W := ⟨_, rfl⟩
  have hBbx : Blk wq1 bx 29 [.slice a1 n1 d1, .slice a2 n2 d2, .slice a3 n3 d3] := by rw [← hwq1, ← hbx]; exact Blk.new _ 29 [.slice a1 n1 d1, .slice a2 n2 d2, .slice a3 n3 d3]
  have hzbx : wq1.heap.size = bx + 1 := by rw [← hwq1, ← hbx]; exact heap_size_alloc _ _
  replace HS := Lib.hid (HS.out.step (w' := wq1) (by rw [← hwq1]; exact Mod.alloc _ _ _))
  replace HS := Lib.hid ((Ev.blk hBbx).and HS.out)
  try rw [hwq1]
  try rw [hbx]
  clear hzbx hBbx hbx hwq1
  have hbbx := (HS.out.now).1
  have qbx_0 := hbbx.cell 0 rfl
  have qbx_1 := hbbx.cell 1 rfl
  have qbx_2 := hbbx.cell 2 rfl
  have lbx := hbbx.lt
  clear hbbx
  go_wp2_with fail
  refine (r4walk_any G _ a1 n1 d1 a2 n2 d2 a3 n3 d3 ((HS.out.now).2.2.1) q2 q3 f a n c xs HN.out ((HS.out.now).2.1) hb).mono ?_
  rintro e wq2 ⟨rfl, hmm⟩
  replace HS := Lib.hid (HS.out.step hmm)
  clear hmm
  clear qbx_0 qbx_1 qbx_2 lbx
  have hbbx := (HS.out.now).1
  have qbx_0 := hbbx.cell 0 rfl
  have qbx_1 := hbbx.cell 1 rfl
  have qbx_2 := hbbx.cell 2 rfl
  have lbx := hbbx.lt
  clear hbbx
  obtain ⟨b, HV0⟩ : ∃ qz, validB G f xs = qz := ⟨_, rfl⟩
  have HV := Lib.hid HV0
  clear HV0
  rw [HV.out]
  cases b with
  | false =>
    go_wp2_with fail
    go_ret2
    refine ⟨?_, (HS.out.now).2.2.2⟩
    unfold endN
    rw [HV.out]; rfl
  | true =>
    have hvl : edB G (lastD f xs) = true := by have h1 := HV.out; unfold validB at h1; rw [Bool.and_eq_true] at h1; rw [valid_last G f xs h1.2]; exact h1.1
    have hx := of_decide_eq_true hvl
    obtain ⟨kx, hkx⟩ := Int.eq_ofNat_of_zero_le hx.1
    have hxl : kx < G.E.length := by have := hx.2; omega
    have hxn : kx < n2 := by rw [← he.out]; exact hxl
    clear hx hvl
    have hye : endN G f xs = (G.E[kx]).2.1 := by unfold endN; rw [HV.out, if_pos rfl, hkx, eAt_eq G kx hxl]
    obtain ⟨x0, Hx00⟩ : ∃ qz, (G.E[kx]).1 = qz := ⟨_, rfl⟩
    have Hx0 := Lib.hid Hx00
    clear Hx00
    obtain ⟨y0, Hy00⟩ : ∃ qz, (G.E[kx]).2.1 = qz := ⟨_, rfl⟩
    have Hy0 := Lib.hid Hy00
    clear Hy00
    obtain ⟨z, Hz0⟩ : ∃ qz, (G.E[kx]).2.2 = qz := ⟨_, rfl⟩
    have Hz := Lib.hid Hz0
    clear Hz0
    rw [Hy0.out] at hye
    have HYE := Lib.hid hye
    have HKX := Lib.hid hkx
    clear hye hkx
    obtain ⟨gb, go, hpl, e0, e1, e2⟩ := rd3 (HS.out.now).2.2.1.re kx hxl
    have hix := fun wx => run_indexS (P := Try.prog) wx 26 43 iE 3 Try.underlying26 hiE hsE a2 n2 d2 kx hxn ((HS.out.now).2.2.1.re.some_ (by have := hxn; omega))
    rw [hpl] at hix
    have HIg := Lib.hid hix
    clear hix hpl
    rw [Hx0.out] at e0
    replace HS := Lib.hid ((Ev.cell e0).and HS.out)
    clear e0
    rw [Hy0.out] at e1
    replace HS := Lib.hid ((Ev.cell e1).and HS.out)
    clear e1
    rw [Hz.out] at e2
    replace HS := Lib.hid ((Ev.cell e2).and HS.out)
    clear e2
    by_cases h0 : 0 < n
    case pos =>
      obtain ⟨m, rfl⟩ : ∃ m, n = m + 1 := ⟨n - 1, by omega⟩
      have hml : m < xs.length := by rw [HN.out]; omega
      have hlx : xs[m] = (kx : Int) := by have h1 := lastD_take f xs m hml; rw [List.take_of_length_le (by rw [HN.out]; exact Nat.le_refl _), HKX.out] at h1; exact h1.symm
      have HLX := Lib.hid hlx
      clear hlx
      obtain ⟨eb, eo, hpl, e0⟩ := rd1 (HS.out.now).2.2.2.2.1 m hml
      have hix := fun wx => run_indexS (P := Try.prog) wx 22 3 iI 1 Try.underlying22 hiI hsI a (m + 1) c m (Nat.lt_succ_self m) ((HS.out.now).2.2.2.2.1.some_ (by have := (Nat.lt_succ_self m); omega))
      rw [hpl] at hix
      have HIe := Lib.hid hix
      clear hix hpl
      rw [HLX.out] at e0
      replace HS := Lib.hid ((Ev.cell e0).and HS.out)
      clear e0
      have qe := (HS.out.now).1
      have hix := HIe.out
      have qg := (HS.out.now).2.2.1
      have hig := HIg.out
      have z0 : decide ((0 : Int) < ((m + 1 : Nat) : Int)) = true := by simp; try omega
      have z1 : ((m + 1 : Nat) : Int) - 1 = (m : Int) := by omega
      go_wp2_with fail
      go_ret2
      exact ⟨by rw [HYE.out, HV.out]; rfl, (HS.out.now).2.2.2.2.2.2.2⟩
    case neg =>
      obtain rfl : n = 0 := by omega
      have hf0 : f = (kx : Int) := by have h1 := HKX.out; rw [List.eq_nil_of_length_eq_zero HN.out] at h1; exact h1
      subst hf0
      have qg := (HS.out.now).2.1
      have hig := HIg.out
      go_wp2_with fail
      go_ret2
      exact ⟨by rw [HYE.out, HV.out]; rfl, (HS.out.now).2.2.2.2.2.2⟩
/-- What each operation of the statement leaves. -/
def rcm_r4_0_F (a : Option Addr) (n : Nat) (c : Nat) (k : Nat) (x : Int) (y : Int) (a2 : Option Addr) (n2 : Nat) (c2 : Nat) (eb : Nat) (eo : Nat) (fb : Nat) (fo : Nat) : List (Value → World → Prop) :=
  [IsV (.slice a n c),
   IsV (.int .i64 (k : Int)),
   IsV (.pointer (some ⟨eb, eo, none⟩)),
   IsV (.int .i64 x),
   IsV (.slice a2 n2 c2),
   IsV (.int .i64 (k : Int)),
   IsV (.pointer (some ⟨fb, fo, none⟩)),
   IsV (.int .i64 y),
   IsV (.bool true)]
def rcm_r4_0_D : List (List Nat) := [[], [], [0, 1], [2], [], [], [4, 5], [6], [3, 7]]

/-- What each operation of the statement leaves. -/
def rcm_r4_1_F (a : Option Addr) (n : Nat) (c : Nat) (k : Nat) (x : Int) (y : Int) (a2 : Option Addr) (n2 : Nat) (c2 : Nat) (eb : Nat) (eo : Nat) (fb : Nat) (fo : Nat) : List (Value → World → Prop) :=
  [IsV (.slice a n c),
   IsV (.int .i64 (k : Int)),
   IsV (.pointer (some ⟨eb, eo, none⟩)),
   IsV (.int .i64 x),
   IsV (.slice a2 n2 c2),
   IsV (.int .i64 (k : Int)),
   IsV (.pointer (some ⟨fb, fo, none⟩)),
   IsV (.int .i64 y),
   IsV (.bool false)]
def rcm_r4_1_D : List (List Nat) := [[], [], [0, 1], [2], [], [], [4, 5], [6], [3, 7]]

/-- What each operation of the statement leaves. -/
def rcm_r6_2_F (a : Option Addr) (n : Nat) (c : Nat) (k : Nat) (x : Int) (y : Int) (a2 : Option Addr) (n2 : Nat) (c2 : Nat) (eb : Nat) (eo : Nat) (fb : Nat) (fo : Nat) : List (Value → World → Prop) :=
  [IsV (.slice a n c),
   IsV (.int .i64 (k : Int)),
   IsV (.pointer (some ⟨eb, eo, none⟩)),
   IsV (.int .i64 x),
   IsV (.slice a2 n2 c2),
   IsV (.int .i64 (k : Int)),
   IsV (.pointer (some ⟨fb, fo, none⟩)),
   IsV (.int .i64 y),
   IsV (.bool true)]
def rcm_r6_2_D : List (List Nat) := [[], [], [0, 1], [2], [], [], [4, 5], [6], [3, 7]]

/-- What each operation of the statement leaves. -/
def rcm_r6_3_F (a : Option Addr) (n : Nat) (c : Nat) (k : Nat) (x : Int) (y : Int) (a2 : Option Addr) (n2 : Nat) (c2 : Nat) (eb : Nat) (eo : Nat) (fb : Nat) (fo : Nat) : List (Value → World → Prop) :=
  [IsV (.slice a n c),
   IsV (.int .i64 (k : Int)),
   IsV (.pointer (some ⟨eb, eo, none⟩)),
   IsV (.int .i64 x),
   IsV (.slice a2 n2 c2),
   IsV (.int .i64 (k : Int)),
   IsV (.pointer (some ⟨fb, fo, none⟩)),
   IsV (.int .i64 y),
   IsV (.bool false)]
def rcm_r6_3_D : List (List Nat) := [[], [], [0, 1], [2], [], [], [4, 5], [6], [3, 7]]

set_option maxHeartbeats 16000000 in
theorem r4cmp_any (w : World) (a : Option Addr) (n c : Nat) (xs : List Int) (hn : xs.length = n) (hr : Rd w 1 (.slice a n c) n (xs.map (Value.int .i64))) (hb : n ≤ 100000) (a2 : Option Addr) (n2 c2 : Nat) (ys : List Int) (hn2 : ys.length = n2) (hr2 : Rd w 1 (.slice a2 n2 c2) n2 (ys.map (Value.int .i64))) (hb2 : n2 ≤ 100000) :
    Calls Try.prog 32 #[.slice a n c, .slice a2 n2 c2] w fun e w' => e = .returned (.int .i64 (cmpL xs ys)) ∧ Mod (fun _ => False) w w' := by
  obtain ⟨iI, hiI, hzI, hsI, hbI⟩ := info_parts GR.infoI
  obtain ⟨iE, hiE, hzE, hsE, hbE⟩ := info_parts GR.infoE
  have HN := Lib.hid hn
  clear hn
  have HN2 := Lib.hid hn2
  clear hn2
  have HS : Hid (Ev (Mod (fun _ => False) w) w) := Lib.hid (Ev.mod w)
  replace HS := Lib.hid ((Ev.rd hr).and HS.out)
  replace HS := Lib.hid ((Ev.rd hr2).and HS.out)
  clear hr hr2
  go_enter Try.func32, Try.ntmps32
  go_wp2_with fail
  replace HS := Lib.hid ((Ev.mod w).and HS.out)
  go_loopw [5] (fun i wr => ∃ (k : Nat), k ≤ n ∧ k ≤ n2 ∧ i = .int .i64 k ∧ xs.take k = ys.take k ∧ Mod (fun _ => False) w wr) (fun i _ => n - (intOf i).toNat)
  case atStart => exact ⟨0, by omega, by omega, rfl, rfl, Mod.refl _ _⟩
  case round =>
    obtain ⟨k, hk, hk2, rfl, hs, hmr⟩ := hrel
    obtain ⟨wo, hwo⟩ : ∃ x : World, x = wr := ⟨_, rfl⟩
    subst hwo
    replace HS := Lib.hid (HS.out.step hmr)
    clear hmr
    have HEQ := Lib.hid hs
    clear hs
    by_cases hlt : k < n
    case pos =>
      have hkl : k < xs.length := by rw [HN.out]; exact hlt
      have z0 : decide ((k : Int) < (n : Int)) = true := by simp; omega
      by_cases hl2 : k < n2
      case pos =>
        have hkl2 : k < ys.length := by rw [HN2.out]; exact hl2
        have z1 : decide ((k : Int) < (n2 : Int)) = true := by simp; omega
        obtain ⟨x, HX0⟩ : ∃ qz, xs[k] = qz := ⟨_, rfl⟩
        have HX := Lib.hid HX0
        clear HX0
        obtain ⟨y, HY0⟩ : ∃ qz, ys[k] = qz := ⟨_, rfl⟩
        have HY := Lib.hid HY0
        clear HY0
        obtain ⟨eb, eo, hpl, e0⟩ := rd1 (HS.out.now).2.2.1 k hkl
        have hix := fun wx => run_indexS (P := Try.prog) wx 22 3 iI 1 Try.underlying22 hiI hsI a n c k hlt ((HS.out.now).2.2.1.some_ (by have := hlt; omega))
        rw [hpl] at hix
        have HIe := Lib.hid hix
        clear hix hpl
        rw [HX.out] at e0
        replace HS := Lib.hid ((Ev.cell e0).and HS.out)
        clear e0
        obtain ⟨fb, fo, hpl, e0⟩ := rd1 (HS.out.now).2.2.1 k hkl2
        have hix := fun wx => run_indexS (P := Try.prog) wx 22 3 iI 1 Try.underlying22 hiI hsI a2 n2 c2 k hl2 ((HS.out.now).2.2.1.some_ (by have := hl2; omega))
        rw [hpl] at hix
        have HIf := Lib.hid hix
        clear hix hpl
        rw [HY.out] at e0
        replace HS := Lib.hid ((Ev.cell e0).and HS.out)
        clear e0
        by_cases hxy : x < y
        case pos =>
          go_upto_region 4 with fail
          have HSd := Lib.hid HS.out.drew
          refine wp_region_inv3 (act := ?actrcm_r4_0) (Mod (fun _ => False)) (fun i => (rcm_r4_0_F a n c k x y a2 n2 c2 eb eo fb fo).getD i (fun _ _ => True)) (fun i => rcm_r4_0_D.getD i []) (by kernel_rfl) (by kernel_rfl) (by kernel_rfl) (by kernel_rfl) (fun _ => Mod.refl _ _)
            (fun _ _ _ h k => h.trans k (fun _ _ e => e) (fun _ _ e => e)) ?hactrcm_r4_0 (stable_list ?_) ?_ ?_
          case hactrcm_r4_0 => intro vs; simp only [putAll, Nat.zero_add, Nat.reduceAdd, Act.put, List.setIfInBounds_toArray, List.set_cons_succ, List.set_cons_zero]; exact rfl
          · unfold rcm_r4_0_F
            exact stable_cons (stable_val _) <| stable_cons (stable_val _) <| stable_cons (stable_val _) <| stable_cons (stable_val _) <| stable_cons (stable_val _) <| stable_cons (stable_val _) <| stable_cons (stable_val _) <| stable_cons (stable_val _) <| stable_cons (stable_val _) <| stable_nil
          · refine opsOkA_cons ?_ ?_
            · intro K vs W hR hD hK
              clear hD
              try dsimp only at hK ⊢
              simp only [Act.put, List.setIfInBounds_toArray, List.set_cons_succ, List.set_cons_zero] at hK
              go_wp2
              exact hK _ _ rfl (Mod.refl _ _)
            refine opsOkA_cons ?_ ?_
            · intro K vs W hR hD hK
              clear hD
              try dsimp only at hK ⊢
              simp only [Act.put, List.setIfInBounds_toArray, List.set_cons_succ, List.set_cons_zero] at hK
              go_wp2
              exact hK _ _ rfl (Mod.refl _ _)
            refine opsOkA_cons ?_ ?_
            · intro K vs W hR hD hK
              have dq0 : vs 0 = .slice a n c := hD 0 (by decide)
              have dq1 : vs 1 = .int .i64 (k : Int) := hD 1 (by decide)
              clear hD
              try dsimp only at hK ⊢
              simp only [Act.put, List.setIfInBounds_toArray, List.set_cons_succ, List.set_cons_zero] at hK
              generalize vs 0 = vq0 at hK dq0 ⊢
              subst vq0
              generalize vs 1 = vq1 at hK dq1 ⊢
              subst vq1
              have hix := HIe.out
              go_wp2_with fail
              exact hK _ _ rfl (Mod.refl _ _)
            refine opsOkA_cons ?_ ?_
            · intro K vs W hR hD hK
              have dq2 : vs 2 = .pointer (some ⟨eb, eo, none⟩) := hD 2 (by decide)
              clear hD
              try dsimp only at hK ⊢
              simp only [Act.put, List.setIfInBounds_toArray, List.set_cons_succ, List.set_cons_zero] at hK
              generalize vs 2 = vq2 at hK dq2 ⊢
              subst vq2
              have c0 := (HSd.out.at (hR)).2.1
              go_wp2
              exact hK _ _ rfl (Mod.refl _ _)
            refine opsOkA_cons ?_ ?_
            · intro K vs W hR hD hK
              clear hD
              try dsimp only at hK ⊢
              simp only [Act.put, List.setIfInBounds_toArray, List.set_cons_succ, List.set_cons_zero] at hK
              go_wp2
              exact hK _ _ rfl (Mod.refl _ _)
            refine opsOkA_cons ?_ ?_
            · intro K vs W hR hD hK
              clear hD
              try dsimp only at hK ⊢
              simp only [Act.put, List.setIfInBounds_toArray, List.set_cons_succ, List.set_cons_zero] at hK
              go_wp2
              exact hK _ _ rfl (Mod.refl _ _)
            refine opsOkA_cons ?_ ?_
            · intro K vs W hR hD hK
              have dq4 : vs 4 = .slice a2 n2 c2 := hD 4 (by decide)
              have dq5 : vs 5 = .int .i64 (k : Int) := hD 5 (by decide)
              clear hD
              try dsimp only at hK ⊢
              simp only [Act.put, List.setIfInBounds_toArray, List.set_cons_succ, List.set_cons_zero] at hK
              generalize vs 4 = vq4 at hK dq4 ⊢
              subst vq4
              generalize vs 5 = vq5 at hK dq5 ⊢
              subst vq5
              have hix := HIf.out
              go_wp2_with fail
              exact hK _ _ rfl (Mod.refl _ _)
            refine opsOkA_cons ?_ ?_
            · intro K vs W hR hD hK
              have dq6 : vs 6 = .pointer (some ⟨fb, fo, none⟩) := hD 6 (by decide)
              clear hD
              try dsimp only at hK ⊢
              simp only [Act.put, List.setIfInBounds_toArray, List.set_cons_succ, List.set_cons_zero] at hK
              generalize vs 6 = vq6 at hK dq6 ⊢
              subst vq6
              have c0 := (HSd.out.at (hR)).1
              go_wp2
              exact hK _ _ rfl (Mod.refl _ _)
            refine opsOkA_cons ?_ ?_
            · intro K vs W hR hD hK
              have dq3 : vs 3 = .int .i64 x := hD 3 (by decide)
              have dq7 : vs 7 = .int .i64 y := hD 7 (by decide)
              clear hD
              try dsimp only at hK ⊢
              simp only [Act.put, List.setIfInBounds_toArray, List.set_cons_succ, List.set_cons_zero] at hK
              generalize vs 3 = vq3 at hK dq3 ⊢
              subst vq3
              generalize vs 7 = vq7 at hK dq7 ⊢
              subst vq7
              have zz : decide (x < y) = true := by simpa using hxy
              go_wp2
              exact hK _ _ rfl (Mod.refl _ _)
            exact opsOkA_nil
          · intro vs wq1 hR hF
            have dq8 : vs 8 = .bool true := hF 8 (by decide)
            clear hF
            try dsimp only
            generalize vs 8 = vq8 at dq8 ⊢
            subst dq8
            replace HS := Lib.hid (HSd.out.step hR)
            clear HSd hR
            go_wp2_with fail
            go_ret
            exact ⟨by rw [cmpL_lt xs ys k HEQ.out hkl hkl2 (by rw [HX.out, HY.out]; exact hxy)]; rfl, (HS.out.now).2.2.2.2.2⟩
        case neg =>
          go_upto_region 4 with fail
          have HSd := Lib.hid HS.out.drew
          refine wp_region_inv3 (act := ?actrcm_r4_1) (Mod (fun _ => False)) (fun i => (rcm_r4_1_F a n c k x y a2 n2 c2 eb eo fb fo).getD i (fun _ _ => True)) (fun i => rcm_r4_1_D.getD i []) (by kernel_rfl) (by kernel_rfl) (by kernel_rfl) (by kernel_rfl) (fun _ => Mod.refl _ _)
            (fun _ _ _ h k => h.trans k (fun _ _ e => e) (fun _ _ e => e)) ?hactrcm_r4_1 (stable_list ?_) ?_ ?_
          case hactrcm_r4_1 => intro vs; simp only [putAll, Nat.zero_add, Nat.reduceAdd, Act.put, List.setIfInBounds_toArray, List.set_cons_succ, List.set_cons_zero]; exact rfl
          · unfold rcm_r4_1_F
            exact stable_cons (stable_val _) <| stable_cons (stable_val _) <| stable_cons (stable_val _) <| stable_cons (stable_val _) <| stable_cons (stable_val _) <| stable_cons (stable_val _) <| stable_cons (stable_val _) <| stable_cons (stable_val _) <| stable_cons (stable_val _) <| stable_nil
          · refine opsOkA_cons ?_ ?_
            · intro K vs W hR hD hK
              clear hD
              try dsimp only at hK ⊢
              simp only [Act.put, List.setIfInBounds_toArray, List.set_cons_succ, List.set_cons_zero] at hK
              go_wp2
              exact hK _ _ rfl (Mod.refl _ _)
            refine opsOkA_cons ?_ ?_
            · intro K vs W hR hD hK
              clear hD
              try dsimp only at hK ⊢
              simp only [Act.put, List.setIfInBounds_toArray, List.set_cons_succ, List.set_cons_zero] at hK
              go_wp2
              exact hK _ _ rfl (Mod.refl _ _)
            refine opsOkA_cons ?_ ?_
            · intro K vs W hR hD hK
              have dq0 : vs 0 = .slice a n c := hD 0 (by decide)
              have dq1 : vs 1 = .int .i64 (k : Int) := hD 1 (by decide)
              clear hD
              try dsimp only at hK ⊢
              simp only [Act.put, List.setIfInBounds_toArray, List.set_cons_succ, List.set_cons_zero] at hK
              generalize vs 0 = vq0 at hK dq0 ⊢
              subst vq0
              generalize vs 1 = vq1 at hK dq1 ⊢
              subst vq1
              have hix := HIe.out
              go_wp2_with fail
              exact hK _ _ rfl (Mod.refl _ _)
            refine opsOkA_cons ?_ ?_
            · intro K vs W hR hD hK
              have dq2 : vs 2 = .pointer (some ⟨eb, eo, none⟩) := hD 2 (by decide)
              clear hD
              try dsimp only at hK ⊢
              simp only [Act.put, List.setIfInBounds_toArray, List.set_cons_succ, List.set_cons_zero] at hK
              generalize vs 2 = vq2 at hK dq2 ⊢
              subst vq2
              have c0 := (HSd.out.at (hR)).2.1
              go_wp2
              exact hK _ _ rfl (Mod.refl _ _)
            refine opsOkA_cons ?_ ?_
            · intro K vs W hR hD hK
              clear hD
              try dsimp only at hK ⊢
              simp only [Act.put, List.setIfInBounds_toArray, List.set_cons_succ, List.set_cons_zero] at hK
              go_wp2
              exact hK _ _ rfl (Mod.refl _ _)
            refine opsOkA_cons ?_ ?_
            · intro K vs W hR hD hK
              clear hD
              try dsimp only at hK ⊢
              simp only [Act.put, List.setIfInBounds_toArray, List.set_cons_succ, List.set_cons_zero] at hK
              go_wp2
              exact hK _ _ rfl (Mod.refl _ _)
            refine opsOkA_cons ?_ ?_
            · intro K vs W hR hD hK
              have dq4 : vs 4 = .slice a2 n2 c2 := hD 4 (by decide)
              have dq5 : vs 5 = .int .i64 (k : Int) := hD 5 (by decide)
              clear hD
              try dsimp only at hK ⊢
              simp only [Act.put, List.setIfInBounds_toArray, List.set_cons_succ, List.set_cons_zero] at hK
              generalize vs 4 = vq4 at hK dq4 ⊢
              subst vq4
              generalize vs 5 = vq5 at hK dq5 ⊢
              subst vq5
              have hix := HIf.out
              go_wp2_with fail
              exact hK _ _ rfl (Mod.refl _ _)
            refine opsOkA_cons ?_ ?_
            · intro K vs W hR hD hK
              have dq6 : vs 6 = .pointer (some ⟨fb, fo, none⟩) := hD 6 (by decide)
              clear hD
              try dsimp only at hK ⊢
              simp only [Act.put, List.setIfInBounds_toArray, List.set_cons_succ, List.set_cons_zero] at hK
              generalize vs 6 = vq6 at hK dq6 ⊢
              subst vq6
              have c0 := (HSd.out.at (hR)).1
              go_wp2
              exact hK _ _ rfl (Mod.refl _ _)
            refine opsOkA_cons ?_ ?_
            · intro K vs W hR hD hK
              have dq3 : vs 3 = .int .i64 x := hD 3 (by decide)
              have dq7 : vs 7 = .int .i64 y := hD 7 (by decide)
              clear hD
              try dsimp only at hK ⊢
              simp only [Act.put, List.setIfInBounds_toArray, List.set_cons_succ, List.set_cons_zero] at hK
              generalize vs 3 = vq3 at hK dq3 ⊢
              subst vq3
              generalize vs 7 = vq7 at hK dq7 ⊢
              subst vq7
              have zz : decide (x < y) = false := by simpa using hxy
              go_wp2
              exact hK _ _ rfl (Mod.refl _ _)
            exact opsOkA_nil
          · intro vs wq2 hR hF
            have dq8 : vs 8 = .bool false := hF 8 (by decide)
            clear hF
            try dsimp only
            generalize vs 8 = vq8 at dq8 ⊢
            subst dq8
            replace HS := Lib.hid (HSd.out.step hR)
            clear HSd hR
            by_cases hyx : y < x
            case pos =>
              go_upto_region 6 with fail
              have HSd := Lib.hid HS.out.drew
              refine wp_region_inv3 (act := ?actrcm_r6_2) (Mod (fun _ => False)) (fun i => (rcm_r6_2_F a n c k x y a2 n2 c2 eb eo fb fo).getD i (fun _ _ => True)) (fun i => rcm_r6_2_D.getD i []) (by kernel_rfl) (by kernel_rfl) (by kernel_rfl) (by kernel_rfl) (fun _ => Mod.refl _ _)
                (fun _ _ _ h k => h.trans k (fun _ _ e => e) (fun _ _ e => e)) ?hactrcm_r6_2 (stable_list ?_) ?_ ?_
              case hactrcm_r6_2 => intro vs; simp only [putAll, Nat.zero_add, Nat.reduceAdd, Act.put, List.setIfInBounds_toArray, List.set_cons_succ, List.set_cons_zero]; exact rfl
              · unfold rcm_r6_2_F
                exact stable_cons (stable_val _) <| stable_cons (stable_val _) <| stable_cons (stable_val _) <| stable_cons (stable_val _) <| stable_cons (stable_val _) <| stable_cons (stable_val _) <| stable_cons (stable_val _) <| stable_cons (stable_val _) <| stable_cons (stable_val _) <| stable_nil
              · refine opsOkA_cons ?_ ?_
                · intro K vs W hR hD hK
                  clear hD
                  try dsimp only at hK ⊢
                  simp only [Act.put, List.setIfInBounds_toArray, List.set_cons_succ, List.set_cons_zero] at hK
                  go_wp2
                  exact hK _ _ rfl (Mod.refl _ _)
                refine opsOkA_cons ?_ ?_
                · intro K vs W hR hD hK
                  clear hD
                  try dsimp only at hK ⊢
                  simp only [Act.put, List.setIfInBounds_toArray, List.set_cons_succ, List.set_cons_zero] at hK
                  go_wp2
                  exact hK _ _ rfl (Mod.refl _ _)
                refine opsOkA_cons ?_ ?_
                · intro K vs W hR hD hK
                  have dq0 : vs 0 = .slice a n c := hD 0 (by decide)
                  have dq1 : vs 1 = .int .i64 (k : Int) := hD 1 (by decide)
                  clear hD
                  try dsimp only at hK ⊢
                  simp only [Act.put, List.setIfInBounds_toArray, List.set_cons_succ, List.set_cons_zero] at hK
                  generalize vs 0 = vq0 at hK dq0 ⊢
                  subst vq0
                  generalize vs 1 = vq1 at hK dq1 ⊢
                  subst vq1
                  have hix := HIe.out
                  go_wp2_with fail
                  exact hK _ _ rfl (Mod.refl _ _)
                refine opsOkA_cons ?_ ?_
                · intro K vs W hR hD hK
                  have dq2 : vs 2 = .pointer (some ⟨eb, eo, none⟩) := hD 2 (by decide)
                  clear hD
                  try dsimp only at hK ⊢
                  simp only [Act.put, List.setIfInBounds_toArray, List.set_cons_succ, List.set_cons_zero] at hK
                  generalize vs 2 = vq2 at hK dq2 ⊢
                  subst vq2
                  have c0 := (HSd.out.at (hR)).2.1
                  go_wp2
                  exact hK _ _ rfl (Mod.refl _ _)
                refine opsOkA_cons ?_ ?_
                · intro K vs W hR hD hK
                  clear hD
                  try dsimp only at hK ⊢
                  simp only [Act.put, List.setIfInBounds_toArray, List.set_cons_succ, List.set_cons_zero] at hK
                  go_wp2
                  exact hK _ _ rfl (Mod.refl _ _)
                refine opsOkA_cons ?_ ?_
                · intro K vs W hR hD hK
                  clear hD
                  try dsimp only at hK ⊢
                  simp only [Act.put, List.setIfInBounds_toArray, List.set_cons_succ, List.set_cons_zero] at hK
                  go_wp2
                  exact hK _ _ rfl (Mod.refl _ _)
                refine opsOkA_cons ?_ ?_
                · intro K vs W hR hD hK
                  have dq4 : vs 4 = .slice a2 n2 c2 := hD 4 (by decide)
                  have dq5 : vs 5 = .int .i64 (k : Int) := hD 5 (by decide)
                  clear hD
                  try dsimp only at hK ⊢
                  simp only [Act.put, List.setIfInBounds_toArray, List.set_cons_succ, List.set_cons_zero] at hK
                  generalize vs 4 = vq4 at hK dq4 ⊢
                  subst vq4
                  generalize vs 5 = vq5 at hK dq5 ⊢
                  subst vq5
                  have hix := HIf.out
                  go_wp2_with fail
                  exact hK _ _ rfl (Mod.refl _ _)
                refine opsOkA_cons ?_ ?_
                · intro K vs W hR hD hK
                  have dq6 : vs 6 = .pointer (some ⟨fb, fo, none⟩) := hD 6 (by decide)
                  clear hD
                  try dsimp only at hK ⊢
                  simp only [Act.put, List.setIfInBounds_toArray, List.set_cons_succ, List.set_cons_zero] at hK
                  generalize vs 6 = vq6 at hK dq6 ⊢
                  subst vq6
                  have c0 := (HSd.out.at (hR)).1
                  go_wp2
                  exact hK _ _ rfl (Mod.refl _ _)
                refine opsOkA_cons ?_ ?_
                · intro K vs W hR hD hK
                  have dq3 : vs 3 = .int .i64 x := hD 3 (by decide)
                  have dq7 : vs 7 = .int .i64 y := hD 7 (by decide)
                  clear hD
                  try dsimp only at hK ⊢
                  simp only [Act.put, List.setIfInBounds_toArray, List.set_cons_succ, List.set_cons_zero] at hK
                  generalize vs 3 = vq3 at hK dq3 ⊢
                  subst vq3
                  generalize vs 7 = vq7 at hK dq7 ⊢
                  subst vq7
                  have zz : decide (y < x) = true := by simpa using hyx
                  go_wp2
                  exact hK _ _ rfl (Mod.refl _ _)
                exact opsOkA_nil
              · intro vs wq3 hR hF
                have dq8 : vs 8 = .bool true := hF 8 (by decide)
                clear hF
                try dsimp only
                generalize vs 8 = vq8 at dq8 ⊢
                subst dq8
                replace HS := Lib.hid (HSd.out.step hR)
                clear HSd hR
                go_wp2_with fail
                go_ret
                exact ⟨by rw [cmpL_gt xs ys k HEQ.out hkl hkl2 (by rw [HX.out, HY.out]; exact hyx)]; rfl, (HS.out.now).2.2.2.2.2⟩
            case neg =>
              go_upto_region 6 with fail
              have HSd := Lib.hid HS.out.drew
              refine wp_region_inv3 (act := ?actrcm_r6_3) (Mod (fun _ => False)) (fun i => (rcm_r6_3_F a n c k x y a2 n2 c2 eb eo fb fo).getD i (fun _ _ => True)) (fun i => rcm_r6_3_D.getD i []) (by kernel_rfl) (by kernel_rfl) (by kernel_rfl) (by kernel_rfl) (fun _ => Mod.refl _ _)
                (fun _ _ _ h k => h.trans k (fun _ _ e => e) (fun _ _ e => e)) ?hactrcm_r6_3 (stable_list ?_) ?_ ?_
              case hactrcm_r6_3 => intro vs; simp only [putAll, Nat.zero_add, Nat.reduceAdd, Act.put, List.setIfInBounds_toArray, List.set_cons_succ, List.set_cons_zero]; exact rfl
              · unfold rcm_r6_3_F
                exact stable_cons (stable_val _) <| stable_cons (stable_val _) <| stable_cons (stable_val _) <| stable_cons (stable_val _) <| stable_cons (stable_val _) <| stable_cons (stable_val _) <| stable_cons (stable_val _) <| stable_cons (stable_val _) <| stable_cons (stable_val _) <| stable_nil
              · refine opsOkA_cons ?_ ?_
                · intro K vs W hR hD hK
                  clear hD
                  try dsimp only at hK ⊢
                  simp only [Act.put, List.setIfInBounds_toArray, List.set_cons_succ, List.set_cons_zero] at hK
                  go_wp2
                  exact hK _ _ rfl (Mod.refl _ _)
                refine opsOkA_cons ?_ ?_
                · intro K vs W hR hD hK
                  clear hD
                  try dsimp only at hK ⊢
                  simp only [Act.put, List.setIfInBounds_toArray, List.set_cons_succ, List.set_cons_zero] at hK
                  go_wp2
                  exact hK _ _ rfl (Mod.refl _ _)
                refine opsOkA_cons ?_ ?_
                · intro K vs W hR hD hK
                  have dq0 : vs 0 = .slice a n c := hD 0 (by decide)
                  have dq1 : vs 1 = .int .i64 (k : Int) := hD 1 (by decide)
                  clear hD
                  try dsimp only at hK ⊢
                  simp only [Act.put, List.setIfInBounds_toArray, List.set_cons_succ, List.set_cons_zero] at hK
                  generalize vs 0 = vq0 at hK dq0 ⊢
                  subst vq0
                  generalize vs 1 = vq1 at hK dq1 ⊢
                  subst vq1
                  have hix := HIe.out
                  go_wp2_with fail
                  exact hK _ _ rfl (Mod.refl _ _)
                refine opsOkA_cons ?_ ?_
                · intro K vs W hR hD hK
                  have dq2 : vs 2 = .pointer (some ⟨eb, eo, none⟩) := hD 2 (by decide)
                  clear hD
                  try dsimp only at hK ⊢
                  simp only [Act.put, List.setIfInBounds_toArray, List.set_cons_succ, List.set_cons_zero] at hK
                  generalize vs 2 = vq2 at hK dq2 ⊢
                  subst vq2
                  have c0 := (HSd.out.at (hR)).2.1
                  go_wp2
                  exact hK _ _ rfl (Mod.refl _ _)
                refine opsOkA_cons ?_ ?_
                · intro K vs W hR hD hK
                  clear hD
                  try dsimp only at hK ⊢
                  simp only [Act.put, List.setIfInBounds_toArray, List.set_cons_succ, List.set_cons_zero] at hK
                  go_wp2
                  exact hK _ _ rfl (Mod.refl _ _)
                refine opsOkA_cons ?_ ?_
                · intro K vs W hR hD hK
                  clear hD
                  try dsimp only at hK ⊢
                  simp only [Act.put, List.setIfInBounds_toArray, List.set_cons_succ, List.set_cons_zero] at hK
                  go_wp2
                  exact hK _ _ rfl (Mod.refl _ _)
                refine opsOkA_cons ?_ ?_
                · intro K vs W hR hD hK
                  have dq4 : vs 4 = .slice a2 n2 c2 := hD 4 (by decide)
                  have dq5 : vs 5 = .int .i64 (k : Int) := hD 5 (by decide)
                  clear hD
                  try dsimp only at hK ⊢
                  simp only [Act.put, List.setIfInBounds_toArray, List.set_cons_succ, List.set_cons_zero] at hK
                  generalize vs 4 = vq4 at hK dq4 ⊢
                  subst vq4
                  generalize vs 5 = vq5 at hK dq5 ⊢
                  subst vq5
                  have hix := HIf.out
                  go_wp2_with fail
                  exact hK _ _ rfl (Mod.refl _ _)
                refine opsOkA_cons ?_ ?_
                · intro K vs W hR hD hK
                  have dq6 : vs 6 = .pointer (some ⟨fb, fo, none⟩) := hD 6 (by decide)
                  clear hD
                  try dsimp only at hK ⊢
                  simp only [Act.put, List.setIfInBounds_toArray, List.set_cons_succ, List.set_cons_zero] at hK
                  generalize vs 6 = vq6 at hK dq6 ⊢
                  subst vq6
                  have c0 := (HSd.out.at (hR)).1
                  go_wp2
                  exact hK _ _ rfl (Mod.refl _ _)
                refine opsOkA_cons ?_ ?_
                · intro K vs W hR hD hK
                  have dq3 : vs 3 = .int .i64 x := hD 3 (by decide)
                  have dq7 : vs 7 = .int .i64 y := hD 7 (by decide)
                  clear hD
                  try dsimp only at hK ⊢
                  simp only [Act.put, List.setIfInBounds_toArray, List.set_cons_succ, List.set_cons_zero] at hK
                  generalize vs 3 = vq3 at hK dq3 ⊢
                  subst vq3
                  generalize vs 7 = vq7 at hK dq7 ⊢
                  subst vq7
                  have zz : decide (y < x) = false := by simpa using hyx
                  go_wp2
                  exact hK _ _ rfl (Mod.refl _ _)
                exact opsOkA_nil
              · intro vs wq4 hR hF
                have dq8 : vs 8 = .bool false := hF 8 (by decide)
                clear hF
                try dsimp only
                generalize vs 8 = vq8 at dq8 ⊢
                subst dq8
                replace HS := Lib.hid (HSd.out.step hR)
                clear HSd hR
                go_wp2_with fail
                go_roundw
                case rel => exact ⟨k + 1, by omega, by omega, by go_num, by rw [take_snoc' xs k hkl, take_snoc' ys k hkl2, HEQ.out, HX.out, HY.out, show x = y by omega], (HS.out.now).2.2.1⟩
                case measure => simp [intOf]; omega
      case neg =>
        obtain rfl : k = n2 := by omega
        have z1 : decide ((k : Int) < (k : Int)) = false := by simp
        have z3 : decide ((n : Int) < (k : Int)) = false := by simp; omega
        go_wp2_with fail
        go_ret
        exact ⟨by rw [cmpL_end1 xs ys (by rw [HN2.out, HEQ.out, List.take_of_length_le (by rw [HN2.out]; exact Nat.le_refl _)]) (by rw [HN2.out]; exact hkl)]; rfl, (HS.out.now).2.2.2⟩
    case neg =>
      obtain rfl : k = n := by omega
      have z0 : decide ((k : Int) < (k : Int)) = false := by simp
      have hx : xs = ys.take xs.length := by have := HEQ.out; rw [List.take_of_length_le (by rw [HN.out]; exact Nat.le_refl _)] at this; rw [HN.out]; exact this
      have HX := Lib.hid hx
      clear hx
      by_cases hl2 : k < n2
      case pos =>
        have z1 : decide ((k : Int) < (n2 : Int)) = true := by simp; omega
        go_wp2_with fail
        go_ret
        exact ⟨by rw [cmpL_end2 xs ys HX.out (by rw [HN.out, HN2.out]; exact hl2)]; rfl, (HS.out.now).2.2.2⟩
      case neg =>
        obtain rfl : k = n2 := by omega
        go_wp2_with fail
        go_ret
        exact ⟨by rw [cmpL_end0 xs ys HX.out (by rw [HN.out, HN2.out])]; rfl, (HS.out.now).2.2.2⟩
end Go.Proofs.Ytgiojfihgdifbaa
