/- milepostref4.Arcs by contract. -/
import Derived.Test.YtbjdjafkpldbnaaTurns
import Derived.Test.YtbjdjafkpldbnaaArcs
import Derived.Test.YtbjdjafkpldbnaaRNext
import Derived.Test.YtbjdjafkpldbnaaKReg
import Derived.Deep.DeepCutAuto
import Derived.Deep.CutBlock
namespace Go.Proofs.Ytbjdjafkpldbnaa
open Go.RowKit Mile
set_option maxRecDepth 100000
/-- A literal's new row of one arc. -/
def LitA (x : P4) : Value → World → Prop := fun v W => ∃ p, v = .slice (some ⟨p, 0, none⟩) 1 1 ∧ Rd W 4 v 1 (c4 x)
theorem LitA.st {x : P4} : ∀ v w w', LitA x v w → Mod (fun _ => False) w w' → LitA x v w' := fun _ _ _ ⟨p, h, r⟩ m => ⟨p, h, r.keep m (fun _ _ e => e)⟩
/-- The row behind an append: the old block's, or new. -/
def APush (B0 hs : Nat) (u : Value) (xs : List P4) : Value → World → Prop := fun v W => AOwn B0 xs v W ∧ ∀ q, v.ownBlock = some q → u.ownBlock = some q ∨ hs ≤ q
theorem APush.st {B0 hs : Nat} {u : Value} {xs : List P4} : ∀ v w w', APush B0 hs u xs v w → Mod (fun _ => False) w w' → APush B0 hs u xs v w' := fun _ _ _ ⟨h, k⟩ m => ⟨h.keep m, k⟩
/-- What each operation of the statement leaves. -/
def ra_r9_0_F (B0 hs bx eb eo fb fo j k kb ln cn cv _ _ n2 d2 _ _ : Nat) (zb : Int) (_ a2 _ an av : Option Addr) (pt : List P4) : List (Bool × (Value → World → Prop)) :=
  [(true, IsV (.slice av pt.length cv)),
   (true, IsV (.int .i64 (j : Int))),
   (true, IsV (.slice an ln cn)),
   (true, IsV (.int .i64 (k : Int))),
   (true, IsV (.pointer (some ⟨eb, eo, none⟩))),
   (true, IsV (.int .i64 (kb : Int))),
   (true, IsV (.pointer (some ⟨bx, 1, none⟩))),
   (true, IsV (.slice a2 n2 d2)),
   (true, IsV (.slice an ln cn)),
   (true, IsV (.int .i64 (k : Int))),
   (true, IsV (.pointer (some ⟨eb, eo, none⟩))),
   (true, IsV (.int .i64 (kb : Int))),
   (true, IsV (.pointer (some ⟨fb, fo, none⟩))),
   (true, IsV (.pointer (some ⟨fb, fo + 2, none⟩))),
   (true, IsV (.int .i64 zb)),
   (true, IsV (.agg #[.int .i64 (j : Int), .int .i64 (kb : Int), .int .i64 zb, .int .i64 (-1)])),
   (false, LitA ((j : Int), (kb : Int), zb, (-1 : Int))),
   (false, APush B0 hs (Value.slice av pt.length cv) (pt ++ [((j : Int), (kb : Int), zb, (-1 : Int))]))]
def ra_r9_0_D : List (List Nat) := [[], [], [], [], [2, 3], [4], [], [6], [], [], [8, 9], [10], [7, 11], [12], [13], [1, 5, 14], [15], [0, 16]]
def ra_r9_0_C : List Nat := [1000, 1000, 1000, 1000, 1000, 1000, 1000, 1000, 1000, 1000, 1000, 1000, 1000, 1000, 1000, 1000, 17, 1000]

set_option maxHeartbeats 32000000 in
theorem r4arcs_new (G : GD) (w : World) (a1 : Option Addr) (n1 d1 : Nat) (a2 : Option Addr) (n2 d2 : Nat) (a3 : Option Addr) (n3 d3 : Nat) (h : GV w a1 n1 d1 a2 n2 d2 a3 n3 d3 G) (q2 : n2 ≤ 512) (q3 : n3 ≤ 100000) :
    Calls Try.prog 32 #[.agg #[.slice a1 n1 d1, .slice a2 n2 d2, .slice a3 n3 d3]] w fun e w' => ∃ v, e = .returned v ∧ (ARow (arcsR G) v w' ∧ AOwn w.heap.size (arcsR G) v w') ∧ Mod (fun _ => False) w w' := by
  obtain ⟨iI, hiI, hzI, hsI, hbI⟩ := info_parts GR.infoI
  obtain ⟨iE, hiE, hzE, hsE, hbE⟩ := info_parts GR.infoE
  obtain ⟨iA, hiA, hzA, hsA, hbA⟩ := info_parts infoA
  have he := Lib.hid h.e
  have HS : Hid (Ev (Mod (fun _ => False) w) w) := Lib.hid (Ev.mod w)
  replace HS := Lib.hid ((Ev.gv h).and HS.out)
  go_enter Try.func32, Try.ntmps32
  go_upto_region 1 with fail
  obtain ⟨bx, hbx⟩ : ∃ b, w.heap.size = b := ⟨_, rfl⟩
  obtain ⟨wq1, hwq1⟩ : ∃ W, World.alloc w (.cells #[.slice a1 n1 d1, .slice a2 n2 d2, .slice a3 n3 d3] 28) = W := ⟨_, rfl⟩
  have hBbx : Blk wq1 bx 28 [.slice a1 n1 d1, .slice a2 n2 d2, .slice a3 n3 d3] := by rw [← hwq1, ← hbx]; exact Blk.new _ 28 [.slice a1 n1 d1, .slice a2 n2 d2, .slice a3 n3 d3]
  have hzbx : wq1.heap.size = bx + 1 := by rw [← hwq1, ← hbx]; exact heap_size_alloc _ _
  replace HS := Lib.hid (HS.out.step (w' := wq1) (by rw [← hwq1]; exact Mod.alloc _ _ _))
  replace HS := Lib.hid ((Ev.blk hBbx).and HS.out)
  try rw [hwq1]
  try rw [hbx]
  clear hzbx hBbx hbx hwq1
  have hbbx := (HS.out.now).1
  have qbx_0 := hbbx.cell 0 rfl
  have qbx_1 := hbbx.cell 1 rfl
  have qbx_2 := hbbx.cell 2 rfl
  have lbx := hbbx.lt
  clear hbbx
  obtain ⟨B0, hB0⟩ : ∃ n, wq1.heap.size = n := ⟨_, rfl⟩
  have HB0 := Lib.hid hB0
  have HWZ : Hid (w.heap.size ≤ wq1.heap.size) := Lib.hid ((HS.out.now).2.2).size
  clear hB0
  replace HS := Lib.hid ((Ev.mod wq1).and HS.out)
  have HSW := HS
  go_wp2_with fail
  clear qbx_0 qbx_1 qbx_2 lbx
  go_loopw [3, 4] (fun v i wr => ∃ j : Nat, j ≤ n2 ∧ i = .int .i64 j ∧ Mod (fun _ => False) wq1 wr ∧ AOwn B0 (arcsTo G j) v wr) (fun _ i _ => n2 - (intOf i).toNat)
  case atStart => exact ⟨0, by omega, rfl, Mod.refl _ _, World.ownsRow_nil _ _ _ _⟩
  case round =>
    obtain ⟨j, hj, rfl, hmr, hown⟩ := hrel
    obtain ⟨wo, hwo⟩ : ∃ x : World, x = wr := ⟨_, rfl⟩
    subst hwo
    replace HS := Lib.hid (HS.out.step hmr)
    clear hmr
    have HO := Lib.hid hown
    clear hown
    have hbbx := (HS.out.now).2.1
    have qbx_0 := hbbx.cell 0 rfl
    have qbx_1 := hbbx.cell 1 rfl
    have qbx_2 := hbbx.cell 2 rfl
    have lbx := hbbx.lt
    clear hbbx
    by_cases hlt : j < n2
    case pos =>
      have z0 : decide ((j : Int) < (n2 : Int)) = true := by simp; omega
      go_wp2_with fail
      refine (r4next_new G _ a1 n1 d1 a2 n2 d2 a3 n3 d3 ((HS.out.now).2.2.1) (by omega) q3 (j : Int)).mono ?_
      rintro e wq2 ⟨x', rfl, ⟨⟨an, cn, rfl, hx'⟩, hlow⟩, hmm⟩
      have HMT := Lib.hid hmm
      replace HS := Lib.hid (HS.out.step hmm)
      clear hmm
      have HO2 := Lib.hid (HO.out.keep HMT.out)
      obtain ⟨ln, hln⟩ : ∃ n, (nxtR G (j : Int)).length = n := ⟨_, rfl⟩
      rw [hln] at hx' hlow ⊢
      have hl1 : ln ≤ 512 := by rw [← hln]; have := nxtR_len G (j : Int); have := he.out; omega
      have HLN := Lib.hid hln
      clear hln
      have HR0 := Lib.hid hx'
      have HNE0 : Hid (∀ v, AOwn B0 (arcsTo G j) v wo → ∀ q, v.ownBlock = some q → (Value.slice an ln cn).ownBlock ≠ some q) := Lib.hid fun v hv q h1 h2 => by have := (hv.lt q h1).2; have := hlow q h2; omega
      clear hx' hlow
      clear qbx_0 qbx_1 qbx_2 lbx
      have hbbx := (HS.out.now).2.1
      have qbx_0 := hbbx.cell 0 rfl
      have qbx_1 := hbbx.cell 1 rfl
      have qbx_2 := hbbx.cell 2 rfl
      have lbx := hbbx.lt
      clear hbbx
      go_wp2_with fail
      clear qbx_0 qbx_1 qbx_2 lbx
      go_loopw [3, 6] (fun v i wr => ∃ k : Nat, k ≤ ln ∧ i = .int .i64 k ∧ Mod (fun _ => False) wq1 wr ∧ AOwn B0 (arcsTo G j ++ (arcsOf G (j : Int)).take k) v wr ∧ Rd wr 1 (.slice an ln cn) ln ((nxtR G (j : Int)).map (Value.int .i64)) ∧ ∀ q, v.ownBlock = some q → (Value.slice an ln cn).ownBlock ≠ some q) (fun _ i _ => ln - (intOf i).toNat)
      case atStart => exact ⟨0, by omega, rfl, (HS.out.now).1, by rw [List.take_zero, List.append_nil]; exact HO2.out, HR0.out, HNE0.out _ HO.out⟩
      case round =>
        obtain ⟨k, hk, rfl, hmr, hown, hrn, hne⟩ := hrel
        obtain ⟨wq, hwo⟩ : ∃ x : World, x = wr := ⟨_, rfl⟩
        subst hwo
        replace HS := Lib.hid (HSW.out.step hmr)
        clear hmr
        replace HS := Lib.hid ((Ev.rd hrn).and HS.out)
        have HNE := Lib.hid hne
        clear hrn hne
        obtain ⟨pt, hpt⟩ : ∃ l, arcsTo G j ++ (arcsOf G (j : Int)).take k = l := ⟨_, rfl⟩
        rw [hpt] at hown
        have hpl : pt.length ≤ 300000 := by rw [← hpt]; exact arcsPart_len G (by have := he.out; omega) j (by have := he.out; omega) k
        have HPT := Lib.hid hpt
        have HO3 := Lib.hid hown
        obtain ⟨av, cv, rfl⟩ := own_form HO3.out
        clear hown hpt
        by_cases hlk : k < ln
        case pos =>
          have z1 : decide ((k : Int) < (ln : Int)) = true := by simp; omega
          have hkl : k < (nxtR G (j : Int)).length := by rw [HLN.out]; exact hlk
          obtain ⟨kb, hkb, hkbe, _⟩ := nxtR_at G (j : Int) k hkl
          have hkbn : kb < n2 := by rw [← he.out]; exact hkbe
          obtain ⟨xb, hxb⟩ : ∃ x, (G.E[kb]).1 = x := ⟨_, rfl⟩
          obtain ⟨yb, hyb⟩ : ∃ x, (G.E[kb]).2.1 = x := ⟨_, rfl⟩
          obtain ⟨zb, hzb⟩ : ∃ x, (G.E[kb]).2.2 = x := ⟨_, rfl⟩
          have HKB := Lib.hid hkb
          clear hkb
          obtain ⟨eb, eo, hpl, e0⟩ := rd1 (HS.out.now).1 k hkl
          have hix := fun wx => run_indexS (P := Try.prog) wx 22 3 iI 1 Try.underlying22 hiI hsI an ln cn k hlk ((HS.out.now).1.some_ (by have := hlk; omega))
          rw [hpl] at hix
          have HIe := Lib.hid hix
          clear hix hpl
          rw [HKB.out] at e0
          replace HS := Lib.hid ((Ev.cell e0).and HS.out)
          clear e0
          obtain ⟨fb, fo, hpl, e0, e1, e2⟩ := rd3 (HS.out.now).2.2.2.2.1.re kb hkbe
          have hix := fun wx => run_indexS (P := Try.prog) wx 25 43 iE 3 Try.underlying25 hiE hsE a2 n2 d2 kb hkbn ((HS.out.now).2.2.2.2.1.re.some_ (by have := hkbn; omega))
          rw [hpl] at hix
          have HIf := Lib.hid hix
          clear hix hpl
          rw [hxb] at e0
          replace HS := Lib.hid ((Ev.cell e0).and HS.out)
          clear e0
          rw [hyb] at e1
          replace HS := Lib.hid ((Ev.cell e1).and HS.out)
          clear e1
          rw [hzb] at e2
          replace HS := Lib.hid ((Ev.cell e2).and HS.out)
          clear e2
          have Hzb := Lib.hid hzb
          clear hxb hyb hzb
          obtain ⟨hs, hhs⟩ : ∃ n, wq.heap.size = n := ⟨_, rfl⟩
          have HHS : Hid ((World.drew wq).heap.size = hs) := Lib.hid hhs
          clear hhs
          have zc0 := z0
          clear zc0
          have hbbx := (HS.out.now).2.2.2.2.2.2.1
          have qbx_0 := hbbx.cell 0 rfl
          have qbx_1 := hbbx.cell 1 rfl
          have qbx_2 := hbbx.cell 2 rfl
          have lbx := hbbx.lt
          clear hbbx
          clear qbx_0 qbx_1 qbx_2 lbx
          go_upto_region 9 with fail
          have HSd := Lib.hid HS.out.drew
          have HST : ∀ (ix : Nat) (vx : Value) (wx wy : World), factOf (ra_r9_0_F B0 hs bx eb eo fb fo j k kb ln cn cv n1 d1 n2 d2 n3 d3 zb a1 a2 a3 an av pt) ix vx wx → Mod (fun _ => False) wx wy → factOf (ra_r9_0_F B0 hs bx eb eo fb fo j k kb ln cn cv n1 d1 n2 d2 n3 d3 zb a1 a2 a3 an av pt) ix vx wy := by
            refine fact_stays ?_
            intro f hf
            simp only [ra_r9_0_F, List.mem_cons, List.not_mem_nil, or_false] at hf
            rcases hf with rfl | rfl | rfl | rfl | rfl | rfl | rfl | rfl | rfl | rfl | rfl | rfl | rfl | rfl | rfl | rfl | rfl | rfl <;> first | exact stable_val _ | exact stable_new | exact LitA.st | exact APush.st
          have HSO : ∀ px ∈ (ra_r9_0_F B0 hs bx eb eo fb fo j k kb ln cn cv n1 d1 n2 d2 n3 d3 zb a1 a2 a3 an av pt), px.1 = true → ∀ (vx : Value) (wx wy : World), px.2 vx wx → px.2 vx wy := by
            intro f hf
            simp only [ra_r9_0_F, List.mem_cons, List.not_mem_nil, or_false] at hf
            rcases hf with rfl | rfl | rfl | rfl | rfl | rfl | rfl | rfl | rfl | rfl | rfl | rfl | rfl | rfl | rfl | rfl | rfl | rfl <;> first | exact fun _ _ _ _ h => h | (intro h; cases h)
          refine wp_region_mut (Mod (fun q => (Value.slice av pt.length cv).ownBlock = some q)) (factOf (ra_r9_0_F B0 hs bx eb eo fb fo j k kb ln cn cv n1 d1 n2 d2 n3 d3 zb a1 a2 a3 an av pt)) (fun i => ra_r9_0_C.getD i 1000) (Mod (fun _ => False) (World.drew wq)) 17 (fun i => ra_r9_0_D.getD i []) 18 _ rfl rfl (by kernel_rfl) (by kernel_rfl) (by kernel_rfl) (by kernel_rfl) (by kernel_rfl) (fun _ => Mod.refl _ _)
            (fun _ _ _ h k => h.trans k (fun _ _ e => e) (fun _ _ e => e)) (Mod.refl _ _) ?_ ?_
          · refine opsOkM_cons ?_ ?_
            · intro K vs W hR hD hI hL hK
              clear hD
              have dqL : vs 18 = .slice av pt.length cv := hL
              clear hL
              replace hI := hI (.inr (by kernel_rfl))
              simp only [putAll, Nat.zero_add, Nat.reduceAdd, Act.put, List.setIfInBounds_toArray, List.set_cons_succ, List.set_cons_zero] at hK ⊢
              generalize vs 18 = vqL at hK dqL ⊢
              subst vqL
              go_wp2
              exact hK _ _ rfl (fun _ _ _ h => h) (fun _ _ h => h) (Mod.refl _ _)
            refine opsOkM_cons ?_ ?_
            · intro K vs W hR hD hI hL hK
              clear hD
              clear hL
              replace hI := hI (.inr (by kernel_rfl))
              simp only [putAll, Nat.zero_add, Nat.reduceAdd, Act.put, List.setIfInBounds_toArray, List.set_cons_succ, List.set_cons_zero] at hK ⊢
              go_wp2
              exact hK _ _ rfl (fun _ _ _ h => h) (fun _ _ h => h) (Mod.refl _ _)
            refine opsOkM_cons ?_ ?_
            · intro K vs W hR hD hI hL hK
              clear hD
              clear hL
              replace hI := hI (.inr (by kernel_rfl))
              simp only [putAll, Nat.zero_add, Nat.reduceAdd, Act.put, List.setIfInBounds_toArray, List.set_cons_succ, List.set_cons_zero] at hK ⊢
              go_wp2
              exact hK _ _ rfl (fun _ _ _ h => h) (fun _ _ h => h) (Mod.refl _ _)
            refine opsOkM_cons ?_ ?_
            · intro K vs W hR hD hI hL hK
              clear hD
              clear hL
              replace hI := hI (.inr (by kernel_rfl))
              simp only [putAll, Nat.zero_add, Nat.reduceAdd, Act.put, List.setIfInBounds_toArray, List.set_cons_succ, List.set_cons_zero] at hK ⊢
              go_wp2
              exact hK _ _ rfl (fun _ _ _ h => h) (fun _ _ h => h) (Mod.refl _ _)
            refine opsOkM_cons ?_ ?_
            · intro K vs W hR hD hI hL hK
              have dq2 : vs 2 = .slice an ln cn := hD 2 (by decide)
              have dq3 : vs 3 = .int .i64 (k : Int) := hD 3 (by decide)
              clear hD
              clear hL
              replace hI := hI (.inr (by kernel_rfl))
              simp only [putAll, Nat.zero_add, Nat.reduceAdd, Act.put, List.setIfInBounds_toArray, List.set_cons_succ, List.set_cons_zero] at hK ⊢
              generalize vs 2 = vq2 at hK dq2 ⊢
              subst vq2
              generalize vs 3 = vq3 at hK dq3 ⊢
              subst vq3
              have hix := HIe.out
              go_wp2_with fail
              exact hK _ _ rfl (fun _ _ _ h => h) (fun _ _ h => h) (Mod.refl _ _)
            refine opsOkM_cons ?_ ?_
            · intro K vs W hR hD hI hL hK
              have dq4 : vs 4 = .pointer (some ⟨eb, eo, none⟩) := hD 4 (by decide)
              clear hD
              clear hL
              replace hI := hI (.inr (by kernel_rfl))
              simp only [putAll, Nat.zero_add, Nat.reduceAdd, Act.put, List.setIfInBounds_toArray, List.set_cons_succ, List.set_cons_zero] at hK ⊢
              generalize vs 4 = vq4 at hK dq4 ⊢
              subst vq4
              have c0 := (HSd.out.at (hI)).2.2.2.1
              go_wp2
              exact hK _ _ rfl (fun _ _ _ h => h) (fun _ _ h => h) (Mod.refl _ _)
            refine opsOkM_cons ?_ ?_
            · intro K vs W hR hD hI hL hK
              clear hD
              clear hL
              replace hI := hI (.inr (by kernel_rfl))
              simp only [putAll, Nat.zero_add, Nat.reduceAdd, Act.put, List.setIfInBounds_toArray, List.set_cons_succ, List.set_cons_zero] at hK ⊢
              go_wp2
              exact hK _ _ rfl (fun _ _ _ h => h) (fun _ _ h => h) (Mod.refl _ _)
            refine opsOkM_cons ?_ ?_
            · intro K vs W hR hD hI hL hK
              have dq6 : vs 6 = .pointer (some ⟨bx, 1, none⟩) := hD 6 (by decide)
              clear hD
              clear hL
              replace hI := hI (.inr (by kernel_rfl))
              simp only [putAll, Nat.zero_add, Nat.reduceAdd, Act.put, List.setIfInBounds_toArray, List.set_cons_succ, List.set_cons_zero] at hK ⊢
              generalize vs 6 = vq6 at hK dq6 ⊢
              subst vq6
              have q0 := ((HSd.out.at (hI)).2.2.2.2.2.2.1).cell 1 rfl
              go_wp2
              exact hK _ _ rfl (fun _ _ _ h => h) (fun _ _ h => h) (Mod.refl _ _)
            refine opsOkM_cons ?_ ?_
            · intro K vs W hR hD hI hL hK
              clear hD
              clear hL
              replace hI := hI (.inr (by kernel_rfl))
              simp only [putAll, Nat.zero_add, Nat.reduceAdd, Act.put, List.setIfInBounds_toArray, List.set_cons_succ, List.set_cons_zero] at hK ⊢
              go_wp2
              exact hK _ _ rfl (fun _ _ _ h => h) (fun _ _ h => h) (Mod.refl _ _)
            refine opsOkM_cons ?_ ?_
            · intro K vs W hR hD hI hL hK
              clear hD
              clear hL
              replace hI := hI (.inr (by kernel_rfl))
              simp only [putAll, Nat.zero_add, Nat.reduceAdd, Act.put, List.setIfInBounds_toArray, List.set_cons_succ, List.set_cons_zero] at hK ⊢
              go_wp2
              exact hK _ _ rfl (fun _ _ _ h => h) (fun _ _ h => h) (Mod.refl _ _)
            refine opsOkM_cons ?_ ?_
            · intro K vs W hR hD hI hL hK
              have dq8 : vs 8 = .slice an ln cn := hD 8 (by decide)
              have dq9 : vs 9 = .int .i64 (k : Int) := hD 9 (by decide)
              clear hD
              clear hL
              replace hI := hI (.inr (by kernel_rfl))
              simp only [putAll, Nat.zero_add, Nat.reduceAdd, Act.put, List.setIfInBounds_toArray, List.set_cons_succ, List.set_cons_zero] at hK ⊢
              generalize vs 8 = vq8 at hK dq8 ⊢
              subst vq8
              generalize vs 9 = vq9 at hK dq9 ⊢
              subst vq9
              have hix := HIe.out
              go_wp2_with fail
              exact hK _ _ rfl (fun _ _ _ h => h) (fun _ _ h => h) (Mod.refl _ _)
            refine opsOkM_cons ?_ ?_
            · intro K vs W hR hD hI hL hK
              have dq10 : vs 10 = .pointer (some ⟨eb, eo, none⟩) := hD 10 (by decide)
              clear hD
              clear hL
              replace hI := hI (.inr (by kernel_rfl))
              simp only [putAll, Nat.zero_add, Nat.reduceAdd, Act.put, List.setIfInBounds_toArray, List.set_cons_succ, List.set_cons_zero] at hK ⊢
              generalize vs 10 = vq10 at hK dq10 ⊢
              subst vq10
              have c0 := (HSd.out.at (hI)).2.2.2.1
              go_wp2
              exact hK _ _ rfl (fun _ _ _ h => h) (fun _ _ h => h) (Mod.refl _ _)
            refine opsOkM_cons ?_ ?_
            · intro K vs W hR hD hI hL hK
              have dq7 : vs 7 = .slice a2 n2 d2 := hD 7 (by decide)
              have dq11 : vs 11 = .int .i64 (kb : Int) := hD 11 (by decide)
              clear hD
              clear hL
              replace hI := hI (.inr (by kernel_rfl))
              simp only [putAll, Nat.zero_add, Nat.reduceAdd, Act.put, List.setIfInBounds_toArray, List.set_cons_succ, List.set_cons_zero] at hK ⊢
              generalize vs 7 = vq7 at hK dq7 ⊢
              subst vq7
              generalize vs 11 = vq11 at hK dq11 ⊢
              subst vq11
              have hix := HIf.out
              go_wp2_with fail
              exact hK _ _ rfl (fun _ _ _ h => h) (fun _ _ h => h) (Mod.refl _ _)
            refine opsOkM_cons ?_ ?_
            · intro K vs W hR hD hI hL hK
              have dq12 : vs 12 = .pointer (some ⟨fb, fo, none⟩) := hD 12 (by decide)
              clear hD
              clear hL
              replace hI := hI (.inr (by kernel_rfl))
              simp only [putAll, Nat.zero_add, Nat.reduceAdd, Act.put, List.setIfInBounds_toArray, List.set_cons_succ, List.set_cons_zero] at hK ⊢
              generalize vs 12 = vq12 at hK dq12 ⊢
              subst vq12
              go_wp2
              exact hK _ _ rfl (fun _ _ _ h => h) (fun _ _ h => h) (Mod.refl _ _)
            refine opsOkM_cons ?_ ?_
            · intro K vs W hR hD hI hL hK
              have dq13 : vs 13 = .pointer (some ⟨fb, fo + 2, none⟩) := hD 13 (by decide)
              clear hD
              clear hL
              replace hI := hI (.inr (by kernel_rfl))
              simp only [putAll, Nat.zero_add, Nat.reduceAdd, Act.put, List.setIfInBounds_toArray, List.set_cons_succ, List.set_cons_zero] at hK ⊢
              generalize vs 13 = vq13 at hK dq13 ⊢
              subst vq13
              have c0 := (HSd.out.at (hI)).1
              go_wp2
              exact hK _ _ rfl (fun _ _ _ h => h) (fun _ _ h => h) (Mod.refl _ _)
            refine opsOkM_cons ?_ ?_
            · intro K vs W hR hD hI hL hK
              have dq1 : vs 1 = .int .i64 (j : Int) := hD 1 (by decide)
              have dq5 : vs 5 = .int .i64 (kb : Int) := hD 5 (by decide)
              have dq14 : vs 14 = .int .i64 zb := hD 14 (by decide)
              clear hD
              clear hL
              replace hI := hI (.inr (by kernel_rfl))
              simp only [putAll, Nat.zero_add, Nat.reduceAdd, Act.put, List.setIfInBounds_toArray, List.set_cons_succ, List.set_cons_zero] at hK ⊢
              generalize vs 1 = vq1 at hK dq1 ⊢
              subst vq1
              generalize vs 5 = vq5 at hK dq5 ⊢
              subst vq5
              generalize vs 14 = vq14 at hK dq14 ⊢
              subst vq14
              go_wp2
              exact hK _ _ rfl (fun _ _ _ h => h) (fun _ _ h => h) (Mod.refl _ _)
            refine opsOkM_cons ?_ ?_
            · intro K vs W hR hD hI hL hK
              have dq15 : vs 15 = .agg #[.int .i64 (j : Int), .int .i64 (kb : Int), .int .i64 zb, .int .i64 (-1)] := hD 15 (by decide)
              clear hD
              clear hL
              replace hI := hI (.inr (by kernel_rfl))
              simp only [putAll, Nat.zero_add, Nat.reduceAdd, Act.put, List.setIfInBounds_toArray, List.set_cons_succ, List.set_cons_zero] at hK ⊢
              generalize vs 15 = vq15 at hK dq15 ⊢
              subst vq15
              go_wp2
              exact hK _ _ ⟨_, rfl, by exact Rd.litN _ 4 _ _ _ 1 rfl rfl (by decide)⟩ (fun j u _ h => HST j u _ _ h (Mod.alloc _ _ _)) (fun _ _ h => h.of2 (Mod.alloc _ _ _)) (Mod.alloc _ _ _)
            refine opsOkM_cons ?_ ?_
            · intro K vs W hR hD hI hL hK
              have dq0 : vs 0 = .slice av pt.length cv := hD 0 (by decide)
              have dq16 : (LitA ((j : Int), (kb : Int), zb, (-1 : Int))) (vs 16) W := hD 16 (by decide)
              clear hD
              clear hL
              replace hI := hI (.inl rfl)
              simp only [putAll, Nat.zero_add, Nat.reduceAdd, Act.put, List.setIfInBounds_toArray, List.set_cons_succ, List.set_cons_zero] at hK ⊢
              generalize vs 0 = vq0 at hK dq0 ⊢
              subst vq0
              generalize vs 16 = vq16 at hK dq16 ⊢
              obtain ⟨pl, rfl, hl⟩ := dq16
              have hoW := HO3.out.keep ((Mod.drew (fun _ => False) _).of2 hI)
              have hzW : hs ≤ W.heap.size := by rw [← HHS.out]; exact hI.size
              have hzB : B0 ≤ W.heap.size := by have h1 := ((HSd.out.at (hI)).2.2.2.2.2.1).size; have h2 := HB0.out; omega
              go_wp2_with (at_builtin; refine wpList_append_any rfl (.tmp 23) (.tmp 39) 69 rfl 72 iA (.agg #[.int .i64 0, .int .i64 0, .int .i64 0, .int .i64 0]) 4 32 Try.underlying69 hiA hzA hsA hbA rfl (by decide) _ pt.length (pt.flatMap c4) rfl (Own.base hoW (Nat.zero_le _)) _ 1 (c4 ((j : Int), (kb : Int), zb, (-1 : Int))) rfl hl (one4 _) (by unfold maxLen; omega) (by omega) ?_; intro v' w' hap)
              exact hK _ _ ⟨AOwn.push hoW hzB hap, fun q hq => (hap.row q hq).imp id (fun h => Nat.le_trans hzW h)⟩ (fact_solid HSO 17 (by kernel_rfl)) (fun h _ => absurd rfl h) hap.mod
            exact opsOkM_nil
          · intro vs wq3 hR hF
            have dq17 : (APush B0 hs (Value.slice av pt.length cv) (pt ++ [((j : Int), (kb : Int), zb, (-1 : Int))])) (vs 17) wq3 := hF 17 (by decide) (by decide)
            clear hF
            simp only [putAll, Nat.zero_add, Nat.reduceAdd, Act.put, List.setIfInBounds_toArray, List.set_cons_succ, List.set_cons_zero]
            generalize vs 17 = vq17 at dq17 ⊢
            obtain ⟨hpush, hrow⟩ := dq17
            have hrx := ((HS.out.now).2.2.2.2.1)
            have HM6 := Lib.hid (((HS.out.now).2.2.2.2.2.1).old ((Mod.drew (fun q => (Value.slice av pt.length cv).ownBlock = some q) _).trans hR (fun _ _ e => e) (fun _ _ e => e)) (fun q hq => by rw [HB0.out]; exact (HO3.out.lt q hq).1))
            have HR6 := Lib.hid (Rd.keep hrx ((Mod.drew (fun q => (Value.slice av pt.length cv).ownBlock = some q) _).trans hR (H := fun q => (Value.slice av pt.length cv).ownBlock = some q) (fun _ _ e => e) (fun _ _ e => e)) (fun q hq e => HNE.out q e hq))
            have hlt8 : ∀ q, (Value.slice an ln cn).ownBlock = some q → q < wq.heap.size := fun q h2 => by
              rcases Nat.lt_or_ge q wq.heap.size with h | h
              · exact h
              · have h5 := hrx.lt h2 h
                have h6 := congrArg List.length h5
                rw [List.length_map, HLN.out] at h6
                simp only [List.length_nil] at h6
                omega
            have HNE6 : Hid (∀ q, vq17.ownBlock = some q → (Value.slice an ln cn).ownBlock ≠ some q) := Lib.hid (fun q h1 h2 => by
              rcases hrow q h1 with h3 | h3
              · exact HNE.out q h3 h2
              · have h7 := hlt8 q h2; have h9 : wq.heap.size = hs := HHS.out; omega)
            have HP6 := Lib.hid hpush
            clear hrx hlt8 hpush hrow
            go_wp2_with fail
            go_roundw
            case rel =>
              refine ⟨k + 1, hlk, by go_num, HM6.out, ?_, HR6.out, HNE6.out⟩
              rw [arcsOf_take G (j : Int) k hkl, ← List.append_assoc, HPT.out, HKB.out, show arcOf G (j : Int) (kb : Int) = ((j : Int), (kb : Int), zb, -1) by unfold arcOf; rw [eAt_eq G kb hkbe, Hzb.out]]; exact HP6.out
            case measure => simp [intOf]; omega
        case neg =>
          obtain rfl : k = ln := by omega
          have z1 : decide ((k : Int) < (k : Int)) = false := by simp
          go_wp2_with fail
          go_roundw
          case rel => exact ⟨j + 1, hlt, by go_num, (HS.out.now).2.1, by rw [arcsTo_succ, ← arcsOf_all G (j : Int) k HLN.out.symm, HPT.out]; exact HO3.out⟩
          case measure => simp [intOf]; omega
    case neg =>
      obtain rfl : j = n2 := by omega
      have z0 : decide ((j : Int) < (j : Int)) = false := by simp
      obtain ⟨av, cv, rfl⟩ := own_form HO.out
      go_wp2_with fail
      go_ret
      refine ⟨_, rfl, ⟨⟨av, cv, ?_, ?_⟩, ?_⟩, (HS.out.now).2.2.2⟩
      · show Value.slice av (arcsTo G j).length cv = _; unfold arcsR; rw [he.out]; rfl
      · unfold arcsR; rw [he.out]; exact Rd.ofOwn HO.out
      · unfold arcsR; rw [he.out]; exact Own.base HO.out (by have h1 := HB0.out; have h2 := HWZ.out; omega)
theorem r4arcs_any (G : GD) (w : World) (a1 : Option Addr) (n1 d1 : Nat) (a2 : Option Addr) (n2 d2 : Nat) (a3 : Option Addr) (n3 d3 : Nat) (h : GV w a1 n1 d1 a2 n2 d2 a3 n3 d3 G) (q2 : n2 ≤ 512) (q3 : n3 ≤ 100000) :
    Calls Try.prog 32 #[.agg #[.slice a1 n1 d1, .slice a2 n2 d2, .slice a3 n3 d3]] w fun e w' => ∃ v, e = .returned v ∧ ARow (arcsR G) v w' ∧ Mod (fun _ => False) w w' :=
  (r4arcs_new G w a1 n1 d1 a2 n2 d2 a3 n3 d3 h q2 q3).mono fun _ _ ⟨v, h1, h2, h3⟩ => ⟨v, h1, h2.1, h3⟩
end Go.Proofs.Ytbjdjafkpldbnaa
