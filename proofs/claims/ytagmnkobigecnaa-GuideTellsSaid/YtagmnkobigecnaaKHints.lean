/- The reference's Hint by contract. -/
import Derived.Test.YtagmnkobigecnaaKGuide
import Derived.Test.YtagmnkobigecnaaKRB
import Derived.Test.YtagmnkobigecnaaRNext
import Derived.Test.YtagmnkobigecnaaRWalkA
import Derived.Test.YtagmnkobigecnaaKReg
import Derived.Test.YtagmnkobigecnaaKStroll
import Derived.Deep.DeepCutAuto
import Derived.Deep.CutBlock
namespace Go.Proofs.Ytagmnkobigecnaa
open Go.RowKit Mile
set_option maxRecDepth 100000
theorem allE_of (G : GD) (xs : List Int) (h : allE G xs = true) (k : Nat) (hk : k < xs.length) : edB G xs[k] = true := List.all_eq_true.1 h _ (List.getElem_mem hk)
/-- A cell that has come to stand as it is to. -/
def PlH (b : Nat) (tgt : List Value) (k : Nat) : Value → World → Prop := fun _ W => Room W b 56 k ∧ ∃ u, tgt[k]? = some u ∧ W.cell? ⟨b, k, none⟩ = some u
theorem PlH.st {b : Nat} {tgt : List Value} {k : Nat} : Stable (Tow b 56 tgt) (PlH b tgt k) := fun _ _ _ ⟨r, u, hu, hc⟩ m => ⟨m.shp r, u, hu, m.there r hu hc⟩
theorem plH_set {b : Nat} {tgt : List Value} {k : Nat} {W : World} {u : Value} (r : Room W b 56 k) (hu : tgt[k]? = some u) : PlH b tgt k undef (W.setCell ⟨b, k, none⟩ u) ∧ Tow b 56 tgt W (W.setCell ⟨b, k, none⟩ u) := by
  have t : Tow b 56 tgt W (W.setCell ⟨b, k, none⟩ u) := Tow.set k u hu
  refine ⟨⟨t.shp r, u, hu, ?_⟩, t⟩
  obtain ⟨cur, hc, hk⟩ := r
  rw [cell_of_row _ b k _ _ (0, 0) (heap_setCell_same W b k cur _ u hc)]; simp [hk]
/-- What each operation of the statement leaves. -/
def rh_r9_0_F (a : Option Addr) (n : Nat) (c : Nat) (k : Nat) (bk : Nat) (f0 : Int) (x : Int) (k2 : Int) (tgt : List Value) (a1 : Option Addr) (a2 : Option Addr) (a3 : Option Addr) (n1 : Nat) (d1 : Nat) (n2 : Nat) (d2 : Nat) (n3 : Nat) (d3 : Nat) (eb : Nat) (eo : Nat) : List (Value → World → Prop) :=
  [IsV (.agg #[.slice a1 n1 d1, .slice a2 n2 d2, .slice a3 n3 d3]),
   IsV (.int .i64 f0),
   IsV (.slice a n c),
   IsV (.int .i64 (k : Int)),
   IsV (.pointer (some ⟨eb, eo, none⟩)),
   IsV (.int .i64 x),
   IsV (.int .i64 k2),
   IsV (.slice a n c),
   IsV (.int .i64 (k : Int)),
   IsV (.pointer (some ⟨eb, eo, none⟩)),
   IsV (.int .i64 x),
   IsV (.pointer (some ⟨bk, 0, none⟩)),
   (PlH bk tgt 0),
   IsV (.pointer (some ⟨bk, 1, none⟩)),
   (PlH bk tgt 1)]
def rh_r9_0_D : List (List Nat) := [[], [], [], [], [2, 3], [4], [0, 1, 5], [], [], [7, 8], [9], [], [6, 11], [], [10, 13]]

/-- What each operation of the statement leaves. -/
def rh_r12_1_F (xe : Nat) (bk : Nat) (far : Int) (z0v : Int) (a2 : Option Addr) (n2 : Nat) (d2 : Nat) (bx : Nat) (gb : Nat) (go : Nat) : List FactP :=
  [(true, fun _ => IsV (.pointer (some ⟨bk, 2, none⟩))),
   (true, fun _ => IsV (.int .i64 far)),
   (true, fun _ => IsV (.pointer (some ⟨bx, 1, none⟩))),
   (true, fun _ => IsV (.slice a2 n2 d2)),
   (true, fun _ => IsV (.int .i64 (xe : Int))),
   (true, fun _ => IsV (.pointer (some ⟨gb, go, none⟩))),
   (true, fun _ => IsV (.pointer (some ⟨gb, go + 2, none⟩))),
   (true, fun _ => IsV (.int .i64 z0v)),
   (true, fun _ => IsV (.int .i64 (far + z0v))),
   (true, fun _ => IsV (.pointer (some ⟨bk, 2, none⟩)))]
def rh_r12_1_D : List (List Nat) := [[], [0], [], [2], [], [3, 4], [5], [6], [1, 7], []]
def rh_r12_1_C : List Nat := [1000, 1000, 1000, 1000, 1000, 1000, 1000, 1000, 1000, 1000]

set_option maxHeartbeats 64000000 in
theorem r4hint_any (G : GD) (hmay : May G) (w : World) (a1 : Option Addr) (n1 d1 : Nat) (a2 : Option Addr) (n2 d2 : Nat) (a3 : Option Addr) (n3 d3 : Nat) (h : GV w a1 n1 d1 a2 n2 d2 a3 n3 d3 G) (q1 : n1 ≤ 100000) (q2 : n2 ≤ 100000) (q3 : n3 ≤ 100000) (f : Int) (a : Option Addr) (n c : Nat) (xs : List Int) (hn : xs.length = n) (hr : Rd w 1 (.slice a n c) n (xs.map (Value.int .i64))) (hb : n ≤ 100000) :
    Calls Try.prog 30 #[.agg #[.slice a1 n1 d1, .slice a2 n2 d2, .slice a3 n3 d3], .int .i64 f, .slice a n c] w fun e w' => e = .returned (.tuple #[hintV (if validB G f xs = true then (nextL G (wtN G xs) f xs 0 0).1 else (0, 0, 0, 0)), .bool (validB G f xs)]) ∧ Mod (fun _ => False) w w' := by
  obtain ⟨iI, hiI, hzI, hsI, hbI⟩ := info_parts GR.infoI
  obtain ⟨iE, hiE, hzE, hsE, hbE⟩ := info_parts GR.infoE
  have HN := Lib.hid hn
  have HMAY := Lib.hid hmay
  have he := Lib.hid h.e
  clear hn hmay
  have HS : Hid (Ev (Mod (fun _ => False) w) w) := Lib.hid (Ev.mod w)
  replace HS := Lib.hid ((Ev.gv h).and HS.out)
  replace HS := Lib.hid ((Ev.rd hr).and HS.out)
  clear h hr
  obtain ⟨vb, hvb⟩ : ∃ b, validB G f xs = b := ⟨_, rfl⟩
  rw [hvb]
  have HVB := Lib.hid hvb
  clear hvb
  obtain ⟨W0, hW0⟩ : ∃ x, wtN G xs = x := ⟨_, rfl⟩
  rw [hW0]
  have HW0 := Lib.hid hW0
  clear hW0
  go_enter Try.func30, Try.ntmps30
  go_upto_region 1 with fail
  obtain ⟨bx, hbx⟩ : ∃ b, w.heap.size = b := ⟨_, rfl⟩
  obtain ⟨wq1, hwq1⟩ : ∃ W, World.alloc w (.cells #[.slice a1 n1 d1, .slice a2 n2 d2, .slice a3 n3 d3] 28) = W := ⟨_, rfl⟩
  have hBbx : Blk wq1 bx 28 [.slice a1 n1 d1, .slice a2 n2 d2, .slice a3 n3 d3] := by rw [← hwq1, ← hbx]; exact Blk.new _ 28 [.slice a1 n1 d1, .slice a2 n2 d2, .slice a3 n3 d3]
  have hzbx : wq1.heap.size = bx + 1 := by rw [← hwq1, ← hbx]; exact heap_size_alloc _ _
  replace HS := Lib.hid (HS.out.step (w' := wq1) (by rw [← hwq1]; exact Mod.alloc _ _ _))
  replace HS := Lib.hid ((Ev.blk hBbx).and HS.out)
  obtain ⟨br, hbr⟩ : ∃ b, bx + 1 = b := ⟨_, rfl⟩
  obtain ⟨wq2, hwq2⟩ : ∃ W, World.alloc wq1 (.cells #[.int .i64 0, .int .i64 0, .int .i64 0, .int .i64 0] 56) = W := ⟨_, rfl⟩
  have hBbr : Blk wq2 br 56 [.int .i64 0, .int .i64 0, .int .i64 0, .int .i64 0] := by rw [← hwq2, ← hbr, ← hzbx]; exact Blk.new _ 56 [.int .i64 0, .int .i64 0, .int .i64 0, .int .i64 0]
  have hzbr : wq2.heap.size = br + 1 := by rw [← hwq2, ← hbr, ← hzbx]; exact heap_size_alloc _ _
  replace HS := Lib.hid (HS.out.step (w' := wq2) (by rw [← hwq2]; exact Mod.alloc _ _ _))
  replace HS := Lib.hid ((Ev.blk hBbr).and HS.out)
  have lbz : w.heap.size ≤ br := by omega
  try rw [hwq1]
  try rw [hbx]
  try rw [hwq2]
  try rw [hbr]
  clear hzbr hBbr hbr hwq2 hzbx hBbx hbx hwq1
  have hbbx := (HS.out.now).2.1
  have qbx_0 := hbbx.cell 0 rfl
  have qbx_1 := hbbx.cell 1 rfl
  have qbx_2 := hbbx.cell 2 rfl
  have lbx := hbbx.lt
  clear hbbx
  have LBZ := Lib.hid lbz
  clear lbz
  go_wp2_with fail
  refine (r4walk_any G _ a1 n1 d1 a2 n2 d2 a3 n3 d3 ((HS.out.now).2.2.2.1) q2 q3 f a n c xs HN.out ((HS.out.now).2.2.1) hb).mono ?_
  rintro e wq3 ⟨rfl, hmm⟩
  replace HS := Lib.hid (HS.out.step hmm)
  clear hmm
  clear qbx_0 qbx_1 qbx_2 lbx
  have hbbx := (HS.out.now).2.1
  have qbx_0 := hbbx.cell 0 rfl
  have qbx_1 := hbbx.cell 1 rfl
  have qbx_2 := hbbx.cell 2 rfl
  have lbx := hbbx.lt
  clear hbbx
  rw [HVB.out]
  cases vb with
  | false =>
    have hB := (HS.out.now).1
    have qbr0 := hB.cell 0 rfl
    have qbr1 := hB.cell 1 rfl
    have qbr2 := hB.cell 2 rfl
    have qbr3 := hB.cell 3 rfl
    have fbr0 := hB.free 0
    have fbr1 := hB.free 1
    have fbr2 := hB.free 2
    have fbr3 := hB.free 3
    have lbr := hB.lt
    clear hB
    go_wp2_with fail
    have b2 := ((((((HS.out.now).1).set 0 (.int .i64 0)).set 1 (.int .i64 0)).set 2 (.int .i64 0)).set 3 (.int .i64 0))
    have hm2 := ((((Mod.refl (fun k => k = br) wq3).ofFx (Mod.setCell (F := fun k => k = br) _ ⟨br, 0, none⟩ (.int .i64 0) rfl)).ofFx (Mod.setCell (F := fun k => k = br) _ ⟨br, 1, none⟩ (.int .i64 0) rfl)).ofFx (Mod.setCell (F := fun k => k = br) _ ⟨br, 2, none⟩ (.int .i64 0) rfl)).ofFx (Mod.setCell (F := fun k => k = br) _ ⟨br, 3, none⟩ (.int .i64 0) rfl)
    (try simp only [Exit.inBlock, Exit.then])
    refine bodyPost_ret (results_row_tmp rfl _ _ br 56 #[.int .i64 0, .int .i64 0, .int .i64 0, .int .i64 0] (0, 0) _ rfl b2 Try.underlying56 rfl (by kernel_rfl)) rfl ?_
    exact ⟨rfl, ((HS.out.now).2.2.2.2).old hm2 (fun i hi => by subst hi; exact LBZ.out)⟩
  | true =>
    have hal : allE G xs = true := wlk_all G f xs (by have h := HVB.out; unfold validB at h; rw [Bool.and_eq_true] at h; exact h.2)
    have HAL := Lib.hid hal
    have hwb := wE_le G HMAY.out xs
    have hwt : wE G xs = W0 := by rw [wE_all G xs hal, ← HW0.out]; unfold wtN; rw [if_pos hal]
    rw [hwt, HN.out] at hwb
    have hw1 := hwb.1
    have hw2 : W0 ≤ 6553500000 := by have := hwb.2; omega
    clear hwt hwb hal
    replace HS := Lib.hid ((Ev.mod wq3).and HS.out)
    have HSW := HS
    go_upto_region 4 with fail
    obtain ⟨bk, hbk⟩ : ∃ b, wq3.heap.size = b := ⟨_, rfl⟩
    obtain ⟨wq4, hwq4⟩ : ∃ W, World.alloc wq3 (.cells #[.int .i64 0, .int .i64 0, .int .i64 0, .int .i64 0] 56) = W := ⟨_, rfl⟩
    have hBbk : Blk wq4 bk 56 [.int .i64 0, .int .i64 0, .int .i64 0, .int .i64 0] := by rw [← hwq4, ← hbk]; exact Blk.new _ 56 [.int .i64 0, .int .i64 0, .int .i64 0, .int .i64 0]
    have hzbk : wq4.heap.size = bk + 1 := by rw [← hwq4, ← hbk]; exact heap_size_alloc _ _
    replace HS := Lib.hid (HS.out.step (w' := wq4) (by rw [← hwq4]; exact Mod.alloc _ _ _))
    replace HS := Lib.hid ((Ev.blk hBbk).and HS.out)
    have HBB : Hid (wq3.heap.size ≤ bk) := Lib.hid (by omega)
    try rw [hwq4]
    try rw [hbk]
    clear hzbk hBbk hbk hwq4
    clear qbx_0 qbx_1 qbx_2 lbx
    have hbbx := (HS.out.now).2.2.2.1
    have qbx_0 := hbbx.cell 0 rfl
    have qbx_1 := hbbx.cell 1 rfl
    have qbx_2 := hbbx.cell 2 rfl
    have lbx := hbbx.lt
    clear hbbx
    go_wp2_with fail
    refine (r4weight_any G HMAY.out _ a1 n1 d1 a2 n2 d2 a3 n3 d3 ((HS.out.now).2.2.2.2.2.1) q2 q3 a n c xs HN.out ((HS.out.now).2.2.2.2.1) hb).mono ?_
    rintro e wq5 ⟨rfl, hmm⟩
    replace HS := Lib.hid (HS.out.step hmm)
    clear hmm
    clear qbx_0 qbx_1 qbx_2 lbx
    have hbbx := (HS.out.now).2.2.2.1
    have qbx_0 := hbbx.cell 0 rfl
    have qbx_1 := hbbx.cell 1 rfl
    have qbx_2 := hbbx.cell 2 rfl
    have lbx := hbbx.lt
    clear hbbx
    rw [HW0.out, HAL.out]
    have hB := (HS.out.now).1
    have qbk0 := hB.cell 0 rfl
    have qbk1 := hB.cell 1 rfl
    have qbk2 := hB.cell 2 rfl
    have qbk3 := hB.cell 3 rfl
    have fbk0 := hB.free 0
    have fbk1 := hB.free 1
    have fbk2 := hB.free 2
    have fbk3 := hB.free 3
    have lbk := hB.lt
    clear hB
    go_upto_region 5 with fail
    obtain ⟨we, hwe⟩ : ∃ x : World, World.setCell wq5 ⟨bk, 3, none⟩ (.int .i64 W0) = x := ⟨_, rfl⟩
    rw [hwe]
    have hbe : Blk we bk 56 [.int .i64 0, .int .i64 0, .int .i64 0, .int .i64 W0] := by rw [← hwe]; exact ((HS.out.now).1).set 3 _
    have hme : Mod (fun _ => False) wq3 we := by rw [← hwe]; exact ((HS.out.now).2.1).old (Mod.setCell (F := fun k => k = bk) _ ⟨bk, 3, none⟩ _ rfl) (fun i hi => by rw [hi]; exact HBB.out)
    clear qbx_0 qbx_1 qbx_2 lbx
    clear hwe qbk0 fbk0 qbk1 fbk1 qbk2 fbk2 qbk3 fbk3 lbk
    replace HS := HSW
    clear HSW
    go_wp2_with fail
    go_loopw [1, 9] (fun fv i wr => ∃ (k : Nat) (f0 far : Int), k ≤ n ∧ i = .int .i64 k ∧ fv = .int .i64 f0 ∧ nextL G W0 f xs 0 0 = nextL G W0 f0 (xs.drop k) far k ∧ (0 ≤ far ∧ far ≤ 65535 * (k : Int)) ∧ Blk wr bk 56 [.int .i64 0, .int .i64 0, .int .i64 far, .int .i64 W0] ∧ Mod (fun _ => False) wq3 wr) (fun _ i _ => n - (intOf i).toNat)
    case atStart => exact ⟨0, f, 0, by omega, rfl, rfl, rfl, ⟨by omega, by omega⟩, hbe, hme⟩
    case round =>
      clear hbe hme
      have HSB := HS
      obtain ⟨k, f0, far, hk, rfl, rfl, hs, hfb, hbl, hmr⟩ := hrel
      obtain ⟨wo, hwo⟩ : ∃ x : World, x = wr := ⟨_, rfl⟩
      subst hwo
      have HSUM := Lib.hid hs
      have hf1 := hfb.1
      have hf2 : far ≤ 6553500000 := by have := hfb.2; omega
      have HFB := Lib.hid hfb
      have HBL := Lib.hid hbl
      have HMR := Lib.hid hmr
      clear hs hfb hbl hmr
      by_cases hlt : k < n
      case pos =>
        have hkl : k < xs.length := by rw [HN.out]; exact hlt
        have HA := Lib.hid (nextL_at G W0 f0 xs k far hkl)
        have HO := Lib.hid (nextL_on G W0 f0 xs k far hkl)
        have HEX := Lib.hid (allE_of G xs HAL.out k hkl)
        obtain ⟨x, HX0⟩ : ∃ qz, xs[k] = qz := ⟨_, rfl⟩
        have HX := Lib.hid HX0
        clear HX0
        rw [HX.out] at HA HO HEX
        obtain ⟨eb, eo, hpl, e0⟩ := rd1 (HS.out.now).2.2.2.1 k hkl
        have hix := fun wx => run_indexS (P := Try.prog) wx 22 3 iI 1 Try.underlying22 hiI hsI a n c k hlt ((HS.out.now).2.2.2.1.some_ (by have := hlt; omega))
        rw [hpl] at hix
        have HIe := Lib.hid hix
        clear hix hpl
        rw [HX.out] at e0
        replace HS := Lib.hid ((Ev.cell e0).and HS.out)
        clear e0
        have z0 : decide ((k : Int) < (n : Int)) = true := by simp; omega
        have HSP := HS
        replace HS := Lib.hid (HS.out.step HMR.out)
        replace HS := Lib.hid ((Ev.blk HBL.out).and HS.out)
        have hbbx := (HS.out.now).2.2.2.2.1
        have qbx_0 := hbbx.cell 0 rfl
        have qbx_1 := hbbx.cell 1 rfl
        have qbx_2 := hbbx.cell 2 rfl
        have lbx := hbbx.lt
        clear hbbx
        obtain ⟨db, hdb⟩ : ∃ b, decB G f0 = b := ⟨_, rfl⟩
        have HDB := Lib.hid hdb
        clear hdb
        go_wp2_with fail
        refine (r4next_any G _ a1 n1 d1 a2 n2 d2 a3 n3 d3 ((HS.out.now).2.2.2.2.2.2.1) q2 q3 f0).mono ?_
        rintro e wq6 ⟨v', rfl, ⟨an, cn, rfl, hx'⟩, hmm⟩
        replace HS := Lib.hid (HS.out.step hmm)
        clear hmm
        clear hx'
        clear qbx_0 qbx_1 qbx_2 lbx
        have hbbx := (HS.out.now).2.2.2.2.1
        have qbx_0 := hbbx.cell 0 rfl
        have qbx_1 := hbbx.cell 1 rfl
        have qbx_2 := hbbx.cell 2 rfl
        have lbx := hbbx.lt
        clear hbbx
        obtain ⟨ln, hln⟩ : ∃ n, (nxtR G f0).length = n := ⟨_, rfl⟩
        rw [hln]
        have z2 : ((ln : Int) != 1) = db := by rw [← hln]; exact HDB.out
        clear hln z0
        cases db with
        | true =>
          obtain ⟨k2, HK20⟩ : ∃ qz, bendG G f0 x = qz := ⟨_, rfl⟩
          have HK2 := Lib.hid HK20
          clear HK20
          go_upto_region 9 with fail
          clear z2
          clear qbx_0 qbx_1 qbx_2 lbx
          have HBK := Lib.hid ((HS.out.now).1)
          have HMB := Lib.hid ((HS.out.now).2.2.1)
          obtain ⟨tgt, htg⟩ : ∃ l : List Value, [.int .i64 k2, .int .i64 x, .int .i64 far, .int .i64 W0] = l := ⟨_, rfl⟩
          have HTG := Lib.hid htg
          have HT0 : Hid (tgt[0]? = some (.int .i64 k2)) := Lib.hid (by rw [← htg]; rfl)
          have HT1 : Hid (tgt[1]? = some (.int .i64 x)) := Lib.hid (by rw [← htg]; rfl)
          clear htg
          have HRX : Hid (∀ W, Tow bk 56 tgt (World.drew wq6) W → Room W bk 56 0 ∧ Room W bk 56 1) := Lib.hid fun W h => ⟨h.shp (room_of_blk HBK.out.drew 0 (by simp)), h.shp (room_of_blk HBK.out.drew 1 (by simp))⟩
          have HPW : Hid (∀ W, Tow bk 56 tgt (World.drew wq6) W → Mod (fun _ => False) wq3 W) := Lib.hid fun W h => (HMB.out.thenDrew).old h.1 (fun i hi => by subst hi; exact HBB.out)
          have HSd := Lib.hid HS.out.drew
          refine wp_region_inv3 (act := ?actrh_r9_0) (Tow bk 56 tgt) (fun i => (rh_r9_0_F a n c k bk f0 x k2 tgt a1 a2 a3 n1 d1 n2 d2 n3 d3 eb eo).getD i (fun _ _ => True)) (fun i => rh_r9_0_D.getD i []) (by kernel_rfl) (by kernel_rfl) (by kernel_rfl) (by kernel_rfl) (fun _ => Tow.refl _ _ _ _)
            (fun _ _ _ h k => h.trans k) ?hactrh_r9_0 (stable_list ?_) ?_ ?_
          case hactrh_r9_0 => intro vs; simp only [putAll, Nat.zero_add, Nat.reduceAdd, Act.put, List.setIfInBounds_toArray, List.set_cons_succ, List.set_cons_zero]; exact rfl
          · unfold rh_r9_0_F
            exact stable_cons (stable_val _) <| stable_cons (stable_val _) <| stable_cons (stable_val _) <| stable_cons (stable_val _) <| stable_cons (stable_val _) <| stable_cons (stable_val _) <| stable_cons (stable_val _) <| stable_cons (stable_val _) <| stable_cons (stable_val _) <| stable_cons (stable_val _) <| stable_cons (stable_val _) <| stable_cons (stable_val _) <| stable_cons (PlH.st) <| stable_cons (stable_val _) <| stable_cons (PlH.st) <| stable_nil
          · refine opsOkA_cons ?_ ?_
            · intro K vs W hR hD hK
              clear hD
              try dsimp only at hK ⊢
              simp only [Act.put, List.setIfInBounds_toArray, List.set_cons_succ, List.set_cons_zero] at hK
              have hbx := (HSP.out.at (HPW.out W hR)).2.2.2.1
              have q0 := hbx.cell 0 rfl
              have q1 := hbx.cell 1 rfl
              have q2 := hbx.cell 2 rfl
              go_wp2
              exact hK _ _ rfl (Tow.refl _ _ _ _)
            refine opsOkA_cons ?_ ?_
            · intro K vs W hR hD hK
              clear hD
              try dsimp only at hK ⊢
              simp only [Act.put, List.setIfInBounds_toArray, List.set_cons_succ, List.set_cons_zero] at hK
              go_wp2
              exact hK _ _ rfl (Tow.refl _ _ _ _)
            refine opsOkA_cons ?_ ?_
            · intro K vs W hR hD hK
              clear hD
              try dsimp only at hK ⊢
              simp only [Act.put, List.setIfInBounds_toArray, List.set_cons_succ, List.set_cons_zero] at hK
              go_wp2
              exact hK _ _ rfl (Tow.refl _ _ _ _)
            refine opsOkA_cons ?_ ?_
            · intro K vs W hR hD hK
              clear hD
              try dsimp only at hK ⊢
              simp only [Act.put, List.setIfInBounds_toArray, List.set_cons_succ, List.set_cons_zero] at hK
              go_wp2
              exact hK _ _ rfl (Tow.refl _ _ _ _)
            refine opsOkA_cons ?_ ?_
            · intro K vs W hR hD hK
              have dq2 : vs 2 = .slice a n c := hD 2 (by decide)
              have dq3 : vs 3 = .int .i64 (k : Int) := hD 3 (by decide)
              clear hD
              try dsimp only at hK ⊢
              simp only [Act.put, List.setIfInBounds_toArray, List.set_cons_succ, List.set_cons_zero] at hK
              generalize vs 2 = vq2 at hK dq2 ⊢
              subst vq2
              generalize vs 3 = vq3 at hK dq3 ⊢
              subst vq3
              have hix := HIe.out
              go_wp2_with fail
              exact hK _ _ rfl (Tow.refl _ _ _ _)
            refine opsOkA_cons ?_ ?_
            · intro K vs W hR hD hK
              have dq4 : vs 4 = .pointer (some ⟨eb, eo, none⟩) := hD 4 (by decide)
              clear hD
              try dsimp only at hK ⊢
              simp only [Act.put, List.setIfInBounds_toArray, List.set_cons_succ, List.set_cons_zero] at hK
              generalize vs 4 = vq4 at hK dq4 ⊢
              subst vq4
              have c0 := (HSP.out.at (HPW.out W hR)).1
              go_wp2
              exact hK _ _ rfl (Tow.refl _ _ _ _)
            refine opsOkA_cons ?_ ?_
            · intro K vs W hR hD hK
              have dq0 : vs 0 = .agg #[.slice a1 n1 d1, .slice a2 n2 d2, .slice a3 n3 d3] := hD 0 (by decide)
              have dq1 : vs 1 = .int .i64 f0 := hD 1 (by decide)
              have dq5 : vs 5 = .int .i64 x := hD 5 (by decide)
              clear hD
              try dsimp only at hK ⊢
              simp only [Act.put, List.setIfInBounds_toArray, List.set_cons_succ, List.set_cons_zero] at hK
              generalize vs 0 = vq0 at hK dq0 ⊢
              subst vq0
              generalize vs 1 = vq1 at hK dq1 ⊢
              subst vq1
              generalize vs 5 = vq5 at hK dq5 ⊢
              subst vq5
              go_wp2_with (go_at_call 23; refine (r4bend_any G HMAY.out W a1 n1 d1 a2 n2 d2 a3 n3 d3 ((HSP.out.at (HPW.out W hR)).2.2.2.2.2.1) q2 q1 f0 x).mono ?_; rintro e' w' ⟨rfl, hm'⟩; rw [HK2.out])
              exact hK _ _ rfl (Tow.ofMod hm')
            refine opsOkA_cons ?_ ?_
            · intro K vs W hR hD hK
              clear hD
              try dsimp only at hK ⊢
              simp only [Act.put, List.setIfInBounds_toArray, List.set_cons_succ, List.set_cons_zero] at hK
              go_wp2
              exact hK _ _ rfl (Tow.refl _ _ _ _)
            refine opsOkA_cons ?_ ?_
            · intro K vs W hR hD hK
              clear hD
              try dsimp only at hK ⊢
              simp only [Act.put, List.setIfInBounds_toArray, List.set_cons_succ, List.set_cons_zero] at hK
              go_wp2
              exact hK _ _ rfl (Tow.refl _ _ _ _)
            refine opsOkA_cons ?_ ?_
            · intro K vs W hR hD hK
              have dq7 : vs 7 = .slice a n c := hD 7 (by decide)
              have dq8 : vs 8 = .int .i64 (k : Int) := hD 8 (by decide)
              clear hD
              try dsimp only at hK ⊢
              simp only [Act.put, List.setIfInBounds_toArray, List.set_cons_succ, List.set_cons_zero] at hK
              generalize vs 7 = vq7 at hK dq7 ⊢
              subst vq7
              generalize vs 8 = vq8 at hK dq8 ⊢
              subst vq8
              have hix := HIe.out
              go_wp2_with fail
              exact hK _ _ rfl (Tow.refl _ _ _ _)
            refine opsOkA_cons ?_ ?_
            · intro K vs W hR hD hK
              have dq9 : vs 9 = .pointer (some ⟨eb, eo, none⟩) := hD 9 (by decide)
              clear hD
              try dsimp only at hK ⊢
              simp only [Act.put, List.setIfInBounds_toArray, List.set_cons_succ, List.set_cons_zero] at hK
              generalize vs 9 = vq9 at hK dq9 ⊢
              subst vq9
              have c0 := (HSP.out.at (HPW.out W hR)).1
              go_wp2
              exact hK _ _ rfl (Tow.refl _ _ _ _)
            refine opsOkA_cons ?_ ?_
            · intro K vs W hR hD hK
              clear hD
              try dsimp only at hK ⊢
              simp only [Act.put, List.setIfInBounds_toArray, List.set_cons_succ, List.set_cons_zero] at hK
              go_wp2
              exact hK _ _ rfl (Tow.refl _ _ _ _)
            refine opsOkA_cons ?_ ?_
            · intro K vs W hR hD hK
              have dq6 : vs 6 = .int .i64 k2 := hD 6 (by decide)
              have dq11 : vs 11 = .pointer (some ⟨bk, 0, none⟩) := hD 11 (by decide)
              clear hD
              try dsimp only at hK ⊢
              simp only [Act.put, List.setIfInBounds_toArray, List.set_cons_succ, List.set_cons_zero] at hK
              generalize vs 6 = vq6 at hK dq6 ⊢
              subst vq6
              generalize vs 11 = vq11 at hK dq11 ⊢
              subst vq11
              have hp := plH_set (HRX.out W hR).1 HT0.out
              have hrx := (HRX.out W hR).1
              obtain ⟨y0, q0⟩ := hrx.cell
              have f0q := hrx.free
              have HP := Lib.hid hp
              clear hp hrx
              go_wp2
              exact hK undef _ HP.out.1 HP.out.2
            refine opsOkA_cons ?_ ?_
            · intro K vs W hR hD hK
              clear hD
              try dsimp only at hK ⊢
              simp only [Act.put, List.setIfInBounds_toArray, List.set_cons_succ, List.set_cons_zero] at hK
              go_wp2
              exact hK _ _ rfl (Tow.refl _ _ _ _)
            refine opsOkA_cons ?_ ?_
            · intro K vs W hR hD hK
              have dq10 : vs 10 = .int .i64 x := hD 10 (by decide)
              have dq13 : vs 13 = .pointer (some ⟨bk, 1, none⟩) := hD 13 (by decide)
              clear hD
              try dsimp only at hK ⊢
              simp only [Act.put, List.setIfInBounds_toArray, List.set_cons_succ, List.set_cons_zero] at hK
              generalize vs 10 = vq10 at hK dq10 ⊢
              subst vq10
              generalize vs 13 = vq13 at hK dq13 ⊢
              subst vq13
              have hp := plH_set (HRX.out W hR).2 HT1.out
              have hrx := (HRX.out W hR).2
              obtain ⟨y0, q0⟩ := hrx.cell
              have f0q := hrx.free
              have HP := Lib.hid hp
              clear hp hrx
              go_wp2
              exact hK undef _ HP.out.1 HP.out.2
            exact opsOkA_nil
          · intro vs wq7 hR hF
            have dq12 : (PlH bk tgt 0) (vs 12) wq7 := hF 12 (by decide)
            have dq14 : (PlH bk tgt 1) (vs 14) wq7 := hF 14 (by decide)
            clear hF
            try dsimp only
            generalize vs 12 = vq12 at dq12 ⊢
            generalize vs 14 = vq14 at dq14 ⊢
            clear HSd
            have hkt : Blk wq7 bk 56 tgt := by
              refine hR.blk HBK.out.drew (by rw [← HTG.out]; rfl) fun k hk => ?_
              rw [← HTG.out] at hk
              simp only [List.length_cons, List.length_nil] at hk
              rcases (show k = 0 ∨ k = 1 ∨ k = 2 ∨ k = 3 by omega) with rfl | rfl | rfl | rfl
              · obtain ⟨_, u, hu, hc⟩ := dq12; rw [hu, hc]
              · obtain ⟨_, u, hu, hc⟩ := dq14; rw [hu, hc]
              · rw [← HTG.out]; exact hR.there (room_of_blk HBK.out.drew 2 (by simp)) (by rw [← HTG.out]; rfl) (HBK.out.drew.cell 2 rfl)
              · rw [← HTG.out]; exact hR.there (room_of_blk HBK.out.drew 3 (by simp)) (by rw [← HTG.out]; rfl) (HBK.out.drew.cell 3 rfl)
            rw [← HTG.out] at hkt
            replace HS := HSP
            replace HS := Lib.hid (HSP.out.step (HPW.out _ hR))
            clear hR HRX HPW dq12 dq14
            have hB := hkt
            have qbk0 := hB.cell 0 rfl
            have qbk1 := hB.cell 1 rfl
            have qbk2 := hB.cell 2 rfl
            have qbk3 := hB.cell 3 rfl
            have lbk := hB.lt
            clear hB
            have hB := (HS.out.now).2.2.1
            have qbr0 := hB.cell 0 rfl
            have qbr1 := hB.cell 1 rfl
            have qbr2 := hB.cell 2 rfl
            have qbr3 := hB.cell 3 rfl
            have fbr0 := hB.free 0
            have fbr1 := hB.free 1
            have fbr2 := hB.free 2
            have fbr3 := hB.free 3
            have lbr := hB.lt
            clear hB
            clear hkt
            go_wp2_with fail
            have b2 := ((((((HS.out.now).2.2.1).set 0 (.int .i64 k2)).set 1 (.int .i64 x)).set 2 (.int .i64 far)).set 3 (.int .i64 W0))
            have hm2 := ((((Mod.refl (fun k => k = br) wq7).ofFx (Mod.setCell (F := fun k => k = br) _ ⟨br, 0, none⟩ (.int .i64 k2) rfl)).ofFx (Mod.setCell (F := fun k => k = br) _ ⟨br, 1, none⟩ (.int .i64 x) rfl)).ofFx (Mod.setCell (F := fun k => k = br) _ ⟨br, 2, none⟩ (.int .i64 far) rfl)).ofFx (Mod.setCell (F := fun k => k = br) _ ⟨br, 3, none⟩ (.int .i64 W0) rfl)
            (try simp only [Exit.inBlock, Exit.then])
            refine bodyPost_ret (results_row_tmp rfl _ _ br 56 #[.int .i64 k2, .int .i64 x, .int .i64 far, .int .i64 W0] (0, 0) _ rfl b2 Try.underlying56 rfl (by kernel_rfl)) rfl ?_
            exact ⟨by rw [HSUM.out, HA.out HDB.out, HK2.out]; rfl, ((HS.out.now).2.2.2.2.2.2).old hm2 (fun i hi => by subst hi; exact LBZ.out)⟩
        | false =>
          have hr2 := of_decide_eq_true HEX.out
          obtain ⟨xe, hxe⟩ := Int.eq_ofNat_of_zero_le hr2.1
          have hxl : xe < G.E.length := by omega
          have hxn : xe < n2 := by have := he.out; omega
          have hwx : wtE G x = (G.E[xe]).2.2 := by rw [wtE_in G HEX.out, hxe, eAt_eq G xe hxl]
          have hwt := wt_le G HMAY.out x HEX.out
          rw [← wtE_in G HEX.out] at hwt
          obtain ⟨x0, Hx00⟩ : ∃ qz, (G.E[xe]).1 = qz := ⟨_, rfl⟩
          have Hx0 := Lib.hid Hx00
          clear Hx00
          obtain ⟨y0, Hy00⟩ : ∃ qz, (G.E[xe]).2.1 = qz := ⟨_, rfl⟩
          have Hy0 := Lib.hid Hy00
          clear Hy00
          obtain ⟨z0v, Hz0v0⟩ : ∃ qz, (G.E[xe]).2.2 = qz := ⟨_, rfl⟩
          have Hz0v := Lib.hid Hz0v0
          clear Hz0v0
          rw [Hz0v.out] at hwx
          rw [hwx] at hwt
          have yz1 := hwt.1
          have yz2 := hwt.2
          have HNX : Hid (nextL G W0 f xs 0 0 = nextL G W0 x (xs.drop (k + 1)) (far + z0v) (k + 1)) := Lib.hid (by rw [HSUM.out, HO.out HDB.out, hwx])
          have HXE := Lib.hid hxe
          clear hwt hr2 hwx hxe
          obtain ⟨gb, go, hpl, e0, e1, e2⟩ := rd3 (HS.out.now).2.2.2.2.2.2.1.re xe hxl
          have hix := fun wx => run_indexS (P := Try.prog) wx 25 41 iE 3 Try.underlying25 hiE hsE a2 n2 d2 xe hxn ((HS.out.now).2.2.2.2.2.2.1.re.some_ (by have := hxn; omega))
          rw [hpl] at hix
          have HIg := Lib.hid hix
          clear hix hpl
          rw [Hx0.out] at e0
          replace HS := Lib.hid ((Ev.cell e0).and HS.out)
          clear e0
          rw [Hy0.out] at e1
          replace HS := Lib.hid ((Ev.cell e1).and HS.out)
          clear e1
          rw [Hz0v.out] at e2
          replace HS := Lib.hid ((Ev.cell e2).and HS.out)
          clear e2
          have qe := (HS.out.now).2.2.2.2.1
          have hix := HIe.out
          have hxe := HXE.out
          rw [hxe] at qe
          go_upto_region 12 with fail
          clear qe hix hxe z2
          clear qbx_0 qbx_1 qbx_2 lbx
          obtain ⟨B0, hB0⟩ : ∃ n, wq6.heap.size = n := ⟨_, rfl⟩
          have HB0 := Lib.hid hB0
          clear hB0
          have HOLD : Hid (∀ W, Mod (fun k => B0 ≤ k) (World.drew wq6) W → Mod (fun _ => False) (World.drew wq6) W) := Lib.hid fun W h => h.mono (fun i hi e => by have := HB0.out; simp at hi; omega)
          go_upto_region 12 with fail
          have HSd := Lib.hid HS.out.drew
          have HST : ∀ (ix : Nat) (vs : Nat → Value) (vx : Value) (wx wy : World), factP (rh_r12_1_F xe bk far z0v a2 n2 d2 bx gb go) ix vs vx wx → Mod (fun _ => False) wx wy → factP (rh_r12_1_F xe bk far z0v a2 n2 d2 bx gb go) ix vs vx wy := by
            refine factP_stays ?_
            unfold rh_r12_1_F
            exact stableP_cons (StableP.of (stable_val _)) <| stableP_cons (StableP.of (stable_val _)) <| stableP_cons (StableP.of (stable_val _)) <| stableP_cons (StableP.of (stable_val _)) <| stableP_cons (StableP.of (stable_val _)) <| stableP_cons (StableP.of (stable_val _)) <| stableP_cons (StableP.of (stable_val _)) <| stableP_cons (StableP.of (stable_val _)) <| stableP_cons (StableP.of (stable_val _)) <| stableP_cons (StableP.of (stable_val _)) <| stableP_nil
          have HSO : ∀ px ∈ (rh_r12_1_F xe bk far z0v a2 n2 d2 bx gb go), px.1 = true → ∀ (vs : Nat → Value) (vx : Value) (wx wy : World), px.2 vs vx wx → px.2 vs vx wy := by
            unfold rh_r12_1_F
            exact solidP_cons (solid_val _) <| solidP_cons (solid_val _) <| solidP_cons (solid_val _) <| solidP_cons (solid_val _) <| solidP_cons (solid_val _) <| solidP_cons (solid_val _) <| solidP_cons (solid_val _) <| solidP_cons (solid_val _) <| solidP_cons (solid_val _) <| solidP_cons (solid_val _) <| solidP_nil
          have HLO : LocL (fun i => rh_r12_1_D.getD i []) 0 (rh_r12_1_F xe bk far z0v a2 n2 d2 bx gb go) := by
            unfold rh_r12_1_F
            exact loc_cons (loc_own _) <| loc_cons (loc_own _) <| loc_cons (loc_own _) <| loc_cons (loc_own _) <| loc_cons (loc_own _) <| loc_cons (loc_own _) <| loc_cons (loc_own _) <| loc_cons (loc_own _) <| loc_cons (loc_own _) <| loc_cons (loc_own _) <| loc_nil
          refine wp_region_pair (act := ?actrh_r12_1) (Mod (fun k => B0 ≤ k)) (factP (rh_r12_1_F xe bk far z0v a2 n2 d2 bx gb go)) (fun i => rh_r12_1_C.getD i 1000) (fun i => rh_r12_1_D.getD i []) 10 _ rfl rfl (by kernel_rfl) (by kernel_rfl) (by kernel_rfl) (by kernel_rfl) (by kernel_rfl) (fun _ => Mod.refl _ _)
            (fun _ _ _ h k => h.trans k (fun _ _ e => e) (fun _ _ e => e)) ?hactrh_r12_1 (loc_of HLO) ?_ ?_
          case hactrh_r12_1 => intro vs; simp only [putAll, Nat.zero_add, Nat.reduceAdd, Act.put, List.setIfInBounds_toArray, List.set_cons_succ, List.set_cons_zero]; exact rfl
          · refine opsOkP_cons ?_ ?_
            · intro K vs W hR hD hN hK
              clear hD
              clear hN
              try dsimp only at hK ⊢
              simp only [Act.put, List.setIfInBounds_toArray, List.set_cons_succ, List.set_cons_zero] at hK
              go_wp2
              exact hK _ _ rfl (fun _ _ h => h) (Mod.refl _ _)
            refine opsOkP_cons ?_ ?_
            · intro K vs W hR hD hN hK
              have dq0 : vs 0 = .pointer (some ⟨bk, 2, none⟩) := hD 0 (by decide)
              clear hD
              clear hN
              try dsimp only at hK ⊢
              simp only [Act.put, List.setIfInBounds_toArray, List.set_cons_succ, List.set_cons_zero] at hK
              generalize vs 0 = vq0 at hK dq0 ⊢
              subst vq0
              have qk := ((HSd.out.at (HOLD.out W hR)).2.2.2.1).cell 2 rfl
              go_wp2
              exact hK _ _ rfl (fun _ _ h => h) (Mod.refl _ _)
            refine opsOkP_cons ?_ ?_
            · intro K vs W hR hD hN hK
              clear hD
              clear hN
              try dsimp only at hK ⊢
              simp only [Act.put, List.setIfInBounds_toArray, List.set_cons_succ, List.set_cons_zero] at hK
              go_wp2
              exact hK _ _ rfl (fun _ _ h => h) (Mod.refl _ _)
            refine opsOkP_cons ?_ ?_
            · intro K vs W hR hD hN hK
              have dq2 : vs 2 = .pointer (some ⟨bx, 1, none⟩) := hD 2 (by decide)
              clear hD
              clear hN
              try dsimp only at hK ⊢
              simp only [Act.put, List.setIfInBounds_toArray, List.set_cons_succ, List.set_cons_zero] at hK
              generalize vs 2 = vq2 at hK dq2 ⊢
              subst vq2
              have q0 := ((HSd.out.at (HOLD.out W hR)).2.2.2.2.2.2.2.1).cell 1 rfl
              go_wp2
              exact hK _ _ rfl (fun _ _ h => h) (Mod.refl _ _)
            refine opsOkP_cons ?_ ?_
            · intro K vs W hR hD hN hK
              clear hD
              clear hN
              try dsimp only at hK ⊢
              simp only [Act.put, List.setIfInBounds_toArray, List.set_cons_succ, List.set_cons_zero] at hK
              go_wp2
              exact hK _ _ rfl (fun _ _ h => h) (Mod.refl _ _)
            refine opsOkP_cons ?_ ?_
            · intro K vs W hR hD hN hK
              have dq3 : vs 3 = .slice a2 n2 d2 := hD 3 (by decide)
              have dq4 : vs 4 = .int .i64 (xe : Int) := hD 4 (by decide)
              clear hD
              clear hN
              try dsimp only at hK ⊢
              simp only [Act.put, List.setIfInBounds_toArray, List.set_cons_succ, List.set_cons_zero] at hK
              generalize vs 3 = vq3 at hK dq3 ⊢
              subst vq3
              generalize vs 4 = vq4 at hK dq4 ⊢
              subst vq4
              have hix := HIg.out
              go_wp2_with fail
              exact hK _ _ rfl (fun _ _ h => h) (Mod.refl _ _)
            refine opsOkP_cons ?_ ?_
            · intro K vs W hR hD hN hK
              have dq5 : vs 5 = .pointer (some ⟨gb, go, none⟩) := hD 5 (by decide)
              clear hD
              clear hN
              try dsimp only at hK ⊢
              simp only [Act.put, List.setIfInBounds_toArray, List.set_cons_succ, List.set_cons_zero] at hK
              generalize vs 5 = vq5 at hK dq5 ⊢
              subst vq5
              go_wp2
              exact hK _ _ rfl (fun _ _ h => h) (Mod.refl _ _)
            refine opsOkP_cons ?_ ?_
            · intro K vs W hR hD hN hK
              have dq6 : vs 6 = .pointer (some ⟨gb, go + 2, none⟩) := hD 6 (by decide)
              clear hD
              clear hN
              try dsimp only at hK ⊢
              simp only [Act.put, List.setIfInBounds_toArray, List.set_cons_succ, List.set_cons_zero] at hK
              generalize vs 6 = vq6 at hK dq6 ⊢
              subst vq6
              have c2 := (HSd.out.at (HOLD.out W hR)).1
              go_wp2
              exact hK _ _ rfl (fun _ _ h => h) (Mod.refl _ _)
            refine opsOkP_cons ?_ ?_
            · intro K vs W hR hD hN hK
              have dq1 : vs 1 = .int .i64 far := hD 1 (by decide)
              have dq7 : vs 7 = .int .i64 z0v := hD 7 (by decide)
              clear hD
              clear hN
              try dsimp only at hK ⊢
              simp only [Act.put, List.setIfInBounds_toArray, List.set_cons_succ, List.set_cons_zero] at hK
              generalize vs 1 = vq1 at hK dq1 ⊢
              subst vq1
              generalize vs 7 = vq7 at hK dq7 ⊢
              subst vq7
              go_wp2
              exact hK _ _ rfl (fun _ _ h => h) (Mod.refl _ _)
            refine opsOkP_cons ?_ ?_
            · intro K vs W hR hD hN hK
              clear hD
              clear hN
              try dsimp only at hK ⊢
              simp only [Act.put, List.setIfInBounds_toArray, List.set_cons_succ, List.set_cons_zero] at hK
              go_wp2
              exact hK _ _ rfl (fun _ _ h => h) (Mod.refl _ _)
            exact opsOkP_nil
          · intro vs wq8 hR hF
            have dq8 : vs 8 = .int .i64 (far + z0v) := hF 8 (by decide) (by decide)
            have dq9 : vs 9 = .pointer (some ⟨bk, 2, none⟩) := hF 9 (by decide) (by decide)
            clear hF
            try dsimp only
            generalize vs 8 = vq8 at dq8 ⊢
            subst vq8
            generalize vs 9 = vq9 at dq9 ⊢
            subst vq9
            have hmw : Mod (fun _ => False) wq6 wq8 := (Mod.drew _ _).of2 (HOLD.out _ hR)
            replace HS := Lib.hid (HS.out.step hmw)
            clear hmw HSd
            clear HOLD
            have hB := (HS.out.now).2.2.2.1
            have qbk0 := hB.cell 0 rfl
            have qbk1 := hB.cell 1 rfl
            have qbk2 := hB.cell 2 rfl
            have qbk3 := hB.cell 3 rfl
            have fbk0 := hB.free 0
            have fbk1 := hB.free 1
            have fbk2 := hB.free 2
            have fbk3 := hB.free 3
            have lbk := hB.lt
            clear hB
            have HBQ := Lib.hid ((HS.out.now).2.2.2.1)
            have HMQ := Lib.hid ((HS.out.now).2.2.2.2.2.1)
            go_wp2_with fail
            go_roundw
            case rel => exact ⟨k + 1, (xe : Int), far + z0v, hlt, by go_num, rfl, by rw [HNX.out, HXE.out], ⟨by omega, by have := HFB.out.2; omega⟩, HBQ.out.set 2 _, HMQ.out.old (Mod.setCell (F := fun k => k = bk) _ ⟨bk, 2, none⟩ _ rfl) (fun i hi => by rw [hi]; exact HBB.out)⟩
            case measure => simp [intOf]; omega
      case neg =>
        obtain rfl : k = n := by omega
        have z0 : decide ((k : Int) < (k : Int)) = false := by simp
        replace HS := Lib.hid (HS.out.step HMR.out)
        replace HS := Lib.hid ((Ev.blk HBL.out).and HS.out)
        have hB := (HS.out.now).1
        have qbk0 := hB.cell 0 rfl
        have qbk1 := hB.cell 1 rfl
        have qbk2 := hB.cell 2 rfl
        have qbk3 := hB.cell 3 rfl
        have fbk0 := hB.free 0
        have fbk1 := hB.free 1
        have fbk2 := hB.free 2
        have fbk3 := hB.free 3
        have lbk := hB.lt
        clear hB
        go_upto_region 14 with fail
        obtain ⟨ws, hws⟩ : ∃ x : World, World.setCell (World.setCell wo ⟨bk, 0, none⟩ (.int .i64 9)) ⟨bk, 1, none⟩ (.int .i64 (-1)) = x := ⟨_, rfl⟩
        rw [hws]
        have hks : Blk ws bk 56 [.int .i64 9, .int .i64 (-1), .int .i64 far, .int .i64 W0] := by rw [← hws]; exact (HBL.out.set 0 _).set 1 _
        have hms : Mod (fun _ => False) wq3 ws := by rw [← hws]; exact HMR.out.old ((Mod.setCell (F := fun k => k = bk) _ ⟨bk, 0, none⟩ _ rfl).ofFx (Mod.setCell (F := fun k => k = bk) _ ⟨bk, 1, none⟩ _ rfl)) (fun i hi => by rw [hi]; exact HBB.out)
        clear hws qbk0 fbk0 qbk1 fbk1 qbk2 fbk2 qbk3 fbk3 lbk
        replace HS := Lib.hid (HSB.out.step hms)
        clear hms
        have hB := hks
        have qbk0 := hB.cell 0 rfl
        have qbk1 := hB.cell 1 rfl
        have qbk2 := hB.cell 2 rfl
        have qbk3 := hB.cell 3 rfl
        have lbk := hB.lt
        clear hB
        have hB := (HS.out.now).2.1
        have qbr0 := hB.cell 0 rfl
        have qbr1 := hB.cell 1 rfl
        have qbr2 := hB.cell 2 rfl
        have qbr3 := hB.cell 3 rfl
        have fbr0 := hB.free 0
        have fbr1 := hB.free 1
        have fbr2 := hB.free 2
        have fbr3 := hB.free 3
        have lbr := hB.lt
        clear hB
        clear hks
        go_wp2_with fail
        have b2 := ((((((HS.out.now).2.1).set 0 (.int .i64 9)).set 1 (.int .i64 (-1))).set 2 (.int .i64 far)).set 3 (.int .i64 W0))
        have hm2 := ((((Mod.refl (fun k => k = br) ws).ofFx (Mod.setCell (F := fun k => k = br) _ ⟨br, 0, none⟩ (.int .i64 9) rfl)).ofFx (Mod.setCell (F := fun k => k = br) _ ⟨br, 1, none⟩ (.int .i64 (-1)) rfl)).ofFx (Mod.setCell (F := fun k => k = br) _ ⟨br, 2, none⟩ (.int .i64 far) rfl)).ofFx (Mod.setCell (F := fun k => k = br) _ ⟨br, 3, none⟩ (.int .i64 W0) rfl)
        (try simp only [Exit.inBlock, Exit.then])
        refine bodyPost_ret (results_row_tmp rfl _ _ br 56 #[.int .i64 9, .int .i64 (-1), .int .i64 far, .int .i64 W0] (0, 0) _ rfl b2 Try.underlying56 rfl (by kernel_rfl)) rfl ?_
        have hend := nextL_end G W0 f0 xs far
        rw [HN.out] at hend
        exact ⟨by rw [HSUM.out, hend]; rfl, ((HS.out.now).2.2.2.2.2).old hm2 (fun i hi => by subst hi; exact LBZ.out)⟩
end Go.Proofs.Ytagmnkobigecnaa
namespace Go.Proofs.Ytagmnkobigecnaa
open Go.RowKit Mile
set_option maxRecDepth 100000

set_option maxHeartbeats 8000000 in
theorem r4same_eq (w : World) (a : Option Addr) (n c : Nat) (L : List H4) (hn : L.length = n) (hr : Rd w 4 (.slice a n c) n (L.flatMap c4h)) (b : Option Addr) (d : Nat) (hs : Rd w 4 (.slice b n d) n (L.flatMap c4h)) (hb : n ≤ 100000) :
    Calls Try.prog 31 #[.slice a n c, .slice b n d] w fun e w' => e = .returned (.bool true) ∧ Mod (fun _ => False) w w' := by
  obtain ⟨iS, hiS, hzS, hsS, hbS⟩ := info_parts infoHi
  have HN := Lib.hid hn
  clear hn
  go_enter Try.func31, Try.ntmps31
  go_wp2_with fail
  go_loopw [5] (fun i wr => ∃ j : Nat, j ≤ n ∧ i = .int .i64 j ∧ Mod (fun _ => False) w wr) (fun i _ => n - (intOf i).toNat)
  case atStart => exact ⟨0, by omega, rfl, Mod.refl _ _⟩
  case round =>
    obtain ⟨j, hj, rfl, hM⟩ := hrel
    by_cases hlt : j < n
    · have hjl : j < L.length := by rw [HN.out]; exact hlt
      obtain ⟨b1, o1, hpl, e1, e2, e3, e4⟩ := rd4h (hr.keepA hM (fun _ _ e => e.elim)) j hjl
      obtain ⟨b2, o2, hpl2, k1, k2, k3, k4⟩ := rd4h (hs.keepA hM (fun _ _ e => e.elim)) j hjl
      have hix := fun wx => run_indexS (P := Try.prog) wx 61 56 iS 4 Try.underlying61 hiS hsS a n c j hlt (hr.some_ (by omega))
      rw [hpl] at hix
      have hix' := fun wx => run_indexS (P := Try.prog) wx 61 56 iS 4 Try.underlying61 hiS hsS b n d j hlt (hs.some_ (by omega))
      rw [hpl2] at hix'
      obtain ⟨z0, hz0⟩ : ∃ z, L[j].1 = z := ⟨_, rfl⟩
      rw [hz0] at e1 k1
      obtain ⟨z1, hz1⟩ : ∃ z, L[j].2.1 = z := ⟨_, rfl⟩
      rw [hz1] at e2 k2
      obtain ⟨z2, hz2⟩ : ∃ z, L[j].2.2.1 = z := ⟨_, rfl⟩
      rw [hz2] at e3 k3
      obtain ⟨z3, hz3⟩ : ∃ z, L[j].2.2.2 = z := ⟨_, rfl⟩
      rw [hz3] at e4 k4
      clear hz0 hz1 hz2 hz3 hpl hpl2
      go_wp2_with fail
      go_quiet (fail)
      go_wp2_with fail
      go_roundw
      case rel => exact ⟨j + 1, hlt, by go_num, hM.trans (Mod.drewN (fun _ => False) wr nq) (fun _ _ e => e) (fun _ _ e => e)⟩
      case measure => simp [intOf]; omega
    · obtain rfl : j = n := by omega
      go_wp2_with fail
      go_ret
      exact ⟨rfl, hM⟩

set_option maxHeartbeats 64000000 in
theorem r4hints_any (G : GD) (hmay : May G) (w : World) (a1 : Option Addr) (n1 d1 : Nat) (a2 : Option Addr) (n2 d2 : Nat) (a3 : Option Addr) (n3 d3 : Nat) (h : GV w a1 n1 d1 a2 n2 d2 a3 n3 d3 G) (q1 : n1 ≤ 100000) (q2 : n2 ≤ 100000) (q3 : n3 ≤ 100000) (f : Int) (a : Option Addr) (n c : Nat) (xs : List Int) (hn : xs.length = n) (hr : Rd w 1 (.slice a n c) n (xs.map (Value.int .i64))) (hb : n ≤ 100000) :
    Calls Try.prog 33 #[.agg #[.slice a1 n1 d1, .slice a2 n2 d2, .slice a3 n3 d3], .int .i64 f, .slice a n c] w fun e w' => ∃ v, e = .returned v ∧ HRow (if validB G f xs = true then hintsL G (n + 1) f xs (wtN G xs) else []) v w' ∧ Mod (fun _ => False) w w' := by
  obtain ⟨iI, hiI, hzI, hsI, hbI⟩ := info_parts GR.infoI
  obtain ⟨iH, hiH, hzH, hsH, hbH⟩ := info_parts infoHi
  have HN := Lib.hid hn
  have HMAY := Lib.hid hmay
  clear hn hmay
  have HS : Hid (Ev (Mod (fun _ => False) w) w) := Lib.hid (Ev.mod w)
  replace HS := Lib.hid ((Ev.gv h).and HS.out)
  replace HS := Lib.hid ((Ev.rd hr).and HS.out)
  clear h hr
  obtain ⟨vb, hvb⟩ : ∃ b, validB G f xs = b := ⟨_, rfl⟩
  rw [hvb]
  have HVB := Lib.hid hvb
  clear hvb
  obtain ⟨W0, hW0⟩ : ∃ x, wtN G xs = x := ⟨_, rfl⟩
  rw [hW0]
  have HW0 := Lib.hid hW0
  clear hW0
  go_enter Try.func33, Try.ntmps33
  go_upto_region 1 with fail
  obtain ⟨bx, hbx⟩ : ∃ b, w.heap.size = b := ⟨_, rfl⟩
  obtain ⟨wq1, hwq1⟩ : ∃ W, World.alloc w (.cells #[.slice a1 n1 d1, .slice a2 n2 d2, .slice a3 n3 d3] 28) = W := ⟨_, rfl⟩
  have hBbx : Blk wq1 bx 28 [.slice a1 n1 d1, .slice a2 n2 d2, .slice a3 n3 d3] := by rw [← hwq1, ← hbx]; exact Blk.new _ 28 [.slice a1 n1 d1, .slice a2 n2 d2, .slice a3 n3 d3]
  have hzbx : wq1.heap.size = bx + 1 := by rw [← hwq1, ← hbx]; exact heap_size_alloc _ _
  replace HS := Lib.hid (HS.out.step (w' := wq1) (by rw [← hwq1]; exact Mod.alloc _ _ _))
  replace HS := Lib.hid ((Ev.blk hBbx).and HS.out)
  try rw [hwq1]
  try rw [hbx]
  clear hzbx hBbx hbx hwq1
  have hbbx := (HS.out.now).1
  have qbx_0 := hbbx.cell 0 rfl
  have qbx_1 := hbbx.cell 1 rfl
  have qbx_2 := hbbx.cell 2 rfl
  have lbx := hbbx.lt
  clear hbbx
  replace HS := Lib.hid ((Ev.mod wq1).and HS.out)
  cases vb with
  | false =>
    have H0 : Hid (hintV (if validB G f xs = true then (nextL G (wtN G xs) f xs 0 0).1 else (0, 0, 0, 0)) = .agg #[.int .i64 0, .int .i64 0, .int .i64 0, .int .i64 0]) := Lib.hid (by rw [HVB.out]; rfl)
    go_wp2_with fail
    clear qbx_0 qbx_1 qbx_2 lbx
    go_loopw [1, 2, 7, 8, 9] (fun fv lv ov _ _ wr => fv = .int .i64 f ∧ lv = .slice a n c ∧ ov = .slice none 0 0 ∧ Mod (fun _ => False) wq1 wr) (fun _ _ _ _ _ _ => 0)
    case atStart => exact ⟨rfl, rfl, rfl, Mod.refl _ _⟩
    case round =>
      obtain ⟨rfl, rfl, rfl, hmr⟩ := hrel
      obtain ⟨wo, hwo⟩ : ∃ x : World, x = wr := ⟨_, rfl⟩
      subst hwo
      replace HS := Lib.hid (HS.out.step hmr)
      clear hmr
      have hbbx := (HS.out.now).2.1
      have qbx_0 := hbbx.cell 0 rfl
      have qbx_1 := hbbx.cell 1 rfl
      have qbx_2 := hbbx.cell 2 rfl
      have lbx := hbbx.lt
      clear hbbx
      go_wp2_with fail
      refine (r4hint_any G HMAY.out _ a1 n1 d1 a2 n2 d2 a3 n3 d3 ((HS.out.now).2.2.2.1) q1 q2 q3 f a n c xs HN.out ((HS.out.now).2.2.1) hb).mono ?_
      rintro e wq2 ⟨rfl, hmm⟩
      replace HS := Lib.hid (HS.out.step hmm)
      clear hmm
      clear qbx_0 qbx_1 qbx_2 lbx
      have hbbx := (HS.out.now).2.1
      have qbx_0 := hbbx.cell 0 rfl
      have qbx_1 := hbbx.cell 1 rfl
      have qbx_2 := hbbx.cell 2 rfl
      have lbx := hbbx.lt
      clear hbbx
      rw [H0.out, HVB.out]
      go_wp2_with fail
      go_ret
      exact ⟨_, rfl, ⟨none, 0, rfl, Rd.nil _ _⟩, ((HS.out.now).2.2.2.2).thenAlloc _⟩
  | true =>
    have hv := HVB.out
    unfold validB at hv
    rw [Bool.and_eq_true] at hv
    have hal : allE G xs = true := wlk_all G f xs hv.2
    have hwt : wE G xs = W0 := by rw [wE_all G xs hal, ← HW0.out]; unfold wtN; rw [if_pos hal]
    have HV0 := Lib.hid hv
    have HWE := Lib.hid hwt
    clear hv hal hwt
    have HRD0 : Hid (∀ W, Mod (fun _ => False) wq1 W → Rd W 1 (.slice a n c) n (xs.map (Value.int .i64))) := Lib.hid (fun W m => (HS.out.at m).2.2.1)
    obtain ⟨B1, hB1⟩ : ∃ b, wq1.heap.size = b := ⟨_, rfl⟩
    have HB1 := Lib.hid hB1
    clear hB1
    go_wp2_with fail
    clear qbx_0 qbx_1 qbx_2 lbx
    go_loopw [1, 2, 7, 8, 9] (fun fv lv av _ _ wr => ∃ (d m nd : Nat) (f0 : Int) (L : List H4) (la : Option Addr) (lc : Nat), d ≤ n ∧ fv = .int .i64 f0 ∧ lv = .slice la (n - d) lc ∧ (edB G f0 = true ∧ wlk G f0 (xs.drop d) = true) ∧ n - d ≤ m ∧ L.length = nd ∧ nd ≤ d ∧ hintsL G (n + 1) f xs W0 = L ++ hintsL G (m + 1) f0 (xs.drop d) (wE G (xs.drop d)) ∧ (∀ W, Mod (fun _ => False) wq1 W → Rd W 1 (.slice la (n - d) lc) (n - d) ((xs.drop d).map (Value.int .i64))) ∧ World.ownsRow wr B1 56 4 av nd (L.flatMap c4h) ∧ Mod (fun _ => False) wq1 wr) (fun _ lv _ _ _ _ => match lv with | .slice _ k _ => k | _ => 0)
    case atStart => exact ⟨0, n, 0, f, [], a, c, by omega, rfl, rfl, HV0.out, by omega, rfl, by omega, by show _ = hintsL G (n + 1) f xs (wE G xs); rw [HWE.out], HRD0.out, World.ownsRow_nil _ _ _ _, Mod.refl _ _⟩
    case round =>
      clear HRD0
      obtain ⟨d, m, nd, f0, L, la, lc, hd, rfl, rfl, hvv, hdm, hnd, hndd, hlist, hrl, hown, hmr⟩ := hrel
      obtain ⟨wo, hwo⟩ : ∃ x : World, x = wr := ⟨_, rfl⟩
      subst hwo
      obtain ⟨av, cv, rfl⟩ := own_form hown
      have HSB := HS
      replace HS := Lib.hid (HS.out.step hmr)
      replace HS := Lib.hid ((Ev.mod wo).and HS.out)
      have hbbx := (HS.out.now).2.2.1
      have qbx_0 := hbbx.cell 0 rfl
      have qbx_1 := hbbx.cell 1 rfl
      have qbx_2 := hbbx.cell 2 rfl
      have lbx := hbbx.lt
      clear hbbx
      have HMB := Lib.hid hmr
      have HVV := Lib.hid hvv
      have HND := Lib.hid hnd
      have HLI := Lib.hid hlist
      have HRF := Lib.hid hrl
      have HO := Lib.hid hown
      clear hmr hvv hnd hlist hrl hown
      obtain ⟨ys, hys⟩ : ∃ l, xs.drop d = l := ⟨_, rfl⟩
      have hyl : ys.length = n - d := by rw [← hys, List.length_drop, HN.out]
      rw [hys] at HVV HLI HRF
      have HYS := Lib.hid hys
      clear hys
      obtain ⟨kl, hkl⟩ : ∃ k, n - d = k := ⟨_, rfl⟩
      rw [hkl] at hyl hdm ⊢
      have hrf := HRF.out
      rw [hkl] at hrf
      have HKL := Lib.hid hkl
      have HYL := Lib.hid hyl
      have hkn : kl ≤ n := by omega
      have HRF2 := Lib.hid hrf
      clear hrf hyl HRF hkl
      have hal : allE G ys = true := wlk_all G f0 ys HVV.out.2
      have hwt : wtN G ys = wE G ys := by unfold wtN; rw [if_pos hal, wE_all G ys hal]
      have hva : validB G f0 ys = true := by unfold validB; rw [HVV.out.1, HVV.out.2]; rfl
      have hwb := wE_le G HMAY.out ys
      have HVA := Lib.hid hva
      have HWT := Lib.hid hwt
      have HAL := Lib.hid hal
      clear hal hwt hva hwb
      obtain ⟨h4, g, hhg⟩ : ∃ (h4 : H4) (g : Nat), nextL G (wE G ys) f0 ys 0 0 = (h4, g) := ⟨_, _, rfl⟩
      obtain ⟨c1, c2, c3, c4⟩ := h4
      have HHG := Lib.hid hhg
      have H3 : Hid (hintV (if validB G f0 ys = true then (nextL G (wtN G ys) f0 ys 0 0).1 else (0, 0, 0, 0)) = .agg #[.int .i64 c1, .int .i64 c2, .int .i64 c3, .int .i64 c4]) := Lib.hid (by rw [HVA.out, if_pos rfl, HWT.out, hhg]; rfl)
      have HFIN := Lib.hid (nextL_fin G (wE G ys) f0 ys _ _ hhg)
      have HSC := Lib.hid (hintsL_succ G m f0 ys (wE G ys) _ _ hhg)
      clear hhg
      go_wp2_with fail
      refine (r4hint_any G HMAY.out _ a1 n1 d1 a2 n2 d2 a3 n3 d3 ((HS.out.now).2.2.2.2.1) q1 q2 q3 f0 la kl lc ys HYL.out (HRF2.out _ ((HS.out.now).2.1)) (by omega)).mono ?_
      rintro e wq3 ⟨rfl, hmm⟩
      replace HS := Lib.hid (HS.out.step hmm)
      clear hmm
      clear qbx_0 qbx_1 qbx_2 lbx
      have hbbx := (HS.out.now).2.2.1
      have qbx_0 := hbbx.cell 0 rfl
      have qbx_1 := hbbx.cell 1 rfl
      have qbx_2 := hbbx.cell 2 rfl
      have lbx := hbbx.lt
      clear hbbx
      rw [H3.out, HVA.out]
      have HWO : Hid (wo.heap.size ≤ wq3.heap.size) := Lib.hid (((HS.out.now).1).size)
      go_upto_region 3 with fail
      obtain ⟨bh, hbh⟩ : ∃ b, wq3.heap.size = b := ⟨_, rfl⟩
      obtain ⟨wq4, hwq4⟩ : ∃ W, World.alloc wq3 (.cells #[.int .i64 c1, .int .i64 c2, .int .i64 c3, .int .i64 c4] 56) = W := ⟨_, rfl⟩
      have hBbh : Blk wq4 bh 56 [.int .i64 c1, .int .i64 c2, .int .i64 c3, .int .i64 c4] := by rw [← hwq4, ← hbh]; exact Blk.new _ 56 [.int .i64 c1, .int .i64 c2, .int .i64 c3, .int .i64 c4]
      have hzbh : wq4.heap.size = bh + 1 := by rw [← hwq4, ← hbh]; exact heap_size_alloc _ _
      replace HS := Lib.hid (HS.out.step (w' := wq4) (by rw [← hwq4]; exact Mod.alloc _ _ _))
      replace HS := Lib.hid ((Ev.blk hBbh).and HS.out)
      have HBH : Hid (wq3.heap.size ≤ bh) := Lib.hid (by omega)
      try rw [hwq4]
      try rw [hbh]
      clear hzbh hBbh hbh hwq4
      clear qbx_0 qbx_1 qbx_2 lbx
      have hbbx := (HS.out.now).2.2.2.1
      have qbx_0 := hbbx.cell 0 rfl
      have qbx_1 := hbbx.cell 1 rfl
      have qbx_2 := hbbx.cell 2 rfl
      have lbx := hbbx.lt
      clear hbbx
      have hbbh := (HS.out.now).1
      have qbh_0 := hbbh.cell 0 rfl
      have qbh_1 := hbbh.cell 1 rfl
      have qbh_2 := hbbh.cell 2 rfl
      have qbh_3 := hbbh.cell 3 rfl
      have lbh := hbbh.lt
      clear hbbh
      have HMS := Lib.hid ((HS.out.now).2.2.1)
      have HSZs : Hid (B1 ≤ wq4.heap.size) := Lib.hid (by have h := HMS.out.size; have := HB1.out; omega)
      have HOs : Hid (World.ownsRow wq4 B1 56 4 (.slice av nd cv) nd (L.flatMap c4h)) := Lib.hid (Own.keep HO.out ((HS.out.now).2.1) (fun _ _ e => e))
      go_upto_region 5 with fail
      clear qbx_0 qbx_1 qbx_2 lbx qbh_0 qbh_1 qbh_2 qbh_3 lbh
      have HBS := Lib.hid ((HS.out.now).1)
      have lb := HBS.out.lt
      have qb0 := HBS.out.cell 0 rfl
      have qb1 := HBS.out.cell 1 rfl
      have qb2 := HBS.out.cell 2 rfl
      have qb3 := HBS.out.cell 3 rfl
      go_upto_region 6 with (at_builtin; refine wpList_append_any rfl (.tmp 19) (.tmp 21) 61 rfl 56 iH (.agg #[.int .i64 0, .int .i64 0, .int .i64 0, .int .i64 0]) 4 32 Try.underlying61 hiH hzH hsH hbH rfl (by decide) _ nd _ rfl (World.ownsRow.alloc (Own.base HOs.out (Nat.zero_le _)) _) _ 1 (c4h (c1, c2, c3, c4)) rfl (Rd.litN _ 4 _ _ _ 1 rfl rfl (by decide)) (by intro u hu; simp [c4h] at hu; rcases hu with rfl | rfl | rfl | rfl <;> rfl) (by unfold maxLen; omega) (by omega) ?_; intro v4 w4 hap; obtain ⟨a4, c4x, rfl⟩ := hap.form; have ho4 := hap.own; have lo4 := hap.low (B := B1) (by have h1 := HSZs.out; simp; omega) (fun q hq => (HOs.out.lt q hq).1); have HO4 := Lib.hid (Own.rebase ho4 lo4); have hmq : Mod (fun q => B1 ≤ q) wq4 w4 := (Mod.alloc (fun q => B1 ≤ q) wq4 _).trans (hap.mod.mono (fun q _ e => (HOs.out.lt q e).1)) (fun _ _ e => e) (fun _ _ e => e); have HMQ := Lib.hid hmq; have hbk := (HBS.out.alloc _).keep hap.mod (fun e => by have h1 := (HO.out.lt _ e).2; have h2 := HBH.out; have h3 := HWO.out; omega); have HBK := Lib.hid hbk; clear hap ho4 lo4 hmq hbk)
      clear lb qb0 qb1 qb2 qb3
      have hm4 := HMS.out.old HMQ.out (fun i hi => by have := HB1.out; omega)
      replace HS := Lib.hid (HSB.out.step hm4)
      clear hm4
      replace HS := Lib.hid ((Ev.blk HBK.out).and HS.out)
      replace HS := Lib.hid ((Ev.own HO4.out).and HS.out)
      replace HS := Lib.hid ((Ev.mod w4).and HS.out)
      have qb0 := HBK.out.cell 0 rfl
      have lb := HBK.out.lt
      have HLC : Hid (L.flatMap c4h ++ c4h (c1, c2, c3, c4) = (L ++ [(c1, c2, c3, c4)]).flatMap c4h) := Lib.hid (by simp)
      by_cases h9 : c1 = 9
      case pos =>
        have z0 : (c1 == 9) = true := by simp [h9]
        have hl2 := HLI.out
        rw [HSC.out, if_pos h9, List.append_nil] at hl2
        have HL2 := Lib.hid hl2
        clear hl2 h9
        go_wp2_with fail
        go_ret
        refine ⟨_, rfl, ⟨a4, c4x, ?_, ?_⟩, (HS.out.now).2.2.2.2.2.2.2⟩
        · show Value.slice a4 (nd + 1) c4x = _; rw [HL2.out, List.length_append, HND.out]; rfl
        · rw [HL2.out, List.length_append, HND.out, ← HLC.out]; exact Rd.ofOwn HO4.out
      case neg =>
        have z0 : (c1 == 9) = false := by simp [h9]
        have H9 := Lib.hid h9
        clear h9
        have hbbx := (HS.out.now).2.2.2.2.1
        have qbx_0 := hbbx.cell 0 rfl
        have qbx_1 := hbbx.cell 1 rfl
        have qbx_2 := hbbx.cell 2 rfl
        have lbx := hbbx.lt
        clear hbbx
        go_wp2_with fail
        clear qb0 lb z0
        clear qbx_0 qbx_1 qbx_2 lbx
        go_loopw [1, 2] (fun fv lv wr => ∃ (j : Nat) (f1 far : Int) (lb : Option Addr) (lc2 : Nat), j ≤ kl ∧ fv = .int .i64 f1 ∧ lv = .slice lb (kl - j) lc2 ∧ nextL G (wE G ys) f0 ys 0 0 = nextL G (wE G ys) f1 (ys.drop j) far j ∧ (∀ W, Mod (fun _ => False) wq1 W → Rd W 1 (.slice lb (kl - j) lc2) (kl - j) ((ys.drop j).map (Value.int .i64))) ∧ Mod (fun _ => False) w4 wr) (fun _ lv _ => match lv with | .slice _ k _ => k | _ => 0)
        case atStart => exact ⟨0, f0, 0, la, lc, by omega, rfl, rfl, rfl, HRF2.out, Mod.refl _ _⟩
        case round =>
          obtain ⟨j, f1, far, lb, lc2, hj, rfl, rfl, hnx, hrl, hmr⟩ := hrel
          obtain ⟨wi, hwi⟩ : ∃ x : World, x = wr := ⟨_, rfl⟩
          subst hwi
          replace HS := Lib.hid (HS.out.step hmr)
          have HRI := Lib.hid hrl
          have hnx2 := HHG.out
          rw [hnx] at hnx2
          have HNX := Lib.hid hnx
          have HNX2 := Lib.hid hnx2
          clear hmr hrl hnx hnx2
          have hbbx := (HS.out.now).2.2.2.2.1
          have qbx_0 := hbbx.cell 0 rfl
          have qbx_1 := hbbx.cell 1 rfl
          have qbx_2 := hbbx.cell 2 rfl
          have lbx := hbbx.lt
          clear hbbx
          obtain ⟨db, hdb⟩ : ∃ b, decB G f1 = b := ⟨_, rfl⟩
          have HDB := Lib.hid hdb
          clear hdb
          have hjk : j < kl := by
            rcases Nat.lt_or_ge j kl with h | h
            · exact h
            · exfalso; have h1 := HNX2.out; rw [List.drop_eq_nil_of_le (by rw [HYL.out]; exact h), nextL] at h1; simp only [Prod.mk.injEq] at h1; exact H9.out h1.1.1.symm
          have hjl : j < ys.length := by rw [HYL.out]; exact hjk
          have hdc : ys.drop j = ys[j] :: ys.drop (j + 1) := List.drop_eq_getElem_cons hjl
          obtain ⟨zs, hzs⟩ : ∃ z, ys.drop (j + 1) = z := ⟨_, rfl⟩
          obtain ⟨x, hx⟩ : ∃ x, ys[j] = x := ⟨_, rfl⟩
          rw [hzs, hx] at hdc
          have HZS := Lib.hid hzs
          have HDC := Lib.hid hdc
          clear hzs hx hdc
          obtain ⟨kj, hkj⟩ : ∃ k, kl - j = k := ⟨_, rfl⟩
          have hri := HRI.out
          rw [hkj, HDC.out] at hri
          rw [hkj]
          have HKJ := Lib.hid hkj
          have hkp : 1 ≤ kj := by omega
          have HRJ := Lib.hid hri
          clear hri hkj
          replace HS := Lib.hid (((show Ev (fun W => Rd W 1 (.slice lb kj lc2) kj ((x :: zs).map (Value.int .i64))) wi from fun W mW => HRJ.out W (((HS.out.now).2.2.2.1).of2 mW))).and HS.out)
          obtain ⟨fb, fo, hpl, k0⟩ := rd1 ((HS.out.now).1) 0 (by simp)
          have hix := fun wx => run_indexS (P := Try.prog) wx 22 3 iI 1 Try.underlying22 hiI hsI lb kj lc2 0 (by omega) (((HS.out.now).1).some_ (by omega))
          rw [hpl] at hix
          have HIf : Hid (∀ wx : World, (Instr.indexAt 22 (.slice lb kj lc2) (.int .i64 0)).run Try.prog wx = .ok (.pointer (some ⟨fb, fo, none⟩)) wx) := Lib.hid hix
          clear hix hpl
          have k1 : wi.cell? ⟨fb, fo, none⟩ = some (.int .i64 x) := k0
          replace HS := Lib.hid ((Ev.cell k1).and HS.out)
          clear k0 k1
          have HDK : Hid (∀ wx : World, (Instr.slice 22 (.slice lb kj lc2) (some (.int .i64 1)) none none).run Try.prog wx = .ok (.slice (dropA lb lc2 1 1) (kj - 1) (lc2 - 1)) wx) := Lib.hid (fun wx => run_dropS (P := Try.prog) wx 22 3 iI 1 Try.underlying22 hiI hsI lb kj lc2 1 (by omega))
          have HRZ : Hid (∀ W, Mod (fun _ => False) wq1 W → Rd W 1 (.slice (dropA lb lc2 1 1) (kj - 1) (lc2 - 1)) (kj - 1) (zs.map (Value.int .i64))) := Lib.hid (fun W mW => by have h := rd_drop (HRJ.out W mW) (k := 1) (by omega); exact h)
          go_wp2_with fail
          refine (r4next_any G _ a1 n1 d1 a2 n2 d2 a3 n3 d3 ((HS.out.now).2.2.2.2.2.2.2.2.1) q2 q3 f1).mono ?_
          rintro e wq5 ⟨v', rfl, ⟨an, cn, rfl, hx'⟩, hmm⟩
          replace HS := Lib.hid (HS.out.step hmm)
          clear hmm
          clear hx'
          clear qbx_0 qbx_1 qbx_2 lbx
          obtain ⟨ln, hln⟩ : ∃ n, (nxtR G f1).length = n := ⟨_, rfl⟩
          rw [hln]
          have HDL : Hid (((ln : Int) != 1) = db) := Lib.hid (by rw [← hln]; exact HDB.out)
          clear hln
          have qf := (HS.out.now).1
          have hix := HIf.out
          have hdk := HDK.out
          cases db with
          | false =>
            have z1 : ((ln : Int) == 1) = true := by have h := HDL.out; simpa using h
            go_wp2_with fail
            go_roundw
            case rel =>
              refine ⟨j + 1, x, far + wtE G x, dropA lb lc2 1 1, lc2 - 1, by omega, rfl, by rw [show kl - (j + 1) = kj - 1 by have := HKJ.out; omega], ?_, ?_, (HS.out.now).2.2.1⟩
              · rw [HNX.out, HDC.out, nextL, if_neg (by rw [HDB.out]; decide), HZS.out]
              · rw [show kl - (j + 1) = kj - 1 by have := HKJ.out; omega, HZS.out]; exact HRZ.out
            case measure => show kj - 1 < kj; omega
          | true =>
            have z1 : ((ln : Int) == 1) = false := by have h := HDL.out; simpa using h
            have hnx := HNX2.out
            rw [HDC.out, nextL, if_pos HDB.out] at hnx
            simp only [Prod.mk.injEq] at hnx
            obtain ⟨⟨_, g2, g3, _⟩, g5⟩ := hnx
            have hfn := (HFIN.out).resolve_left (fun h => H9.out h.1)
            obtain ⟨_, _, hg1, hgn, hc4, fa, fb2, hfab, hfb2, hfc⟩ := hfn
            have hfz : fb2 = zs := by rw [← hfb2, ← HZS.out, ← g5]
            subst hfz
            try simp only [] at hfab hfc hgn hg1
            rw [← g2] at hfab
            have hsum : wE G ys = c3 + (wtE G x + wE G fb2) := by rw [hfab, wE_append, hfc]; rfl
            have hwl := HVV.out.2
            rw [hfab, wlk_append] at hwl
            have hwl2 := (Bool.and_eq_true_iff.1 hwl).2
            have HW3 : Hid (edB G x = true ∧ wlk G x fb2 = true) := Lib.hid (by rw [wlk] at hwl2; have h2 := Bool.and_eq_true_iff.1 hwl2; exact ⟨turn_ed2 G _ x h2.1, h2.2⟩)
            have hl2 := HLI.out
            rw [HSC.out, if_neg H9.out] at hl2
            have hdr : ys.drop g = fb2 := hfb2
            try simp only [] at hl2
            rw [hdr, ← g2] at hl2
            have hw3 : wE G ys - c3 - wtE G x = wE G fb2 := by omega
            rw [hw3] at hl2
            obtain ⟨m2, hm2⟩ : ∃ m2, m = m2 + 1 := ⟨m - 1, by omega⟩
            rw [hm2] at hl2
            have HL2 := Lib.hid hl2
            have HDJ : Hid (xs.drop (d + (j + 1)) = fb2) := Lib.hid (by rw [← HZS.out, ← HYS.out, List.drop_drop])
            have HG2 := Lib.hid g2
            have HM2 := Lib.hid hm2
            clear hl2 hm2 g2 g3 g5 hg1 hgn hc4 hfab hfb2 hfc hsum hwl hwl2 hdr hw3
            go_wp2_with fail
            go_roundw
            case rel =>
              have hkk : n - (d + (j + 1)) = kj - 1 := by have := HKJ.out; have := HKL.out; omega
              refine ⟨d + (j + 1), m2, nd + 1, x, L ++ [(c1, c2, c3, c4)], dropA lb lc2 1 1, lc2 - 1, by have := HKL.out; omega, rfl, by rw [hkk], ?_, ?_, by rw [List.length_append, HND.out]; rfl, by omega, ?_, ?_, ?_, (HS.out.now).2.2.2.2.2.1⟩
              · rw [HDJ.out]; exact HW3.out
              · have := HM2.out; have := HKL.out; omega
              · rw [HL2.out, HDJ.out, List.append_assoc, HG2.out]
              · intro W mW; rw [HDJ.out, hkk]; exact HRZ.out W mW
              · rw [← HLC.out]; exact (HS.out.now).2.2.2.1
            case measure => show kj - 1 < kl; have := HKJ.out; omega
end Go.Proofs.Ytagmnkobigecnaa
