/- The reference's Way by contract. -/
import Derived.Test.YtgiojfihgdifbaaKLeast
import Derived.Test.YtgiojfihgdifbaaKNext
import Derived.Test.YtgiojfihgdifbaaR4n
import Derived.Test.YtgiojfihgdifbaaRdT
import Derived.Test.YtgiojfihgdifbaaRegion2
import Derived.Test.YtgiojfihgdifbaaKReg
import Derived.Deep.DeepCutAuto
import Derived.Deep.CutBlock
namespace Go.Proofs.Ytgiojfihgdifbaa
open Go.RowKit Mile
set_option maxRecDepth 100000
theorem find_none {α : Type} (p : α → Bool) : ∀ (l : List α), (∀ x ∈ l, p x = false) → l.find? p = none
  | [], _ => rfl
  | x :: l, h => by rw [List.find?_cons, h x (by simp)]; exact find_none p l (fun y hy => h y (by simp [hy]))
theorem find_at2 {α : Type} (p : α → Bool) (l : List α) (k : Nat) (hk : k < l.length) (h : ∀ x ∈ l.take k, p x = false) (hp : p l[k] = true) : l.find? p = some l[k] := by
  have h1 : l = l.take k ++ l[k] :: l.drop (k + 1) := by rw [List.getElem_cons_drop, List.take_append_drop]
  conv => lhs; rw [h1]
  rw [List.find?_append, find_none p _ h, List.find?_cons, hp]
  rfl
theorem okN_at2 (G : GD) (d : List Int) (cl : List Bool) (e k : Nat) : okN G d cl e (k : Int) = (!clB cl (k : Int) && decide (0 ≤ dAt d k) && decide (dAt d k + (eAt G (k : Int)).2.2 = dAt d e)) := by
  unfold okN viaN; rw [Int.toNat_natCast]
/-- What each operation of the statement leaves. -/
def rwy_r14_0_F (nc : Nat) (cc : Nat) (xq : Nat) (ac : Option Addr) : List (Value → World → Prop) :=
  [IsV (.slice ac nc cc),
   IsV (.int .i64 (xq : Int)),
   IsV (.bool true),
   IsV (.bool false),
   IsV (.bool false),
   IsV (undef),
   IsV (undef),
   IsV (undef),
   IsV (undef),
   IsV (undef),
   IsV (.bool false),
   IsV (.bool false),
   IsV (undef),
   IsV (undef),
   IsV (undef),
   IsV (undef),
   IsV (undef),
   IsV (undef),
   IsV (undef),
   IsV (undef),
   IsV (undef),
   IsV (undef),
   IsV (undef),
   IsV (undef),
   IsV (undef),
   IsV (undef),
   IsV (undef),
   IsV (undef),
   IsV (.bool false)]
def rwy_r14_0_D : List (List Nat) := [[], [], [0, 1], [2], [3], [4], [4], [4], [4], [4], [4, 9], [10], [11], [11], [11], [11], [11], [11], [11], [11], [11], [11], [11], [11], [11], [11], [11], [11], [11, 27]]

/-- What each operation of the statement leaves. -/
def rwy_r14_1_F (n2 : Nat) (nc : Nat) (cc : Nat) (xq : Nat) (cd : Nat) (ac : Option Addr) (ad : Option Addr) (dx : Int) (g2b : Nat) (g2o : Nat) : List (Value → World → Prop) :=
  [IsV (.slice ac nc cc),
   IsV (.int .i64 (xq : Int)),
   IsV (.bool false),
   IsV (.bool true),
   IsV (.bool true),
   IsV (.slice ad n2 cd),
   IsV (.int .i64 (xq : Int)),
   IsV (.pointer (some ⟨g2b, g2o, none⟩)),
   IsV (.int .i64 dx),
   IsV (.bool false),
   IsV (.bool false),
   IsV (.bool false),
   IsV (undef),
   IsV (undef),
   IsV (undef),
   IsV (undef),
   IsV (undef),
   IsV (undef),
   IsV (undef),
   IsV (undef),
   IsV (undef),
   IsV (undef),
   IsV (undef),
   IsV (undef),
   IsV (undef),
   IsV (undef),
   IsV (undef),
   IsV (undef),
   IsV (.bool false)]
def rwy_r14_1_D : List (List Nat) := [[], [], [0, 1], [2], [3], [4], [4], [4, 5, 6], [4, 7], [4, 8], [4, 9], [10], [11], [11], [11], [11], [11], [11], [11], [11], [11], [11], [11], [11], [11], [11], [11], [11], [11, 27]]

/-- What each operation of the statement leaves. -/
def rwy_r14_2_F (a2 : Option Addr) (n2 : Nat) (d2 : Nat) (nc : Nat) (cc : Nat) (cur : Nat) (xq : Nat) (cd : Nat) (bx : Nat) (ac : Option Addr) (ad : Option Addr) (dc : Int) (dx : Int) (uc : Int) (kb : Nat) (ko : Nat) (g2b : Nat) (g2o : Nat) (hb : Nat) (ho : Nat) : List (Value → World → Prop) :=
  [IsV (.slice ac nc cc),
   IsV (.int .i64 (xq : Int)),
   IsV (.bool false),
   IsV (.bool true),
   IsV (.bool true),
   IsV (.slice ad n2 cd),
   IsV (.int .i64 (xq : Int)),
   IsV (.pointer (some ⟨g2b, g2o, none⟩)),
   IsV (.int .i64 dx),
   IsV (.bool true),
   IsV (.bool true),
   IsV (.bool true),
   IsV (.slice ad n2 cd),
   IsV (.int .i64 (xq : Int)),
   IsV (.pointer (some ⟨g2b, g2o, none⟩)),
   IsV (.int .i64 dx),
   IsV (.pointer (some ⟨bx, 1, none⟩)),
   IsV (.slice a2 n2 d2),
   IsV (.int .i64 (xq : Int)),
   IsV (.pointer (some ⟨hb, ho, none⟩)),
   IsV (.pointer (some ⟨hb, ho + 2, none⟩)),
   IsV (.int .i64 uc),
   IsV (.int .i64 (dx + uc)),
   IsV (.slice ad n2 cd),
   IsV (.int .i64 (cur : Int)),
   IsV (.pointer (some ⟨kb, ko, none⟩)),
   IsV (.int .i64 dc),
   IsV (.bool true),
   IsV (.bool true)]
def rwy_r14_2_D : List (List Nat) := [[], [], [0, 1], [2], [3], [4], [4], [4, 5, 6], [4, 7], [4, 8], [4, 9], [10], [11], [11], [11, 12, 13], [11, 14], [11], [11, 16], [11], [11, 17, 18], [11, 19], [11, 20], [11, 15, 21], [11], [11], [11, 23, 24], [11, 25], [11, 22, 26], [11, 27]]

/-- What each operation of the statement leaves. -/
def rwy_r14_3_F (a2 : Option Addr) (n2 : Nat) (d2 : Nat) (nc : Nat) (cc : Nat) (cur : Nat) (xq : Nat) (cd : Nat) (bx : Nat) (ac : Option Addr) (ad : Option Addr) (dc : Int) (dx : Int) (uc : Int) (kb : Nat) (ko : Nat) (g2b : Nat) (g2o : Nat) (hb : Nat) (ho : Nat) : List (Value → World → Prop) :=
  [IsV (.slice ac nc cc),
   IsV (.int .i64 (xq : Int)),
   IsV (.bool false),
   IsV (.bool true),
   IsV (.bool true),
   IsV (.slice ad n2 cd),
   IsV (.int .i64 (xq : Int)),
   IsV (.pointer (some ⟨g2b, g2o, none⟩)),
   IsV (.int .i64 dx),
   IsV (.bool true),
   IsV (.bool true),
   IsV (.bool true),
   IsV (.slice ad n2 cd),
   IsV (.int .i64 (xq : Int)),
   IsV (.pointer (some ⟨g2b, g2o, none⟩)),
   IsV (.int .i64 dx),
   IsV (.pointer (some ⟨bx, 1, none⟩)),
   IsV (.slice a2 n2 d2),
   IsV (.int .i64 (xq : Int)),
   IsV (.pointer (some ⟨hb, ho, none⟩)),
   IsV (.pointer (some ⟨hb, ho + 2, none⟩)),
   IsV (.int .i64 uc),
   IsV (.int .i64 (dx + uc)),
   IsV (.slice ad n2 cd),
   IsV (.int .i64 (cur : Int)),
   IsV (.pointer (some ⟨kb, ko, none⟩)),
   IsV (.int .i64 dc),
   IsV (.bool false),
   IsV (.bool false)]
def rwy_r14_3_D : List (List Nat) := [[], [], [0, 1], [2], [3], [4], [4], [4, 5, 6], [4, 7], [4, 8], [4, 9], [10], [11], [11], [11, 12, 13], [11, 14], [11], [11, 16], [11], [11, 17, 18], [11, 19], [11, 20], [11, 15, 21], [11], [11], [11, 23, 24], [11, 25], [11, 22, 26], [11, 27]]

set_option maxHeartbeats 32000000 in
theorem r4way_any (G : GD) (hm : May G) (w : World) (a1 : Option Addr) (n1 d1 : Nat) (a2 : Option Addr) (n2 d2 : Nat) (a3 : Option Addr) (n3 d3 : Nat) (h : GV w a1 n1 d1 a2 n2 d2 a3 n3 d3 G) (ev v : Int) (ac : Option Addr) (nc cc : Nat) (cl : List Bool) (hn : cl.length = nc) (hr : Rd w 1 (.slice ac nc cc) nc (cl.map Value.bool)) :
    Calls Try.prog 27 #[.agg #[.slice a1 n1 d1, .slice a2 n2 d2, .slice a3 n3 d3], .int .i64 ev, .int .i64 v, .slice ac nc cc] w (WayP G hm v cl ev w) := by
  have HS : Hid (Ev (Mod (fun _ => False) w) w) := Lib.hid (Ev.mod w)
  replace HS := Lib.hid ((Ev.gv h).and HS.out)
  replace HS := Lib.hid ((Ev.rd hr).and HS.out)
  have he := Lib.hid h.e
  have hnn := Lib.hid h.n
  have hb3 := Lib.hid h.b
  have HNC := Lib.hid hn
  clear h hr hn
  obtain ⟨iI, hiI, hzI, hsI, hbI⟩ := info_parts GR.infoI
  obtain ⟨iE, hiE, hzE, hsE, hbE⟩ := info_parts GR.infoE
  have hes : n2 ≤ 512 := by rw [← he.out]; exact hm.1.2.1
  have hns : n1 ≤ 256 := by rw [← hnn.out]; exact hm.1.1.2
  have hbs : n3 ≤ 1024 := by rw [← hb3.out]; exact hm.1.2.2
  by_cases hc : 0 ≤ ev ∧ ev < (G.E.length : Int)
  case neg =>
    have HC := Lib.hid hc
    go_enter Try.func27, Try.ntmps27
    go_upto_region 1 with fail
    obtain ⟨bx, hbx⟩ : ∃ b, w.heap.size = b := ⟨_, rfl⟩
    obtain ⟨wq1, hwq1⟩ : ∃ W, World.alloc w (.cells #[.slice a1 n1 d1, .slice a2 n2 d2, .slice a3 n3 d3] 29) = W := ⟨_, rfl⟩
    have hBbx : Blk wq1 bx 29 [.slice a1 n1 d1, .slice a2 n2 d2, .slice a3 n3 d3] := by rw [← hwq1, ← hbx]; exact Blk.new _ 29 [.slice a1 n1 d1, .slice a2 n2 d2, .slice a3 n3 d3]
    have hzbx : wq1.heap.size = bx + 1 := by rw [← hwq1, ← hbx]; exact heap_size_alloc _ _
    replace HS := Lib.hid (HS.out.step (w' := wq1) (by rw [← hwq1]; exact Mod.alloc _ _ _))
    replace HS := Lib.hid ((Ev.blk hBbx).and HS.out)
    try rw [hwq1]
    try rw [hbx]
    clear hzbx hBbx hbx hwq1
    have hbbx := (HS.out.now).1
    have qbx_0 := hbbx.cell 0 rfl
    have qbx_1 := hbbx.cell 1 rfl
    have qbx_2 := hbbx.cell 2 rfl
    have lbx := hbbx.lt
    clear hbbx
    go_wp2_with fail
    refine (r4edge_any G _ a1 n1 d1 a2 n2 d2 a3 n3 d3 ((HS.out.now).2.2.1) (by omega) ev).mono ?_
    rintro e wq2 ⟨rfl, hmm⟩
    replace HS := Lib.hid (HS.out.step hmm)
    clear hmm
    clear qbx_0 qbx_1 qbx_2 lbx
    have hbbx := (HS.out.now).1
    have qbx_0 := hbbx.cell 0 rfl
    have qbx_1 := hbbx.cell 1 rfl
    have qbx_2 := hbbx.cell 2 rfl
    have lbx := hbbx.lt
    clear hbbx
    rw [decide_eq_false hc]
    clear hc
    go_wp2_with fail
    go_ret2
    exact ⟨none, .inr ⟨fun x => HC.out x.2, rfl⟩, none, 0, 0, rfl, rfl, Rd.nil _ _, (HS.out.now).2.2.2⟩
  case pos =>
    obtain ⟨k, rfl⟩ := Int.eq_ofNat_of_zero_le hc.1
    have HC := Lib.hid hc
    have hkE : k < G.E.length := by omega
    have hkn : k < n2 := by rw [← he.out]; exact hkE
    by_cases hv : 0 ≤ v ∧ v < (G.N.length : Int)
    case neg =>
      have HV := Lib.hid hv
      go_enter Try.func27, Try.ntmps27
      go_upto_region 1 with fail
      obtain ⟨bx, hbx⟩ : ∃ b, w.heap.size = b := ⟨_, rfl⟩
      obtain ⟨wq3, hwq3⟩ : ∃ W, World.alloc w (.cells #[.slice a1 n1 d1, .slice a2 n2 d2, .slice a3 n3 d3] 29) = W := ⟨_, rfl⟩
      have hBbx : Blk wq3 bx 29 [.slice a1 n1 d1, .slice a2 n2 d2, .slice a3 n3 d3] := by rw [← hwq3, ← hbx]; exact Blk.new _ 29 [.slice a1 n1 d1, .slice a2 n2 d2, .slice a3 n3 d3]
      have hzbx : wq3.heap.size = bx + 1 := by rw [← hwq3, ← hbx]; exact heap_size_alloc _ _
      replace HS := Lib.hid (HS.out.step (w' := wq3) (by rw [← hwq3]; exact Mod.alloc _ _ _))
      replace HS := Lib.hid ((Ev.blk hBbx).and HS.out)
      try rw [hwq3]
      try rw [hbx]
      clear hzbx hBbx hbx hwq3
      have hbbx := (HS.out.now).1
      have qbx_0 := hbbx.cell 0 rfl
      have qbx_1 := hbbx.cell 1 rfl
      have qbx_2 := hbbx.cell 2 rfl
      have lbx := hbbx.lt
      clear hbbx
      go_wp2_with fail
      refine (r4edge_any G _ a1 n1 d1 a2 n2 d2 a3 n3 d3 ((HS.out.now).2.2.1) (by omega) (k : Int)).mono ?_
      rintro e wq4 ⟨rfl, hmm⟩
      replace HS := Lib.hid (HS.out.step hmm)
      clear hmm
      clear qbx_0 qbx_1 qbx_2 lbx
      have hbbx := (HS.out.now).1
      have qbx_0 := hbbx.cell 0 rfl
      have qbx_1 := hbbx.cell 1 rfl
      have qbx_2 := hbbx.cell 2 rfl
      have lbx := hbbx.lt
      clear hbbx
      rw [decide_eq_true hc]
      clear hc
      go_wp2_with fail
      refine (r4node_any G _ a1 n1 d1 a2 n2 d2 a3 n3 d3 ((HS.out.now).2.2.1) (by omega) v).mono ?_
      rintro e wq5 ⟨rfl, hmm⟩
      replace HS := Lib.hid (HS.out.step hmm)
      clear hmm
      clear qbx_0 qbx_1 qbx_2 lbx
      have hbbx := (HS.out.now).1
      have qbx_0 := hbbx.cell 0 rfl
      have qbx_1 := hbbx.cell 1 rfl
      have qbx_2 := hbbx.cell 2 rfl
      have lbx := hbbx.lt
      clear hbbx
      rw [decide_eq_false hv]
      clear hv
      go_wp2_with fail
      go_ret2
      exact ⟨none, .inr ⟨fun x => HV.out x.1, rfl⟩, none, 0, 0, rfl, rfl, Rd.nil _ _, (HS.out.now).2.2.2⟩
    case pos =>
      have HV := Lib.hid hv
      go_enter Try.func27, Try.ntmps27
      go_upto_region 1 with fail
      obtain ⟨bx, hbx⟩ : ∃ b, w.heap.size = b := ⟨_, rfl⟩
      obtain ⟨wq6, hwq6⟩ : ∃ W, World.alloc w (.cells #[.slice a1 n1 d1, .slice a2 n2 d2, .slice a3 n3 d3] 29) = W := ⟨_, rfl⟩
      have hBbx : Blk wq6 bx 29 [.slice a1 n1 d1, .slice a2 n2 d2, .slice a3 n3 d3] := by rw [← hwq6, ← hbx]; exact Blk.new _ 29 [.slice a1 n1 d1, .slice a2 n2 d2, .slice a3 n3 d3]
      have hzbx : wq6.heap.size = bx + 1 := by rw [← hwq6, ← hbx]; exact heap_size_alloc _ _
      replace HS := Lib.hid (HS.out.step (w' := wq6) (by rw [← hwq6]; exact Mod.alloc _ _ _))
      replace HS := Lib.hid ((Ev.blk hBbx).and HS.out)
      try rw [hwq6]
      try rw [hbx]
      clear hzbx hBbx hbx hwq6
      have hbbx := (HS.out.now).1
      have qbx_0 := hbbx.cell 0 rfl
      have qbx_1 := hbbx.cell 1 rfl
      have qbx_2 := hbbx.cell 2 rfl
      have lbx := hbbx.lt
      clear hbbx
      go_wp2_with fail
      refine (r4edge_any G _ a1 n1 d1 a2 n2 d2 a3 n3 d3 ((HS.out.now).2.2.1) (by omega) (k : Int)).mono ?_
      rintro e wq7 ⟨rfl, hmm⟩
      replace HS := Lib.hid (HS.out.step hmm)
      clear hmm
      clear qbx_0 qbx_1 qbx_2 lbx
      have hbbx := (HS.out.now).1
      have qbx_0 := hbbx.cell 0 rfl
      have qbx_1 := hbbx.cell 1 rfl
      have qbx_2 := hbbx.cell 2 rfl
      have lbx := hbbx.lt
      clear hbbx
      rw [decide_eq_true hc]
      clear hc
      go_wp2_with fail
      refine (r4node_any G _ a1 n1 d1 a2 n2 d2 a3 n3 d3 ((HS.out.now).2.2.1) (by omega) v).mono ?_
      rintro e wq8 ⟨rfl, hmm⟩
      replace HS := Lib.hid (HS.out.step hmm)
      clear hmm
      clear qbx_0 qbx_1 qbx_2 lbx
      have hbbx := (HS.out.now).1
      have qbx_0 := hbbx.cell 0 rfl
      have qbx_1 := hbbx.cell 1 rfl
      have qbx_2 := hbbx.cell 2 rfl
      have lbx := hbbx.lt
      clear hbbx
      rw [decide_eq_true hv]
      clear hv
      go_wp2_with fail
      refine (r4to_far G hm _ a1 n1 d1 a2 n2 d2 a3 n3 d3 ((HS.out.now).2.2.1) v ac nc cc cl HNC.out ((HS.out.now).2.1)).mono ?_
      rintro e wq9 ⟨x, rfl, ⟨ad, nd, cd, d, rfl, hdl, _, hdr, hdt⟩, hmm⟩
      replace HS := Lib.hid (HS.out.step hmm)
      clear hmm
      replace HS := Lib.hid ((Ev.rd hdr).and HS.out)
      have hdf : Fix (webTo G hm v cl) d := by rcases hdt with ⟨_, h⟩ | ⟨h, _⟩; exact h; exact absurd HV.out h
      have hd2 : n2 = nd := by rw [← hdl, hdf.len]; exact he.out.symm
      subst hd2
      have HDF := Lib.hid hdf
      have HDL := Lib.hid hdl
      clear hdt hdr hdf hdl
      clear qbx_0 qbx_1 qbx_2 lbx
      have hbbx := (HS.out.now).2.1
      have qbx_0 := hbbx.cell 0 rfl
      have qbx_1 := hbbx.cell 1 rfl
      have qbx_2 := hbbx.cell 2 rfl
      have lbx := hbbx.lt
      clear hbbx
      have hkd : k < d.length := by rw [HDL.out]; exact hkn
      have hdk0 := dAt_eq d k hkd
      obtain ⟨dk, HDK0⟩ : ∃ qz, d[k] = qz := ⟨_, rfl⟩
      have HDK := Lib.hid HDK0
      clear HDK0
      rw [HDK.out] at hdk0
      have HDA := Lib.hid hdk0
      clear hdk0
      obtain ⟨gb, go, hpl, e0⟩ := rd1 (HS.out.now).1 k hkd
      have hix := fun wx => run_indexS (P := Try.prog) wx 22 3 iI 1 Try.underlying22 hiI hsI ad n2 cd k hkn ((HS.out.now).1.some_ (by have := hkn; omega))
      rw [hpl] at hix
      have HIg := Lib.hid hix
      clear hix hpl
      rw [HDK.out] at e0
      replace HS := Lib.hid ((Ev.cell e0).and HS.out)
      clear e0
      have qg := (HS.out.now).1
      have hix := HIg.out
      by_cases c0 : dk < 0
      case pos =>
        have z0 : decide (dk < 0) = true := by simpa using c0
        go_wp2_with fail
        go_ret2
        exact ⟨none, .inl ⟨⟨HV.out, HC.out⟩, d, HDF.out, by rw [Int.toNat_natCast, HDA.out, if_neg (by omega)]⟩, none, 0, 0, rfl, rfl, Rd.nil _ _, (HS.out.now).2.2.2.2.2⟩
      case neg =>
        have z0 : decide (dk < 0) = false := by simp; omega
        have hmo := HDF.out.most (show G.E.length ≤ 512 from hm.1.2.1) k
        rw [HDA.out] at hmo
        go_wp2_with fail
        clear z0 qg hix
        clear qbx_0 qbx_1 qbx_2 lbx
        have hsz := ((HS.out.now).2.2.2.2.2).size
        replace HS := Lib.hid ((Ev.mod wq9).and HS.out)
        go_loopw [1, 11] (fun ev wv wr => ∃ (cur : Nat) (pre : List Int) (n : Nat) (aw : Option Addr) (cw : Nat), ev = .int .i64 cur ∧ wv = .slice aw n cw ∧ cur < n2 ∧ pre.length = n ∧ World.ownsRow wr wq9.heap.size 3 1 (.slice aw n cw) n (pre.map (Value.int .i64)) ∧ pre ++ wayN G d cl cur = wayN G d cl k ∧ 0 ≤ dAt d cur ∧ (n : Int) + dAt d cur ≤ dk ∧ Mod (fun _ => False) wq9 wr) (fun ev wv _ => (dAt d (intOf ev).toNat).toNat)
        case atStart => exact ⟨k, [], 0, none, 0, rfl, rfl, hkn, rfl, World.ownsRow_nil _ _ _ _, rfl, by rw [HDA.out]; omega, by rw [HDA.out]; omega, Mod.refl _ _⟩
        case round =>
          obtain ⟨cur, pre, n, aw, cw, rfl, rfl, hcur, hpl, ho, hpw, hc0, hcb, hmr⟩ := hrel
          obtain ⟨wi, hwo⟩ : ∃ x : World, x = wr := ⟨_, rfl⟩
          subst hwo
          replace HS := Lib.hid (HS.out.step hmr)
          clear hmr
          have hbbx := (HS.out.now).2.2.2.1
          have qbx_0 := hbbx.cell 0 rfl
          have qbx_1 := hbbx.cell 1 rfl
          have qbx_2 := hbbx.cell 2 rfl
          have lbx := hbbx.lt
          clear hbbx
          have HPL := Lib.hid hpl
          have HO := Lib.hid ho
          have HPW := Lib.hid hpw
          clear hpl ho hpw
          replace HS := Lib.hid (((show Ev (fun W => World.ownsRow W wq9.heap.size 3 1 (.slice aw n cw) n (pre.map (Value.int .i64))) wi from fun W mW => Own.keep HO.out mW (fun _ _ e => e))).and HS.out)
          clear qbx_0 qbx_1 qbx_2 lbx
          have hbbx := (HS.out.now).2.2.2.2.1
          have qbx_0 := hbbx.cell 0 rfl
          have qbx_1 := hbbx.cell 1 rfl
          have qbx_2 := hbbx.cell 2 rfl
          have lbx := hbbx.lt
          clear hbbx
          have hcd : cur < d.length := by rw [HDL.out]; exact hcur
          have hdc0 := dAt_eq d cur hcd
          obtain ⟨dc, HDC0⟩ : ∃ qz, d[cur] = qz := ⟨_, rfl⟩
          have HDC := Lib.hid HDC0
          clear HDC0
          rw [HDC.out] at hdc0
          have hno := @next_ok G hm v cl d HDF.out cur
          rw [hdc0] at hc0 hcb hno
          have HDE := Lib.hid hdc0
          clear hdc0
          obtain ⟨kb, ko, hpl, e0⟩ := rd1 (HS.out.now).2.2.2.1 cur hcd
          have hix := fun wx => run_indexS (P := Try.prog) wx 22 3 iI 1 Try.underlying22 hiI hsI ad n2 cd cur hcur ((HS.out.now).2.2.2.1.some_ (by have := hcur; omega))
          rw [hpl] at hix
          have HIk := Lib.hid hix
          clear hix hpl
          rw [HDC.out] at e0
          replace HS := Lib.hid ((Ev.cell e0).and HS.out)
          clear e0
          have qk := (HS.out.now).1
          have hix := HIk.out
          by_cases c1 : 0 < dc
          case neg =>
            have z0 : decide (0 < dc) = false := by simpa using c1
            have hwe := @wayN_end G d cl cur (by rw [HDE.out]; exact c1)
            have hpe : pre = wayN G d cl k := by have h := HPW.out; rw [hwe, List.append_nil] at h; exact h
            have HPE := Lib.hid hpe
            clear hwe hpe hno
            go_wp2_with fail
            go_ret2
            refine ⟨some (wayN G d cl k), .inl ⟨⟨HV.out, HC.out⟩, d, HDF.out, by rw [Int.toNat_natCast, HDA.out, if_pos (by omega)]⟩, aw, n, cw, rfl, by rw [← HPE.out]; exact HPL.out, ?_, (HS.out.now).2.2.2.2.2.2.2.2⟩
            rw [← HPE.out]
            exact Rd.ofOwn ((HS.out.now).2.1)
          case pos =>
            have z0 : decide (0 < dc) = true := by simpa using c1
            obtain ⟨j, hj, hjE, _, _, hj0, _, hjl⟩ := hno c1
            have hws := wayN_step HDF.out (by rw [HDE.out]; exact c1) hj
            have hjn : j < n2 := by rw [← he.out]; exact hjE
            have HJ := Lib.hid hj
            have HWS := Lib.hid hws
            clear hws hj
            go_wp2_with fail
            refine (r4next_any G _ a1 n1 d1 a2 n2 d2 a3 n3 d3 ((HS.out.now).2.2.2.2.2.2.2.1) (by omega) (by omega) (cur : Int)).mono ?_
            rintro e wq10 ⟨v', rfl, ⟨an, cn, rfl, hx'⟩, hmm⟩
            replace HS := Lib.hid (HS.out.step hmm)
            clear hmm
            clear z0 qk hix
            replace HS := Lib.hid ((Ev.rd hx').and HS.out)
            clear hx'
            have hnl := nxtR_len G (cur : Int)
            obtain ⟨ns, hns⟩ : ∃ x, nxtR G (cur : Int) = x := ⟨_, rfl⟩
            have hin : ∀ (i : Nat) (h : i < ns.length), ∃ q : Nat, ns[i] = (q : Int) ∧ q < G.E.length := by subst hns; intro i h; obtain ⟨q, h1, h2, _⟩ := nxtR_at G (cur : Int) i h; exact ⟨q, h1, h2⟩
            have hnx : ns.find? (okN G d cl cur) = some (j : Int) := by rw [← hns]; exact HJ.out
            rw [hns] at HS hnl ⊢
            obtain ⟨ln, hln⟩ : ∃ n, ns.length = n := ⟨_, rfl⟩
            rw [hln] at HS hnl ⊢
            have hl1 : ln ≤ 512 := by have := he.out; omega
            have HLN := Lib.hid hln
            have HIN := Lib.hid hin
            have HNX := Lib.hid hnx
            clear hln hnl hin hns hnx
            clear qbx_0 qbx_1 qbx_2 lbx
            have hbbx := (HS.out.now).2.2.2.2.2.2.1
            have qbx_0 := hbbx.cell 0 rfl
            have qbx_1 := hbbx.cell 1 rfl
            have qbx_2 := hbbx.cell 2 rfl
            have lbx := hbbx.lt
            clear hbbx
            go_wp2_with fail
            replace HS := Lib.hid ((Ev.mod wq10).and HS.out)
            go_loopw [13, 14] (fun s i wr => ∃ (q : Nat) (nx : Int), q ≤ ln ∧ i = .int .i64 q ∧ s = .int .i64 nx ∧ ((nx = -1 ∧ ∀ x ∈ ns.take q, okN G d cl cur x = false) ∨ nx = (j : Int)) ∧ Mod (fun _ => False) wq10 wr) (fun s i _ => ln - (intOf i).toNat)
            case atStart => exact ⟨0, -1, by omega, rfl, rfl, .inl ⟨rfl, by intro x hx; simp at hx⟩, Mod.refl _ _⟩
            case round =>
              obtain ⟨q, nx, hq, rfl, rfl, hs, hmr⟩ := hrel
              obtain ⟨wn, hwo⟩ : ∃ x : World, x = wr := ⟨_, rfl⟩
              subst hwo
              replace HS := Lib.hid (HS.out.step hmr)
              clear hmr
              clear qbx_0 qbx_1 qbx_2 lbx
              have hbbx := (HS.out.now).2.2.2.2.2.2.2.1
              have qbx_0 := hbbx.cell 0 rfl
              have qbx_1 := hbbx.cell 1 rfl
              have qbx_2 := hbbx.cell 2 rfl
              have lbx := hbbx.lt
              clear hbbx
              have HSS := Lib.hid hs
              clear hs
              by_cases hnx : nx < 0
              case neg =>
                obtain rfl : nx = (j : Int) := by rcases HSS.out with ⟨h, _⟩ | h; omega; exact h
                have z1 : decide ((j : Int) < 0) = false := by simp
                by_cases hql : q < ln
                case pos =>
                  have z2 : decide ((q : Int) < (ln : Int)) = true := by simp; omega
                  have z3 : decide ((j : Int) < 0) = false := by simp
                  have ho := (HS.out.now).2.2.2.1
                  have hmq := (HS.out.now).2.2.2.2.1
                  have hoa := fun o => Own.base (Own.keep ho (Mod.alloc (fun _ => False) wn o) (fun _ _ e => e)) (Nat.zero_le _)
                  have hb1 : n + 1 ≤ maxLen := by unfold maxLen; omega
                  clear qbx_0 qbx_1 qbx_2 lbx
                  go_wp2_with (at_builtin; refine wpList_append_any rfl (.tmp 89) (.tmp 91) 22 rfl 3 iI (.int .i64 0) 1 8 Try.underlying22 hiI hzI hsI hbI rfl (by decide) _ n (pre.map (Value.int .i64)) rfl (hoa _) _ 1 [.int .i64 (j : Int)] rfl (Rd.lit _ _ _ _ 1 rfl rfl (by decide)) (by intro u hu; simp at hu; subst hu; rfl) hb1 (by omega) ?_; intro v4 w4 hap)
                  obtain ⟨a4, c4, rfl⟩ := hap.form
                  have ho4 := hap.own
                  have lo4 := hap.low (B := wq9.heap.size) (by have h1 := hmq.size; simp; omega) (fun k hk => (ho.lt k hk).1)
                  have hm4 := (hmq.thenAlloc _).old hap.mod (fun i hi => (ho.lt i hi).1)
                  have ho5 := Own.rebase ho4 lo4
                  have HO5 := Lib.hid ho5
                  have HM4 := Lib.hid hm4
                  clear hap ho4 lo4 hm4 ho5 ho hmq hoa
                  go_wp2_with fail
                  go_roundw
                  case rel => exact ⟨j, pre ++ [(j : Int)], n + 1, a4, c4, rfl, rfl, hjn, by rw [List.length_append, HPL.out]; rfl, by rw [List.map_append]; exact HO5.out, by rw [← HPW.out, HWS.out, List.append_assoc]; rfl, hj0, by omega, HM4.out⟩
                  case measure => have h := HDE.out; simp [intOf]; omega
                case neg =>
                  have z2 : decide ((q : Int) < (ln : Int)) = false := by simp; omega
                  have z3 : decide ((j : Int) < 0) = false := by simp
                  have ho := (HS.out.now).2.2.2.1
                  have hmq := (HS.out.now).2.2.2.2.1
                  have hoa := fun o => Own.base (Own.keep ho (Mod.alloc (fun _ => False) wn o) (fun _ _ e => e)) (Nat.zero_le _)
                  have hb1 : n + 1 ≤ maxLen := by unfold maxLen; omega
                  clear qbx_0 qbx_1 qbx_2 lbx
                  go_wp2_with (at_builtin; refine wpList_append_any rfl (.tmp 89) (.tmp 91) 22 rfl 3 iI (.int .i64 0) 1 8 Try.underlying22 hiI hzI hsI hbI rfl (by decide) _ n (pre.map (Value.int .i64)) rfl (hoa _) _ 1 [.int .i64 (j : Int)] rfl (Rd.lit _ _ _ _ 1 rfl rfl (by decide)) (by intro u hu; simp at hu; subst hu; rfl) hb1 (by omega) ?_; intro v4 w4 hap)
                  obtain ⟨a4, c4, rfl⟩ := hap.form
                  have ho4 := hap.own
                  have lo4 := hap.low (B := wq9.heap.size) (by have h1 := hmq.size; simp; omega) (fun k hk => (ho.lt k hk).1)
                  have hm4 := (hmq.thenAlloc _).old hap.mod (fun i hi => (ho.lt i hi).1)
                  have ho5 := Own.rebase ho4 lo4
                  have HO5 := Lib.hid ho5
                  have HM4 := Lib.hid hm4
                  clear hap ho4 lo4 hm4 ho5 ho hmq hoa
                  go_wp2_with fail
                  go_roundw
                  case rel => exact ⟨j, pre ++ [(j : Int)], n + 1, a4, c4, rfl, rfl, hjn, by rw [List.length_append, HPL.out]; rfl, by rw [List.map_append]; exact HO5.out, by rw [← HPW.out, HWS.out, List.append_assoc]; rfl, hj0, by omega, HM4.out⟩
                  case measure => have h := HDE.out; simp [intOf]; omega
              case pos =>
                have hno2 : nx = -1 ∧ ∀ x ∈ ns.take q, okN G d cl cur x = false := by rcases HSS.out with h | h; exact h; omega
                obtain ⟨hnx1, hno3⟩ := hno2
                have HNO := Lib.hid hno3
                have HN1 := Lib.hid hnx1
                clear hno3 hnx1
                have hlq : q < ln := by
                  by_cases h : q < ln
                  · exact h
                  · exfalso
                    have h1 := HNO.out
                    rw [List.take_of_length_le (by rw [HLN.out]; omega)] at h1
                    have h2 := HNX.out
                    rw [find_none _ _ h1] at h2; cases h2
                have z1 : decide (nx < 0) = true := by simpa using hnx
                have z2 : decide ((q : Int) < (ln : Int)) = true := by simp; omega
                have hql : q < ns.length := by rw [HLN.out]; exact hlq
                obtain ⟨xq, hxq, hxE⟩ := HIN.out q hql
                have hxn : xq < n2 := by rw [← he.out]; exact hxE
                have hxd : xq < d.length := by rw [HDL.out]; exact hxn
                have hok := okN_at2 G d cl cur xq
                rw [← hxq, dAt_eq d xq hxd, HDE.out] at hok
                rw [hxq, eAt_eq G xq hxE] at hok
                have hw := edgeW G hm (xq : Int) ⟨by omega, by omega⟩
                rw [eAt_eq G xq hxE] at hw
                have hmx := HDF.out.most (show G.E.length ≤ 512 from hm.1.2.1) xq
                have hlo := HDF.out.low xq
                rw [dAt_eq d xq hxd] at hmx hlo
                have HXQ := Lib.hid hxq
                clear hxq
                obtain ⟨ua, Hua0⟩ : ∃ qz, (G.E[xq]).1 = qz := ⟨_, rfl⟩
                have Hua := Lib.hid Hua0
                clear Hua0
                obtain ⟨ub, Hub0⟩ : ∃ qz, (G.E[xq]).2.1 = qz := ⟨_, rfl⟩
                have Hub := Lib.hid Hub0
                clear Hub0
                obtain ⟨uc, Huc0⟩ : ∃ qz, (G.E[xq]).2.2 = qz := ⟨_, rfl⟩
                have Huc := Lib.hid Huc0
                clear Huc0
                obtain ⟨dx, HDX0⟩ : ∃ qz, d[xq] = qz := ⟨_, rfl⟩
                have HDX := Lib.hid HDX0
                clear HDX0
                obtain ⟨bv_, HCB0⟩ : ∃ qz, clB cl (xq : Int) = qz := ⟨_, rfl⟩
                have HCB := Lib.hid HCB0
                clear HCB0
                rw [Huc.out, HDX.out, HCB.out] at hok
                rw [HDX.out] at hmx hlo
                rw [Huc.out] at hw
                have hw1 := hw.1
                have hw2 := hw.2
                clear hw
                have HOK := Lib.hid hok
                clear hok
                obtain ⟨fb, fo, hpl, e0⟩ := rd1 (HS.out.now).2.1 q hql
                have hix := fun wx => run_indexS (P := Try.prog) wx 22 3 iI 1 Try.underlying22 hiI hsI an ln cn q hlq ((HS.out.now).2.1.some_ (by have := hlq; omega))
                rw [hpl] at hix
                have HIf := Lib.hid hix
                clear hix hpl
                rw [HXQ.out] at e0
                replace HS := Lib.hid ((Ev.cell e0).and HS.out)
                clear e0
                obtain ⟨g2b, g2o, hpl, e0⟩ := rd1 (HS.out.now).2.2.2.2.2.2.2.1 xq hxd
                have hix := fun wx => run_indexS (P := Try.prog) wx 22 3 iI 1 Try.underlying22 hiI hsI ad n2 cd xq hxn ((HS.out.now).2.2.2.2.2.2.2.1.some_ (by have := hxn; omega))
                rw [hpl] at hix
                have HIg2 := Lib.hid hix
                clear hix hpl
                rw [HDX.out] at e0
                replace HS := Lib.hid ((Ev.cell e0).and HS.out)
                clear e0
                obtain ⟨hb, ho, hpl, e0, e1, e2⟩ := rd3 (HS.out.now).2.2.2.2.2.2.2.2.2.2.2.1.re xq hxE
                have hix := fun wx => run_indexS (P := Try.prog) wx 26 43 iE 3 Try.underlying26 hiE hsE a2 n2 d2 xq hxn ((HS.out.now).2.2.2.2.2.2.2.2.2.2.2.1.re.some_ (by have := hxn; omega))
                rw [hpl] at hix
                have HIh := Lib.hid hix
                clear hix hpl
                rw [Hua.out] at e0
                replace HS := Lib.hid ((Ev.cell e0).and HS.out)
                clear e0
                rw [Hub.out] at e1
                replace HS := Lib.hid ((Ev.cell e1).and HS.out)
                clear e1
                rw [Huc.out] at e2
                replace HS := Lib.hid ((Ev.cell e2).and HS.out)
                clear e2
                have qf := (HS.out.now).2.2.2.2.1
                have hix1 := HIf.out
                go_upto_region 14 with fail
                clear z1 z2 qf hix1
                cases bv_ with
                | true =>
                  clear qbx_0 qbx_1 qbx_2 lbx
                  have HSd := Lib.hid HS.out.drew
                  refine wp_region_inv3 (act := ?actrwy_r14_0) (Mod (fun _ => False)) (fun i => (rwy_r14_0_F nc cc xq ac).getD i (fun _ _ => True)) (fun i => rwy_r14_0_D.getD i []) (by kernel_rfl) (by kernel_rfl) (by kernel_rfl) (by kernel_rfl) (fun _ => Mod.refl _ _)
                    (fun _ _ _ h k => h.trans k (fun _ _ e => e) (fun _ _ e => e)) ?hactrwy_r14_0 (stable_list ?_) ?_ ?_
                  case hactrwy_r14_0 => intro vs; simp only [putAll, Nat.zero_add, Nat.reduceAdd, Act.put, List.setIfInBounds_toArray, List.set_cons_succ, List.set_cons_zero]; exact rfl
                  · unfold rwy_r14_0_F
                    exact stable_cons (stable_val _) <| stable_cons (stable_val _) <| stable_cons (stable_val _) <| stable_cons (stable_val _) <| stable_cons (stable_val _) <| stable_cons (stable_val _) <| stable_cons (stable_val _) <| stable_cons (stable_val _) <| stable_cons (stable_val _) <| stable_cons (stable_val _) <| stable_cons (stable_val _) <| stable_cons (stable_val _) <| stable_cons (stable_val _) <| stable_cons (stable_val _) <| stable_cons (stable_val _) <| stable_cons (stable_val _) <| stable_cons (stable_val _) <| stable_cons (stable_val _) <| stable_cons (stable_val _) <| stable_cons (stable_val _) <| stable_cons (stable_val _) <| stable_cons (stable_val _) <| stable_cons (stable_val _) <| stable_cons (stable_val _) <| stable_cons (stable_val _) <| stable_cons (stable_val _) <| stable_cons (stable_val _) <| stable_cons (stable_val _) <| stable_cons (stable_val _) <| stable_nil
                  · refine opsOkA_cons ?_ ?_
                    · intro K vs W hR hD hK
                      clear hD
                      try dsimp only at hK ⊢
                      simp only [Act.put, List.setIfInBounds_toArray, List.set_cons_succ, List.set_cons_zero] at hK
                      go_wp2
                      exact hK _ _ rfl (Mod.refl _ _)
                    refine opsOkA_cons ?_ ?_
                    · intro K vs W hR hD hK
                      clear hD
                      try dsimp only at hK ⊢
                      simp only [Act.put, List.setIfInBounds_toArray, List.set_cons_succ, List.set_cons_zero] at hK
                      go_wp2
                      exact hK _ _ rfl (Mod.refl _ _)
                    refine opsOkA_cons ?_ ?_
                    · intro K vs W hR hD hK
                      have dq0 : vs 0 = .slice ac nc cc := hD 0 (by decide)
                      have dq1 : vs 1 = .int .i64 (xq : Int) := hD 1 (by decide)
                      clear hD
                      try dsimp only at hK ⊢
                      simp only [Act.put, List.setIfInBounds_toArray, List.set_cons_succ, List.set_cons_zero] at hK
                      generalize vs 0 = vq0 at hK dq0 ⊢
                      subst vq0
                      generalize vs 1 = vq1 at hK dq1 ⊢
                      subst vq1
                      go_wp2_with (go_at_call 48; refine (r4closed_any W ac nc cc cl HNC.out ((HSd.out.at (hR)).2.2.2.2.2.2.2.2.2.2.2.2.2.1) (xq : Int)).mono ?_; rintro e' w' ⟨rfl, rfl⟩; rw [HCB.out])
                      exact hK _ _ rfl (Mod.refl _ _)
                    refine opsOkA_cons ?_ ?_
                    · intro K vs W hR hD hK
                      have dq2 : vs 2 = .bool true := hD 2 (by decide)
                      clear hD
                      try dsimp only at hK ⊢
                      simp only [Act.put, List.setIfInBounds_toArray, List.set_cons_succ, List.set_cons_zero] at hK
                      generalize vs 2 = vq2 at hK dq2 ⊢
                      subst vq2
                      go_wp2
                      exact hK _ _ rfl (Mod.refl _ _)
                    refine opsOkA_cons ?_ ?_
                    · intro K vs W hR hD hK
                      have dq3 : vs 3 = .bool false := hD 3 (by decide)
                      clear hD
                      try dsimp only at hK ⊢
                      simp only [Act.put, List.setIfInBounds_toArray, List.set_cons_succ, List.set_cons_zero] at hK
                      generalize vs 3 = vq3 at hK dq3 ⊢
                      subst vq3
                      go_wp2
                      exact hK _ _ rfl (Mod.refl _ _)
                    refine opsOkA_cons ?_ ?_
                    · intro K vs W hR hD hK
                      have dq4 : vs 4 = .bool false := hD 4 (by decide)
                      clear hD
                      try dsimp only at hK ⊢
                      simp only [Act.put, List.setIfInBounds_toArray, List.set_cons_succ, List.set_cons_zero] at hK
                      generalize vs 4 = vq4 at hK dq4 ⊢
                      subst vq4
                      go_wp2
                      exact hK _ _ rfl (Mod.refl _ _)
                    refine opsOkA_cons ?_ ?_
                    · intro K vs W hR hD hK
                      have dq4 : vs 4 = .bool false := hD 4 (by decide)
                      clear hD
                      try dsimp only at hK ⊢
                      simp only [Act.put, List.setIfInBounds_toArray, List.set_cons_succ, List.set_cons_zero] at hK
                      generalize vs 4 = vq4 at hK dq4 ⊢
                      subst vq4
                      go_wp2
                      exact hK _ _ rfl (Mod.refl _ _)
                    refine opsOkA_cons ?_ ?_
                    · intro K vs W hR hD hK
                      have dq4 : vs 4 = .bool false := hD 4 (by decide)
                      clear hD
                      try dsimp only at hK ⊢
                      simp only [Act.put, List.setIfInBounds_toArray, List.set_cons_succ, List.set_cons_zero] at hK
                      generalize vs 4 = vq4 at hK dq4 ⊢
                      subst vq4
                      go_wp2_with fail
                      exact hK _ _ rfl (Mod.refl _ _)
                    refine opsOkA_cons ?_ ?_
                    · intro K vs W hR hD hK
                      have dq4 : vs 4 = .bool false := hD 4 (by decide)
                      clear hD
                      try dsimp only at hK ⊢
                      simp only [Act.put, List.setIfInBounds_toArray, List.set_cons_succ, List.set_cons_zero] at hK
                      generalize vs 4 = vq4 at hK dq4 ⊢
                      subst vq4
                      go_wp2
                      exact hK _ _ rfl (Mod.refl _ _)
                    refine opsOkA_cons ?_ ?_
                    · intro K vs W hR hD hK
                      have dq4 : vs 4 = .bool false := hD 4 (by decide)
                      clear hD
                      try dsimp only at hK ⊢
                      simp only [Act.put, List.setIfInBounds_toArray, List.set_cons_succ, List.set_cons_zero] at hK
                      generalize vs 4 = vq4 at hK dq4 ⊢
                      subst vq4
                      go_wp2
                      exact hK _ _ rfl (Mod.refl _ _)
                    refine opsOkA_cons ?_ ?_
                    · intro K vs W hR hD hK
                      have dq4 : vs 4 = .bool false := hD 4 (by decide)
                      have dq9 : vs 9 = undef := hD 9 (by decide)
                      clear hD
                      try dsimp only at hK ⊢
                      simp only [Act.put, List.setIfInBounds_toArray, List.set_cons_succ, List.set_cons_zero] at hK
                      generalize vs 4 = vq4 at hK dq4 ⊢
                      subst vq4
                      generalize vs 9 = vq9 at hK dq9 ⊢
                      subst vq9
                      go_wp2
                      exact hK _ _ rfl (Mod.refl _ _)
                    refine opsOkA_cons ?_ ?_
                    · intro K vs W hR hD hK
                      have dq10 : vs 10 = .bool false := hD 10 (by decide)
                      clear hD
                      try dsimp only at hK ⊢
                      simp only [Act.put, List.setIfInBounds_toArray, List.set_cons_succ, List.set_cons_zero] at hK
                      generalize vs 10 = vq10 at hK dq10 ⊢
                      subst vq10
                      go_wp2
                      exact hK _ _ rfl (Mod.refl _ _)
                    refine opsOkA_cons ?_ ?_
                    · intro K vs W hR hD hK
                      have dq11 : vs 11 = .bool false := hD 11 (by decide)
                      clear hD
                      try dsimp only at hK ⊢
                      simp only [Act.put, List.setIfInBounds_toArray, List.set_cons_succ, List.set_cons_zero] at hK
                      generalize vs 11 = vq11 at hK dq11 ⊢
                      subst vq11
                      go_wp2
                      exact hK _ _ rfl (Mod.refl _ _)
                    refine opsOkA_cons ?_ ?_
                    · intro K vs W hR hD hK
                      have dq11 : vs 11 = .bool false := hD 11 (by decide)
                      clear hD
                      try dsimp only at hK ⊢
                      simp only [Act.put, List.setIfInBounds_toArray, List.set_cons_succ, List.set_cons_zero] at hK
                      generalize vs 11 = vq11 at hK dq11 ⊢
                      subst vq11
                      go_wp2
                      exact hK _ _ rfl (Mod.refl _ _)
                    refine opsOkA_cons ?_ ?_
                    · intro K vs W hR hD hK
                      have dq11 : vs 11 = .bool false := hD 11 (by decide)
                      clear hD
                      try dsimp only at hK ⊢
                      simp only [Act.put, List.setIfInBounds_toArray, List.set_cons_succ, List.set_cons_zero] at hK
                      generalize vs 11 = vq11 at hK dq11 ⊢
                      subst vq11
                      go_wp2_with fail
                      exact hK _ _ rfl (Mod.refl _ _)
                    refine opsOkA_cons ?_ ?_
                    · intro K vs W hR hD hK
                      have dq11 : vs 11 = .bool false := hD 11 (by decide)
                      clear hD
                      try dsimp only at hK ⊢
                      simp only [Act.put, List.setIfInBounds_toArray, List.set_cons_succ, List.set_cons_zero] at hK
                      generalize vs 11 = vq11 at hK dq11 ⊢
                      subst vq11
                      go_wp2
                      exact hK _ _ rfl (Mod.refl _ _)
                    refine opsOkA_cons ?_ ?_
                    · intro K vs W hR hD hK
                      have dq11 : vs 11 = .bool false := hD 11 (by decide)
                      clear hD
                      try dsimp only at hK ⊢
                      simp only [Act.put, List.setIfInBounds_toArray, List.set_cons_succ, List.set_cons_zero] at hK
                      generalize vs 11 = vq11 at hK dq11 ⊢
                      subst vq11
                      go_wp2
                      exact hK _ _ rfl (Mod.refl _ _)
                    refine opsOkA_cons ?_ ?_
                    · intro K vs W hR hD hK
                      have dq11 : vs 11 = .bool false := hD 11 (by decide)
                      clear hD
                      try dsimp only at hK ⊢
                      simp only [Act.put, List.setIfInBounds_toArray, List.set_cons_succ, List.set_cons_zero] at hK
                      generalize vs 11 = vq11 at hK dq11 ⊢
                      subst vq11
                      go_wp2
                      exact hK _ _ rfl (Mod.refl _ _)
                    refine opsOkA_cons ?_ ?_
                    · intro K vs W hR hD hK
                      have dq11 : vs 11 = .bool false := hD 11 (by decide)
                      clear hD
                      try dsimp only at hK ⊢
                      simp only [Act.put, List.setIfInBounds_toArray, List.set_cons_succ, List.set_cons_zero] at hK
                      generalize vs 11 = vq11 at hK dq11 ⊢
                      subst vq11
                      go_wp2
                      exact hK _ _ rfl (Mod.refl _ _)
                    refine opsOkA_cons ?_ ?_
                    · intro K vs W hR hD hK
                      have dq11 : vs 11 = .bool false := hD 11 (by decide)
                      clear hD
                      try dsimp only at hK ⊢
                      simp only [Act.put, List.setIfInBounds_toArray, List.set_cons_succ, List.set_cons_zero] at hK
                      generalize vs 11 = vq11 at hK dq11 ⊢
                      subst vq11
                      go_wp2_with fail
                      exact hK _ _ rfl (Mod.refl _ _)
                    refine opsOkA_cons ?_ ?_
                    · intro K vs W hR hD hK
                      have dq11 : vs 11 = .bool false := hD 11 (by decide)
                      clear hD
                      try dsimp only at hK ⊢
                      simp only [Act.put, List.setIfInBounds_toArray, List.set_cons_succ, List.set_cons_zero] at hK
                      generalize vs 11 = vq11 at hK dq11 ⊢
                      subst vq11
                      go_wp2
                      exact hK _ _ rfl (Mod.refl _ _)
                    refine opsOkA_cons ?_ ?_
                    · intro K vs W hR hD hK
                      have dq11 : vs 11 = .bool false := hD 11 (by decide)
                      clear hD
                      try dsimp only at hK ⊢
                      simp only [Act.put, List.setIfInBounds_toArray, List.set_cons_succ, List.set_cons_zero] at hK
                      generalize vs 11 = vq11 at hK dq11 ⊢
                      subst vq11
                      go_wp2
                      exact hK _ _ rfl (Mod.refl _ _)
                    refine opsOkA_cons ?_ ?_
                    · intro K vs W hR hD hK
                      have dq11 : vs 11 = .bool false := hD 11 (by decide)
                      clear hD
                      try dsimp only at hK ⊢
                      simp only [Act.put, List.setIfInBounds_toArray, List.set_cons_succ, List.set_cons_zero] at hK
                      generalize vs 11 = vq11 at hK dq11 ⊢
                      subst vq11
                      go_wp2
                      exact hK _ _ rfl (Mod.refl _ _)
                    refine opsOkA_cons ?_ ?_
                    · intro K vs W hR hD hK
                      have dq11 : vs 11 = .bool false := hD 11 (by decide)
                      clear hD
                      try dsimp only at hK ⊢
                      simp only [Act.put, List.setIfInBounds_toArray, List.set_cons_succ, List.set_cons_zero] at hK
                      generalize vs 11 = vq11 at hK dq11 ⊢
                      subst vq11
                      go_wp2
                      exact hK _ _ rfl (Mod.refl _ _)
                    refine opsOkA_cons ?_ ?_
                    · intro K vs W hR hD hK
                      have dq11 : vs 11 = .bool false := hD 11 (by decide)
                      clear hD
                      try dsimp only at hK ⊢
                      simp only [Act.put, List.setIfInBounds_toArray, List.set_cons_succ, List.set_cons_zero] at hK
                      generalize vs 11 = vq11 at hK dq11 ⊢
                      subst vq11
                      go_wp2
                      exact hK _ _ rfl (Mod.refl _ _)
                    refine opsOkA_cons ?_ ?_
                    · intro K vs W hR hD hK
                      have dq11 : vs 11 = .bool false := hD 11 (by decide)
                      clear hD
                      try dsimp only at hK ⊢
                      simp only [Act.put, List.setIfInBounds_toArray, List.set_cons_succ, List.set_cons_zero] at hK
                      generalize vs 11 = vq11 at hK dq11 ⊢
                      subst vq11
                      go_wp2_with fail
                      exact hK _ _ rfl (Mod.refl _ _)
                    refine opsOkA_cons ?_ ?_
                    · intro K vs W hR hD hK
                      have dq11 : vs 11 = .bool false := hD 11 (by decide)
                      clear hD
                      try dsimp only at hK ⊢
                      simp only [Act.put, List.setIfInBounds_toArray, List.set_cons_succ, List.set_cons_zero] at hK
                      generalize vs 11 = vq11 at hK dq11 ⊢
                      subst vq11
                      go_wp2
                      exact hK _ _ rfl (Mod.refl _ _)
                    refine opsOkA_cons ?_ ?_
                    · intro K vs W hR hD hK
                      have dq11 : vs 11 = .bool false := hD 11 (by decide)
                      clear hD
                      try dsimp only at hK ⊢
                      simp only [Act.put, List.setIfInBounds_toArray, List.set_cons_succ, List.set_cons_zero] at hK
                      generalize vs 11 = vq11 at hK dq11 ⊢
                      subst vq11
                      go_wp2
                      exact hK _ _ rfl (Mod.refl _ _)
                    refine opsOkA_cons ?_ ?_
                    · intro K vs W hR hD hK
                      have dq11 : vs 11 = .bool false := hD 11 (by decide)
                      have dq27 : vs 27 = undef := hD 27 (by decide)
                      clear hD
                      try dsimp only at hK ⊢
                      simp only [Act.put, List.setIfInBounds_toArray, List.set_cons_succ, List.set_cons_zero] at hK
                      generalize vs 11 = vq11 at hK dq11 ⊢
                      subst vq11
                      generalize vs 27 = vq27 at hK dq27 ⊢
                      subst vq27
                      go_wp2
                      exact hK _ _ rfl (Mod.refl _ _)
                    exact opsOkA_nil
                  · intro vs wq11 hR hF
                    have dq28 : vs 28 = .bool false := hF 28 (by decide)
                    clear hF
                    try dsimp only
                    generalize vs 28 = vq28 at dq28 ⊢
                    subst dq28
                    replace HS := Lib.hid (HSd.out.step hR)
                    clear HSd hR
                    have hbbx := (HS.out.now).2.2.2.2.2.2.2.2.2.2.2.2.1
                    have qbx_0 := hbbx.cell 0 rfl
                    have qbx_1 := hbbx.cell 1 rfl
                    have qbx_2 := hbbx.cell 2 rfl
                    have lbx := hbbx.lt
                    clear hbbx
                    have hno3 : ∀ x ∈ ns.take (q + 1), okN G d cl cur x = false := by
                      intro x hx
                      rw [List.take_succ_eq_append_getElem hql] at hx
                      rcases List.mem_append.1 hx with h | h
                      · exact HNO.out x h
                      · rw [List.mem_singleton.1 h, HXQ.out, HOK.out]; rfl
                    have HN3 := Lib.hid hno3
                    clear hno3
                    go_wp2_with fail
                    go_roundw
                    case rel => exact ⟨q + 1, nx, hlq, by go_num, rfl, .inl ⟨HN1.out, HN3.out⟩, (HS.out.now).2.2.2.2.2.1⟩
                    case measure => simp [intOf]; omega
                | false =>
                  by_cases c2 : 0 ≤ dx
                  case neg =>
                    have Z9 := Lib.hid (show decide (0 ≤ dx) = false from by simp; omega)
                    clear qbx_0 qbx_1 qbx_2 lbx
                    have HSd := Lib.hid HS.out.drew
                    refine wp_region_inv3 (act := ?actrwy_r14_1) (Mod (fun _ => False)) (fun i => (rwy_r14_1_F n2 nc cc xq cd ac ad dx g2b g2o).getD i (fun _ _ => True)) (fun i => rwy_r14_1_D.getD i []) (by kernel_rfl) (by kernel_rfl) (by kernel_rfl) (by kernel_rfl) (fun _ => Mod.refl _ _)
                      (fun _ _ _ h k => h.trans k (fun _ _ e => e) (fun _ _ e => e)) ?hactrwy_r14_1 (stable_list ?_) ?_ ?_
                    case hactrwy_r14_1 => intro vs; simp only [putAll, Nat.zero_add, Nat.reduceAdd, Act.put, List.setIfInBounds_toArray, List.set_cons_succ, List.set_cons_zero]; exact rfl
                    · unfold rwy_r14_1_F
                      exact stable_cons (stable_val _) <| stable_cons (stable_val _) <| stable_cons (stable_val _) <| stable_cons (stable_val _) <| stable_cons (stable_val _) <| stable_cons (stable_val _) <| stable_cons (stable_val _) <| stable_cons (stable_val _) <| stable_cons (stable_val _) <| stable_cons (stable_val _) <| stable_cons (stable_val _) <| stable_cons (stable_val _) <| stable_cons (stable_val _) <| stable_cons (stable_val _) <| stable_cons (stable_val _) <| stable_cons (stable_val _) <| stable_cons (stable_val _) <| stable_cons (stable_val _) <| stable_cons (stable_val _) <| stable_cons (stable_val _) <| stable_cons (stable_val _) <| stable_cons (stable_val _) <| stable_cons (stable_val _) <| stable_cons (stable_val _) <| stable_cons (stable_val _) <| stable_cons (stable_val _) <| stable_cons (stable_val _) <| stable_cons (stable_val _) <| stable_cons (stable_val _) <| stable_nil
                    · refine opsOkA_cons ?_ ?_
                      · intro K vs W hR hD hK
                        clear hD
                        try dsimp only at hK ⊢
                        simp only [Act.put, List.setIfInBounds_toArray, List.set_cons_succ, List.set_cons_zero] at hK
                        go_wp2
                        exact hK _ _ rfl (Mod.refl _ _)
                      refine opsOkA_cons ?_ ?_
                      · intro K vs W hR hD hK
                        clear hD
                        try dsimp only at hK ⊢
                        simp only [Act.put, List.setIfInBounds_toArray, List.set_cons_succ, List.set_cons_zero] at hK
                        go_wp2
                        exact hK _ _ rfl (Mod.refl _ _)
                      refine opsOkA_cons ?_ ?_
                      · intro K vs W hR hD hK
                        have dq0 : vs 0 = .slice ac nc cc := hD 0 (by decide)
                        have dq1 : vs 1 = .int .i64 (xq : Int) := hD 1 (by decide)
                        clear hD
                        try dsimp only at hK ⊢
                        simp only [Act.put, List.setIfInBounds_toArray, List.set_cons_succ, List.set_cons_zero] at hK
                        generalize vs 0 = vq0 at hK dq0 ⊢
                        subst vq0
                        generalize vs 1 = vq1 at hK dq1 ⊢
                        subst vq1
                        go_wp2_with (go_at_call 48; refine (r4closed_any W ac nc cc cl HNC.out ((HSd.out.at (hR)).2.2.2.2.2.2.2.2.2.2.2.2.2.1) (xq : Int)).mono ?_; rintro e' w' ⟨rfl, rfl⟩; rw [HCB.out])
                        exact hK _ _ rfl (Mod.refl _ _)
                      refine opsOkA_cons ?_ ?_
                      · intro K vs W hR hD hK
                        have dq2 : vs 2 = .bool false := hD 2 (by decide)
                        clear hD
                        try dsimp only at hK ⊢
                        simp only [Act.put, List.setIfInBounds_toArray, List.set_cons_succ, List.set_cons_zero] at hK
                        generalize vs 2 = vq2 at hK dq2 ⊢
                        subst vq2
                        go_wp2
                        exact hK _ _ rfl (Mod.refl _ _)
                      refine opsOkA_cons ?_ ?_
                      · intro K vs W hR hD hK
                        have dq3 : vs 3 = .bool true := hD 3 (by decide)
                        clear hD
                        try dsimp only at hK ⊢
                        simp only [Act.put, List.setIfInBounds_toArray, List.set_cons_succ, List.set_cons_zero] at hK
                        generalize vs 3 = vq3 at hK dq3 ⊢
                        subst vq3
                        go_wp2
                        exact hK _ _ rfl (Mod.refl _ _)
                      refine opsOkA_cons ?_ ?_
                      · intro K vs W hR hD hK
                        have dq4 : vs 4 = .bool true := hD 4 (by decide)
                        clear hD
                        try dsimp only at hK ⊢
                        simp only [Act.put, List.setIfInBounds_toArray, List.set_cons_succ, List.set_cons_zero] at hK
                        generalize vs 4 = vq4 at hK dq4 ⊢
                        subst vq4
                        go_wp2
                        exact hK _ _ rfl (Mod.refl _ _)
                      refine opsOkA_cons ?_ ?_
                      · intro K vs W hR hD hK
                        have dq4 : vs 4 = .bool true := hD 4 (by decide)
                        clear hD
                        try dsimp only at hK ⊢
                        simp only [Act.put, List.setIfInBounds_toArray, List.set_cons_succ, List.set_cons_zero] at hK
                        generalize vs 4 = vq4 at hK dq4 ⊢
                        subst vq4
                        go_wp2
                        exact hK _ _ rfl (Mod.refl _ _)
                      refine opsOkA_cons ?_ ?_
                      · intro K vs W hR hD hK
                        have dq4 : vs 4 = .bool true := hD 4 (by decide)
                        have dq5 : vs 5 = .slice ad n2 cd := hD 5 (by decide)
                        have dq6 : vs 6 = .int .i64 (xq : Int) := hD 6 (by decide)
                        clear hD
                        try dsimp only at hK ⊢
                        simp only [Act.put, List.setIfInBounds_toArray, List.set_cons_succ, List.set_cons_zero] at hK
                        generalize vs 4 = vq4 at hK dq4 ⊢
                        subst vq4
                        generalize vs 5 = vq5 at hK dq5 ⊢
                        subst vq5
                        generalize vs 6 = vq6 at hK dq6 ⊢
                        subst vq6
                        have hix := HIg2.out
                        go_wp2_with fail
                        exact hK _ _ rfl (Mod.refl _ _)
                      refine opsOkA_cons ?_ ?_
                      · intro K vs W hR hD hK
                        have dq4 : vs 4 = .bool true := hD 4 (by decide)
                        have dq7 : vs 7 = .pointer (some ⟨g2b, g2o, none⟩) := hD 7 (by decide)
                        clear hD
                        try dsimp only at hK ⊢
                        simp only [Act.put, List.setIfInBounds_toArray, List.set_cons_succ, List.set_cons_zero] at hK
                        generalize vs 4 = vq4 at hK dq4 ⊢
                        subst vq4
                        generalize vs 7 = vq7 at hK dq7 ⊢
                        subst vq7
                        have c0 := (HSd.out.at (hR)).2.2.2.1
                        go_wp2
                        exact hK _ _ rfl (Mod.refl _ _)
                      refine opsOkA_cons ?_ ?_
                      · intro K vs W hR hD hK
                        have dq4 : vs 4 = .bool true := hD 4 (by decide)
                        have dq8 : vs 8 = .int .i64 dx := hD 8 (by decide)
                        clear hD
                        try dsimp only at hK ⊢
                        simp only [Act.put, List.setIfInBounds_toArray, List.set_cons_succ, List.set_cons_zero] at hK
                        generalize vs 4 = vq4 at hK dq4 ⊢
                        subst vq4
                        generalize vs 8 = vq8 at hK dq8 ⊢
                        subst vq8
                        have zz := Z9.out
                        go_wp2
                        exact hK _ _ rfl (Mod.refl _ _)
                      refine opsOkA_cons ?_ ?_
                      · intro K vs W hR hD hK
                        have dq4 : vs 4 = .bool true := hD 4 (by decide)
                        have dq9 : vs 9 = .bool false := hD 9 (by decide)
                        clear hD
                        try dsimp only at hK ⊢
                        simp only [Act.put, List.setIfInBounds_toArray, List.set_cons_succ, List.set_cons_zero] at hK
                        generalize vs 4 = vq4 at hK dq4 ⊢
                        subst vq4
                        generalize vs 9 = vq9 at hK dq9 ⊢
                        subst vq9
                        go_wp2
                        exact hK _ _ rfl (Mod.refl _ _)
                      refine opsOkA_cons ?_ ?_
                      · intro K vs W hR hD hK
                        have dq10 : vs 10 = .bool false := hD 10 (by decide)
                        clear hD
                        try dsimp only at hK ⊢
                        simp only [Act.put, List.setIfInBounds_toArray, List.set_cons_succ, List.set_cons_zero] at hK
                        generalize vs 10 = vq10 at hK dq10 ⊢
                        subst vq10
                        go_wp2
                        exact hK _ _ rfl (Mod.refl _ _)
                      refine opsOkA_cons ?_ ?_
                      · intro K vs W hR hD hK
                        have dq11 : vs 11 = .bool false := hD 11 (by decide)
                        clear hD
                        try dsimp only at hK ⊢
                        simp only [Act.put, List.setIfInBounds_toArray, List.set_cons_succ, List.set_cons_zero] at hK
                        generalize vs 11 = vq11 at hK dq11 ⊢
                        subst vq11
                        go_wp2
                        exact hK _ _ rfl (Mod.refl _ _)
                      refine opsOkA_cons ?_ ?_
                      · intro K vs W hR hD hK
                        have dq11 : vs 11 = .bool false := hD 11 (by decide)
                        clear hD
                        try dsimp only at hK ⊢
                        simp only [Act.put, List.setIfInBounds_toArray, List.set_cons_succ, List.set_cons_zero] at hK
                        generalize vs 11 = vq11 at hK dq11 ⊢
                        subst vq11
                        go_wp2
                        exact hK _ _ rfl (Mod.refl _ _)
                      refine opsOkA_cons ?_ ?_
                      · intro K vs W hR hD hK
                        have dq11 : vs 11 = .bool false := hD 11 (by decide)
                        clear hD
                        try dsimp only at hK ⊢
                        simp only [Act.put, List.setIfInBounds_toArray, List.set_cons_succ, List.set_cons_zero] at hK
                        generalize vs 11 = vq11 at hK dq11 ⊢
                        subst vq11
                        go_wp2_with fail
                        exact hK _ _ rfl (Mod.refl _ _)
                      refine opsOkA_cons ?_ ?_
                      · intro K vs W hR hD hK
                        have dq11 : vs 11 = .bool false := hD 11 (by decide)
                        clear hD
                        try dsimp only at hK ⊢
                        simp only [Act.put, List.setIfInBounds_toArray, List.set_cons_succ, List.set_cons_zero] at hK
                        generalize vs 11 = vq11 at hK dq11 ⊢
                        subst vq11
                        go_wp2
                        exact hK _ _ rfl (Mod.refl _ _)
                      refine opsOkA_cons ?_ ?_
                      · intro K vs W hR hD hK
                        have dq11 : vs 11 = .bool false := hD 11 (by decide)
                        clear hD
                        try dsimp only at hK ⊢
                        simp only [Act.put, List.setIfInBounds_toArray, List.set_cons_succ, List.set_cons_zero] at hK
                        generalize vs 11 = vq11 at hK dq11 ⊢
                        subst vq11
                        go_wp2
                        exact hK _ _ rfl (Mod.refl _ _)
                      refine opsOkA_cons ?_ ?_
                      · intro K vs W hR hD hK
                        have dq11 : vs 11 = .bool false := hD 11 (by decide)
                        clear hD
                        try dsimp only at hK ⊢
                        simp only [Act.put, List.setIfInBounds_toArray, List.set_cons_succ, List.set_cons_zero] at hK
                        generalize vs 11 = vq11 at hK dq11 ⊢
                        subst vq11
                        go_wp2
                        exact hK _ _ rfl (Mod.refl _ _)
                      refine opsOkA_cons ?_ ?_
                      · intro K vs W hR hD hK
                        have dq11 : vs 11 = .bool false := hD 11 (by decide)
                        clear hD
                        try dsimp only at hK ⊢
                        simp only [Act.put, List.setIfInBounds_toArray, List.set_cons_succ, List.set_cons_zero] at hK
                        generalize vs 11 = vq11 at hK dq11 ⊢
                        subst vq11
                        go_wp2
                        exact hK _ _ rfl (Mod.refl _ _)
                      refine opsOkA_cons ?_ ?_
                      · intro K vs W hR hD hK
                        have dq11 : vs 11 = .bool false := hD 11 (by decide)
                        clear hD
                        try dsimp only at hK ⊢
                        simp only [Act.put, List.setIfInBounds_toArray, List.set_cons_succ, List.set_cons_zero] at hK
                        generalize vs 11 = vq11 at hK dq11 ⊢
                        subst vq11
                        go_wp2_with fail
                        exact hK _ _ rfl (Mod.refl _ _)
                      refine opsOkA_cons ?_ ?_
                      · intro K vs W hR hD hK
                        have dq11 : vs 11 = .bool false := hD 11 (by decide)
                        clear hD
                        try dsimp only at hK ⊢
                        simp only [Act.put, List.setIfInBounds_toArray, List.set_cons_succ, List.set_cons_zero] at hK
                        generalize vs 11 = vq11 at hK dq11 ⊢
                        subst vq11
                        go_wp2
                        exact hK _ _ rfl (Mod.refl _ _)
                      refine opsOkA_cons ?_ ?_
                      · intro K vs W hR hD hK
                        have dq11 : vs 11 = .bool false := hD 11 (by decide)
                        clear hD
                        try dsimp only at hK ⊢
                        simp only [Act.put, List.setIfInBounds_toArray, List.set_cons_succ, List.set_cons_zero] at hK
                        generalize vs 11 = vq11 at hK dq11 ⊢
                        subst vq11
                        go_wp2
                        exact hK _ _ rfl (Mod.refl _ _)
                      refine opsOkA_cons ?_ ?_
                      · intro K vs W hR hD hK
                        have dq11 : vs 11 = .bool false := hD 11 (by decide)
                        clear hD
                        try dsimp only at hK ⊢
                        simp only [Act.put, List.setIfInBounds_toArray, List.set_cons_succ, List.set_cons_zero] at hK
                        generalize vs 11 = vq11 at hK dq11 ⊢
                        subst vq11
                        go_wp2
                        exact hK _ _ rfl (Mod.refl _ _)
                      refine opsOkA_cons ?_ ?_
                      · intro K vs W hR hD hK
                        have dq11 : vs 11 = .bool false := hD 11 (by decide)
                        clear hD
                        try dsimp only at hK ⊢
                        simp only [Act.put, List.setIfInBounds_toArray, List.set_cons_succ, List.set_cons_zero] at hK
                        generalize vs 11 = vq11 at hK dq11 ⊢
                        subst vq11
                        go_wp2
                        exact hK _ _ rfl (Mod.refl _ _)
                      refine opsOkA_cons ?_ ?_
                      · intro K vs W hR hD hK
                        have dq11 : vs 11 = .bool false := hD 11 (by decide)
                        clear hD
                        try dsimp only at hK ⊢
                        simp only [Act.put, List.setIfInBounds_toArray, List.set_cons_succ, List.set_cons_zero] at hK
                        generalize vs 11 = vq11 at hK dq11 ⊢
                        subst vq11
                        go_wp2
                        exact hK _ _ rfl (Mod.refl _ _)
                      refine opsOkA_cons ?_ ?_
                      · intro K vs W hR hD hK
                        have dq11 : vs 11 = .bool false := hD 11 (by decide)
                        clear hD
                        try dsimp only at hK ⊢
                        simp only [Act.put, List.setIfInBounds_toArray, List.set_cons_succ, List.set_cons_zero] at hK
                        generalize vs 11 = vq11 at hK dq11 ⊢
                        subst vq11
                        go_wp2_with fail
                        exact hK _ _ rfl (Mod.refl _ _)
                      refine opsOkA_cons ?_ ?_
                      · intro K vs W hR hD hK
                        have dq11 : vs 11 = .bool false := hD 11 (by decide)
                        clear hD
                        try dsimp only at hK ⊢
                        simp only [Act.put, List.setIfInBounds_toArray, List.set_cons_succ, List.set_cons_zero] at hK
                        generalize vs 11 = vq11 at hK dq11 ⊢
                        subst vq11
                        go_wp2
                        exact hK _ _ rfl (Mod.refl _ _)
                      refine opsOkA_cons ?_ ?_
                      · intro K vs W hR hD hK
                        have dq11 : vs 11 = .bool false := hD 11 (by decide)
                        clear hD
                        try dsimp only at hK ⊢
                        simp only [Act.put, List.setIfInBounds_toArray, List.set_cons_succ, List.set_cons_zero] at hK
                        generalize vs 11 = vq11 at hK dq11 ⊢
                        subst vq11
                        go_wp2
                        exact hK _ _ rfl (Mod.refl _ _)
                      refine opsOkA_cons ?_ ?_
                      · intro K vs W hR hD hK
                        have dq11 : vs 11 = .bool false := hD 11 (by decide)
                        have dq27 : vs 27 = undef := hD 27 (by decide)
                        clear hD
                        try dsimp only at hK ⊢
                        simp only [Act.put, List.setIfInBounds_toArray, List.set_cons_succ, List.set_cons_zero] at hK
                        generalize vs 11 = vq11 at hK dq11 ⊢
                        subst vq11
                        generalize vs 27 = vq27 at hK dq27 ⊢
                        subst vq27
                        go_wp2
                        exact hK _ _ rfl (Mod.refl _ _)
                      exact opsOkA_nil
                    · intro vs wq12 hR hF
                      have dq28 : vs 28 = .bool false := hF 28 (by decide)
                      clear hF
                      try dsimp only
                      generalize vs 28 = vq28 at dq28 ⊢
                      subst dq28
                      replace HS := Lib.hid (HSd.out.step hR)
                      clear HSd hR
                      have hbbx := (HS.out.now).2.2.2.2.2.2.2.2.2.2.2.2.1
                      have qbx_0 := hbbx.cell 0 rfl
                      have qbx_1 := hbbx.cell 1 rfl
                      have qbx_2 := hbbx.cell 2 rfl
                      have lbx := hbbx.lt
                      clear hbbx
                      have hno3 : ∀ x ∈ ns.take (q + 1), okN G d cl cur x = false := by
                        intro x hx
                        rw [List.take_succ_eq_append_getElem hql] at hx
                        rcases List.mem_append.1 hx with h | h
                        · exact HNO.out x h
                        · rw [List.mem_singleton.1 h, HXQ.out, HOK.out]; simp; omega
                      have HN3 := Lib.hid hno3
                      clear hno3
                      go_wp2_with fail
                      go_roundw
                      case rel => exact ⟨q + 1, nx, hlq, by go_num, rfl, .inl ⟨HN1.out, HN3.out⟩, (HS.out.now).2.2.2.2.2.1⟩
                      case measure => simp [intOf]; omega
                  case pos =>
                    by_cases c3 : dx + uc = dc
                    case pos =>
                      have Z9 := Lib.hid (show decide (0 ≤ dx) = true from by simp; omega)
                      have Z27 := Lib.hid (show (dx + uc == dc) = true from by rw [c3]; simp)
                      have C3 := Lib.hid c3
                      clear c3
                      clear qbx_0 qbx_1 qbx_2 lbx
                      have HSd := Lib.hid HS.out.drew
                      refine wp_region_inv3 (act := ?actrwy_r14_2) (Mod (fun _ => False)) (fun i => (rwy_r14_2_F a2 n2 d2 nc cc cur xq cd bx ac ad dc dx uc kb ko g2b g2o hb ho).getD i (fun _ _ => True)) (fun i => rwy_r14_2_D.getD i []) (by kernel_rfl) (by kernel_rfl) (by kernel_rfl) (by kernel_rfl) (fun _ => Mod.refl _ _)
                        (fun _ _ _ h k => h.trans k (fun _ _ e => e) (fun _ _ e => e)) ?hactrwy_r14_2 (stable_list ?_) ?_ ?_
                      case hactrwy_r14_2 => intro vs; simp only [putAll, Nat.zero_add, Nat.reduceAdd, Act.put, List.setIfInBounds_toArray, List.set_cons_succ, List.set_cons_zero]; exact rfl
                      · unfold rwy_r14_2_F
                        exact stable_cons (stable_val _) <| stable_cons (stable_val _) <| stable_cons (stable_val _) <| stable_cons (stable_val _) <| stable_cons (stable_val _) <| stable_cons (stable_val _) <| stable_cons (stable_val _) <| stable_cons (stable_val _) <| stable_cons (stable_val _) <| stable_cons (stable_val _) <| stable_cons (stable_val _) <| stable_cons (stable_val _) <| stable_cons (stable_val _) <| stable_cons (stable_val _) <| stable_cons (stable_val _) <| stable_cons (stable_val _) <| stable_cons (stable_val _) <| stable_cons (stable_val _) <| stable_cons (stable_val _) <| stable_cons (stable_val _) <| stable_cons (stable_val _) <| stable_cons (stable_val _) <| stable_cons (stable_val _) <| stable_cons (stable_val _) <| stable_cons (stable_val _) <| stable_cons (stable_val _) <| stable_cons (stable_val _) <| stable_cons (stable_val _) <| stable_cons (stable_val _) <| stable_nil
                      · refine opsOkA_cons ?_ ?_
                        · intro K vs W hR hD hK
                          clear hD
                          try dsimp only at hK ⊢
                          simp only [Act.put, List.setIfInBounds_toArray, List.set_cons_succ, List.set_cons_zero] at hK
                          go_wp2
                          exact hK _ _ rfl (Mod.refl _ _)
                        refine opsOkA_cons ?_ ?_
                        · intro K vs W hR hD hK
                          clear hD
                          try dsimp only at hK ⊢
                          simp only [Act.put, List.setIfInBounds_toArray, List.set_cons_succ, List.set_cons_zero] at hK
                          go_wp2
                          exact hK _ _ rfl (Mod.refl _ _)
                        refine opsOkA_cons ?_ ?_
                        · intro K vs W hR hD hK
                          have dq0 : vs 0 = .slice ac nc cc := hD 0 (by decide)
                          have dq1 : vs 1 = .int .i64 (xq : Int) := hD 1 (by decide)
                          clear hD
                          try dsimp only at hK ⊢
                          simp only [Act.put, List.setIfInBounds_toArray, List.set_cons_succ, List.set_cons_zero] at hK
                          generalize vs 0 = vq0 at hK dq0 ⊢
                          subst vq0
                          generalize vs 1 = vq1 at hK dq1 ⊢
                          subst vq1
                          go_wp2_with (go_at_call 48; refine (r4closed_any W ac nc cc cl HNC.out ((HSd.out.at (hR)).2.2.2.2.2.2.2.2.2.2.2.2.2.1) (xq : Int)).mono ?_; rintro e' w' ⟨rfl, rfl⟩; rw [HCB.out])
                          exact hK _ _ rfl (Mod.refl _ _)
                        refine opsOkA_cons ?_ ?_
                        · intro K vs W hR hD hK
                          have dq2 : vs 2 = .bool false := hD 2 (by decide)
                          clear hD
                          try dsimp only at hK ⊢
                          simp only [Act.put, List.setIfInBounds_toArray, List.set_cons_succ, List.set_cons_zero] at hK
                          generalize vs 2 = vq2 at hK dq2 ⊢
                          subst vq2
                          go_wp2
                          exact hK _ _ rfl (Mod.refl _ _)
                        refine opsOkA_cons ?_ ?_
                        · intro K vs W hR hD hK
                          have dq3 : vs 3 = .bool true := hD 3 (by decide)
                          clear hD
                          try dsimp only at hK ⊢
                          simp only [Act.put, List.setIfInBounds_toArray, List.set_cons_succ, List.set_cons_zero] at hK
                          generalize vs 3 = vq3 at hK dq3 ⊢
                          subst vq3
                          go_wp2
                          exact hK _ _ rfl (Mod.refl _ _)
                        refine opsOkA_cons ?_ ?_
                        · intro K vs W hR hD hK
                          have dq4 : vs 4 = .bool true := hD 4 (by decide)
                          clear hD
                          try dsimp only at hK ⊢
                          simp only [Act.put, List.setIfInBounds_toArray, List.set_cons_succ, List.set_cons_zero] at hK
                          generalize vs 4 = vq4 at hK dq4 ⊢
                          subst vq4
                          go_wp2
                          exact hK _ _ rfl (Mod.refl _ _)
                        refine opsOkA_cons ?_ ?_
                        · intro K vs W hR hD hK
                          have dq4 : vs 4 = .bool true := hD 4 (by decide)
                          clear hD
                          try dsimp only at hK ⊢
                          simp only [Act.put, List.setIfInBounds_toArray, List.set_cons_succ, List.set_cons_zero] at hK
                          generalize vs 4 = vq4 at hK dq4 ⊢
                          subst vq4
                          go_wp2
                          exact hK _ _ rfl (Mod.refl _ _)
                        refine opsOkA_cons ?_ ?_
                        · intro K vs W hR hD hK
                          have dq4 : vs 4 = .bool true := hD 4 (by decide)
                          have dq5 : vs 5 = .slice ad n2 cd := hD 5 (by decide)
                          have dq6 : vs 6 = .int .i64 (xq : Int) := hD 6 (by decide)
                          clear hD
                          try dsimp only at hK ⊢
                          simp only [Act.put, List.setIfInBounds_toArray, List.set_cons_succ, List.set_cons_zero] at hK
                          generalize vs 4 = vq4 at hK dq4 ⊢
                          subst vq4
                          generalize vs 5 = vq5 at hK dq5 ⊢
                          subst vq5
                          generalize vs 6 = vq6 at hK dq6 ⊢
                          subst vq6
                          have hix := HIg2.out
                          go_wp2_with fail
                          exact hK _ _ rfl (Mod.refl _ _)
                        refine opsOkA_cons ?_ ?_
                        · intro K vs W hR hD hK
                          have dq4 : vs 4 = .bool true := hD 4 (by decide)
                          have dq7 : vs 7 = .pointer (some ⟨g2b, g2o, none⟩) := hD 7 (by decide)
                          clear hD
                          try dsimp only at hK ⊢
                          simp only [Act.put, List.setIfInBounds_toArray, List.set_cons_succ, List.set_cons_zero] at hK
                          generalize vs 4 = vq4 at hK dq4 ⊢
                          subst vq4
                          generalize vs 7 = vq7 at hK dq7 ⊢
                          subst vq7
                          have c0 := (HSd.out.at (hR)).2.2.2.1
                          go_wp2
                          exact hK _ _ rfl (Mod.refl _ _)
                        refine opsOkA_cons ?_ ?_
                        · intro K vs W hR hD hK
                          have dq4 : vs 4 = .bool true := hD 4 (by decide)
                          have dq8 : vs 8 = .int .i64 dx := hD 8 (by decide)
                          clear hD
                          try dsimp only at hK ⊢
                          simp only [Act.put, List.setIfInBounds_toArray, List.set_cons_succ, List.set_cons_zero] at hK
                          generalize vs 4 = vq4 at hK dq4 ⊢
                          subst vq4
                          generalize vs 8 = vq8 at hK dq8 ⊢
                          subst vq8
                          have zz := Z9.out
                          go_wp2
                          exact hK _ _ rfl (Mod.refl _ _)
                        refine opsOkA_cons ?_ ?_
                        · intro K vs W hR hD hK
                          have dq4 : vs 4 = .bool true := hD 4 (by decide)
                          have dq9 : vs 9 = .bool true := hD 9 (by decide)
                          clear hD
                          try dsimp only at hK ⊢
                          simp only [Act.put, List.setIfInBounds_toArray, List.set_cons_succ, List.set_cons_zero] at hK
                          generalize vs 4 = vq4 at hK dq4 ⊢
                          subst vq4
                          generalize vs 9 = vq9 at hK dq9 ⊢
                          subst vq9
                          go_wp2
                          exact hK _ _ rfl (Mod.refl _ _)
                        refine opsOkA_cons ?_ ?_
                        · intro K vs W hR hD hK
                          have dq10 : vs 10 = .bool true := hD 10 (by decide)
                          clear hD
                          try dsimp only at hK ⊢
                          simp only [Act.put, List.setIfInBounds_toArray, List.set_cons_succ, List.set_cons_zero] at hK
                          generalize vs 10 = vq10 at hK dq10 ⊢
                          subst vq10
                          go_wp2
                          exact hK _ _ rfl (Mod.refl _ _)
                        refine opsOkA_cons ?_ ?_
                        · intro K vs W hR hD hK
                          have dq11 : vs 11 = .bool true := hD 11 (by decide)
                          clear hD
                          try dsimp only at hK ⊢
                          simp only [Act.put, List.setIfInBounds_toArray, List.set_cons_succ, List.set_cons_zero] at hK
                          generalize vs 11 = vq11 at hK dq11 ⊢
                          subst vq11
                          go_wp2
                          exact hK _ _ rfl (Mod.refl _ _)
                        refine opsOkA_cons ?_ ?_
                        · intro K vs W hR hD hK
                          have dq11 : vs 11 = .bool true := hD 11 (by decide)
                          clear hD
                          try dsimp only at hK ⊢
                          simp only [Act.put, List.setIfInBounds_toArray, List.set_cons_succ, List.set_cons_zero] at hK
                          generalize vs 11 = vq11 at hK dq11 ⊢
                          subst vq11
                          go_wp2
                          exact hK _ _ rfl (Mod.refl _ _)
                        refine opsOkA_cons ?_ ?_
                        · intro K vs W hR hD hK
                          have dq11 : vs 11 = .bool true := hD 11 (by decide)
                          have dq12 : vs 12 = .slice ad n2 cd := hD 12 (by decide)
                          have dq13 : vs 13 = .int .i64 (xq : Int) := hD 13 (by decide)
                          clear hD
                          try dsimp only at hK ⊢
                          simp only [Act.put, List.setIfInBounds_toArray, List.set_cons_succ, List.set_cons_zero] at hK
                          generalize vs 11 = vq11 at hK dq11 ⊢
                          subst vq11
                          generalize vs 12 = vq12 at hK dq12 ⊢
                          subst vq12
                          generalize vs 13 = vq13 at hK dq13 ⊢
                          subst vq13
                          have hix := HIg2.out
                          go_wp2_with fail
                          exact hK _ _ rfl (Mod.refl _ _)
                        refine opsOkA_cons ?_ ?_
                        · intro K vs W hR hD hK
                          have dq11 : vs 11 = .bool true := hD 11 (by decide)
                          have dq14 : vs 14 = .pointer (some ⟨g2b, g2o, none⟩) := hD 14 (by decide)
                          clear hD
                          try dsimp only at hK ⊢
                          simp only [Act.put, List.setIfInBounds_toArray, List.set_cons_succ, List.set_cons_zero] at hK
                          generalize vs 11 = vq11 at hK dq11 ⊢
                          subst vq11
                          generalize vs 14 = vq14 at hK dq14 ⊢
                          subst vq14
                          have c0 := (HSd.out.at (hR)).2.2.2.1
                          go_wp2
                          exact hK _ _ rfl (Mod.refl _ _)
                        refine opsOkA_cons ?_ ?_
                        · intro K vs W hR hD hK
                          have dq11 : vs 11 = .bool true := hD 11 (by decide)
                          clear hD
                          try dsimp only at hK ⊢
                          simp only [Act.put, List.setIfInBounds_toArray, List.set_cons_succ, List.set_cons_zero] at hK
                          generalize vs 11 = vq11 at hK dq11 ⊢
                          subst vq11
                          go_wp2
                          exact hK _ _ rfl (Mod.refl _ _)
                        refine opsOkA_cons ?_ ?_
                        · intro K vs W hR hD hK
                          have dq11 : vs 11 = .bool true := hD 11 (by decide)
                          have dq16 : vs 16 = .pointer (some ⟨bx, 1, none⟩) := hD 16 (by decide)
                          clear hD
                          try dsimp only at hK ⊢
                          simp only [Act.put, List.setIfInBounds_toArray, List.set_cons_succ, List.set_cons_zero] at hK
                          generalize vs 11 = vq11 at hK dq11 ⊢
                          subst vq11
                          generalize vs 16 = vq16 at hK dq16 ⊢
                          subst vq16
                          have q0 := ((HSd.out.at (hR)).2.2.2.2.2.2.2.2.2.2.2.2.1).cell 1 rfl
                          go_wp2
                          exact hK _ _ rfl (Mod.refl _ _)
                        refine opsOkA_cons ?_ ?_
                        · intro K vs W hR hD hK
                          have dq11 : vs 11 = .bool true := hD 11 (by decide)
                          clear hD
                          try dsimp only at hK ⊢
                          simp only [Act.put, List.setIfInBounds_toArray, List.set_cons_succ, List.set_cons_zero] at hK
                          generalize vs 11 = vq11 at hK dq11 ⊢
                          subst vq11
                          go_wp2
                          exact hK _ _ rfl (Mod.refl _ _)
                        refine opsOkA_cons ?_ ?_
                        · intro K vs W hR hD hK
                          have dq11 : vs 11 = .bool true := hD 11 (by decide)
                          have dq17 : vs 17 = .slice a2 n2 d2 := hD 17 (by decide)
                          have dq18 : vs 18 = .int .i64 (xq : Int) := hD 18 (by decide)
                          clear hD
                          try dsimp only at hK ⊢
                          simp only [Act.put, List.setIfInBounds_toArray, List.set_cons_succ, List.set_cons_zero] at hK
                          generalize vs 11 = vq11 at hK dq11 ⊢
                          subst vq11
                          generalize vs 17 = vq17 at hK dq17 ⊢
                          subst vq17
                          generalize vs 18 = vq18 at hK dq18 ⊢
                          subst vq18
                          have hix := HIh.out
                          go_wp2_with fail
                          exact hK _ _ rfl (Mod.refl _ _)
                        refine opsOkA_cons ?_ ?_
                        · intro K vs W hR hD hK
                          have dq11 : vs 11 = .bool true := hD 11 (by decide)
                          have dq19 : vs 19 = .pointer (some ⟨hb, ho, none⟩) := hD 19 (by decide)
                          clear hD
                          try dsimp only at hK ⊢
                          simp only [Act.put, List.setIfInBounds_toArray, List.set_cons_succ, List.set_cons_zero] at hK
                          generalize vs 11 = vq11 at hK dq11 ⊢
                          subst vq11
                          generalize vs 19 = vq19 at hK dq19 ⊢
                          subst vq19
                          go_wp2
                          exact hK _ _ rfl (Mod.refl _ _)
                        refine opsOkA_cons ?_ ?_
                        · intro K vs W hR hD hK
                          have dq11 : vs 11 = .bool true := hD 11 (by decide)
                          have dq20 : vs 20 = .pointer (some ⟨hb, ho + 2, none⟩) := hD 20 (by decide)
                          clear hD
                          try dsimp only at hK ⊢
                          simp only [Act.put, List.setIfInBounds_toArray, List.set_cons_succ, List.set_cons_zero] at hK
                          generalize vs 11 = vq11 at hK dq11 ⊢
                          subst vq11
                          generalize vs 20 = vq20 at hK dq20 ⊢
                          subst vq20
                          have c2 := (HSd.out.at (hR)).1
                          go_wp2
                          exact hK _ _ rfl (Mod.refl _ _)
                        refine opsOkA_cons ?_ ?_
                        · intro K vs W hR hD hK
                          have dq11 : vs 11 = .bool true := hD 11 (by decide)
                          have dq15 : vs 15 = .int .i64 dx := hD 15 (by decide)
                          have dq21 : vs 21 = .int .i64 uc := hD 21 (by decide)
                          clear hD
                          try dsimp only at hK ⊢
                          simp only [Act.put, List.setIfInBounds_toArray, List.set_cons_succ, List.set_cons_zero] at hK
                          generalize vs 11 = vq11 at hK dq11 ⊢
                          subst vq11
                          generalize vs 15 = vq15 at hK dq15 ⊢
                          subst vq15
                          generalize vs 21 = vq21 at hK dq21 ⊢
                          subst vq21
                          go_wp2
                          exact hK _ _ rfl (Mod.refl _ _)
                        refine opsOkA_cons ?_ ?_
                        · intro K vs W hR hD hK
                          have dq11 : vs 11 = .bool true := hD 11 (by decide)
                          clear hD
                          try dsimp only at hK ⊢
                          simp only [Act.put, List.setIfInBounds_toArray, List.set_cons_succ, List.set_cons_zero] at hK
                          generalize vs 11 = vq11 at hK dq11 ⊢
                          subst vq11
                          go_wp2
                          exact hK _ _ rfl (Mod.refl _ _)
                        refine opsOkA_cons ?_ ?_
                        · intro K vs W hR hD hK
                          have dq11 : vs 11 = .bool true := hD 11 (by decide)
                          clear hD
                          try dsimp only at hK ⊢
                          simp only [Act.put, List.setIfInBounds_toArray, List.set_cons_succ, List.set_cons_zero] at hK
                          generalize vs 11 = vq11 at hK dq11 ⊢
                          subst vq11
                          go_wp2
                          exact hK _ _ rfl (Mod.refl _ _)
                        refine opsOkA_cons ?_ ?_
                        · intro K vs W hR hD hK
                          have dq11 : vs 11 = .bool true := hD 11 (by decide)
                          have dq23 : vs 23 = .slice ad n2 cd := hD 23 (by decide)
                          have dq24 : vs 24 = .int .i64 (cur : Int) := hD 24 (by decide)
                          clear hD
                          try dsimp only at hK ⊢
                          simp only [Act.put, List.setIfInBounds_toArray, List.set_cons_succ, List.set_cons_zero] at hK
                          generalize vs 11 = vq11 at hK dq11 ⊢
                          subst vq11
                          generalize vs 23 = vq23 at hK dq23 ⊢
                          subst vq23
                          generalize vs 24 = vq24 at hK dq24 ⊢
                          subst vq24
                          have hix := HIk.out
                          go_wp2_with fail
                          exact hK _ _ rfl (Mod.refl _ _)
                        refine opsOkA_cons ?_ ?_
                        · intro K vs W hR hD hK
                          have dq11 : vs 11 = .bool true := hD 11 (by decide)
                          have dq25 : vs 25 = .pointer (some ⟨kb, ko, none⟩) := hD 25 (by decide)
                          clear hD
                          try dsimp only at hK ⊢
                          simp only [Act.put, List.setIfInBounds_toArray, List.set_cons_succ, List.set_cons_zero] at hK
                          generalize vs 11 = vq11 at hK dq11 ⊢
                          subst vq11
                          generalize vs 25 = vq25 at hK dq25 ⊢
                          subst vq25
                          have c0 := (HSd.out.at (hR)).2.2.2.2.2.2.2.1
                          go_wp2
                          exact hK _ _ rfl (Mod.refl _ _)
                        refine opsOkA_cons ?_ ?_
                        · intro K vs W hR hD hK
                          have dq11 : vs 11 = .bool true := hD 11 (by decide)
                          have dq22 : vs 22 = .int .i64 (dx + uc) := hD 22 (by decide)
                          have dq26 : vs 26 = .int .i64 dc := hD 26 (by decide)
                          clear hD
                          try dsimp only at hK ⊢
                          simp only [Act.put, List.setIfInBounds_toArray, List.set_cons_succ, List.set_cons_zero] at hK
                          generalize vs 11 = vq11 at hK dq11 ⊢
                          subst vq11
                          generalize vs 22 = vq22 at hK dq22 ⊢
                          subst vq22
                          generalize vs 26 = vq26 at hK dq26 ⊢
                          subst vq26
                          have zz := Z27.out
                          go_wp2
                          exact hK _ _ rfl (Mod.refl _ _)
                        refine opsOkA_cons ?_ ?_
                        · intro K vs W hR hD hK
                          have dq11 : vs 11 = .bool true := hD 11 (by decide)
                          have dq27 : vs 27 = .bool true := hD 27 (by decide)
                          clear hD
                          try dsimp only at hK ⊢
                          simp only [Act.put, List.setIfInBounds_toArray, List.set_cons_succ, List.set_cons_zero] at hK
                          generalize vs 11 = vq11 at hK dq11 ⊢
                          subst vq11
                          generalize vs 27 = vq27 at hK dq27 ⊢
                          subst vq27
                          go_wp2
                          exact hK _ _ rfl (Mod.refl _ _)
                        exact opsOkA_nil
                      · intro vs wq13 hR hF
                        have dq28 : vs 28 = .bool true := hF 28 (by decide)
                        clear hF
                        try dsimp only
                        generalize vs 28 = vq28 at dq28 ⊢
                        subst dq28
                        replace HS := Lib.hid (HSd.out.step hR)
                        clear HSd hR
                        have hbbx := (HS.out.now).2.2.2.2.2.2.2.2.2.2.2.2.1
                        have qbx_0 := hbbx.cell 0 rfl
                        have qbx_1 := hbbx.cell 1 rfl
                        have qbx_2 := hbbx.cell 2 rfl
                        have lbx := hbbx.lt
                        clear hbbx
                        go_wp2_with fail
                        go_roundw
                        case rel => exact ⟨q + 1, (xq : Int), hlq, by go_num, rfl, .inr (by have h := find_at2 _ ns q hql HNO.out (by rw [HXQ.out, HOK.out, C3.out]; simp; omega); rw [HNX.out, HXQ.out] at h; exact (Option.some.inj h).symm), (HS.out.now).2.2.2.2.2.1⟩
                        case measure => simp [intOf]; omega
                    case neg =>
                      have Z9 := Lib.hid (show decide (0 ≤ dx) = true from by simp; omega)
                      have Z27 := Lib.hid (show (dx + uc == dc) = false from beq_eq_false_iff_ne.2 c3)
                      have C3 := Lib.hid c3
                      clear c3
                      clear qbx_0 qbx_1 qbx_2 lbx
                      have HSd := Lib.hid HS.out.drew
                      refine wp_region_inv3 (act := ?actrwy_r14_3) (Mod (fun _ => False)) (fun i => (rwy_r14_3_F a2 n2 d2 nc cc cur xq cd bx ac ad dc dx uc kb ko g2b g2o hb ho).getD i (fun _ _ => True)) (fun i => rwy_r14_3_D.getD i []) (by kernel_rfl) (by kernel_rfl) (by kernel_rfl) (by kernel_rfl) (fun _ => Mod.refl _ _)
                        (fun _ _ _ h k => h.trans k (fun _ _ e => e) (fun _ _ e => e)) ?hactrwy_r14_3 (stable_list ?_) ?_ ?_
                      case hactrwy_r14_3 => intro vs; simp only [putAll, Nat.zero_add, Nat.reduceAdd, Act.put, List.setIfInBounds_toArray, List.set_cons_succ, List.set_cons_zero]; exact rfl
                      · unfold rwy_r14_3_F
                        exact stable_cons (stable_val _) <| stable_cons (stable_val _) <| stable_cons (stable_val _) <| stable_cons (stable_val _) <| stable_cons (stable_val _) <| stable_cons (stable_val _) <| stable_cons (stable_val _) <| stable_cons (stable_val _) <| stable_cons (stable_val _) <| stable_cons (stable_val _) <| stable_cons (stable_val _) <| stable_cons (stable_val _) <| stable_cons (stable_val _) <| stable_cons (stable_val _) <| stable_cons (stable_val _) <| stable_cons (stable_val _) <| stable_cons (stable_val _) <| stable_cons (stable_val _) <| stable_cons (stable_val _) <| stable_cons (stable_val _) <| stable_cons (stable_val _) <| stable_cons (stable_val _) <| stable_cons (stable_val _) <| stable_cons (stable_val _) <| stable_cons (stable_val _) <| stable_cons (stable_val _) <| stable_cons (stable_val _) <| stable_cons (stable_val _) <| stable_cons (stable_val _) <| stable_nil
                      · refine opsOkA_cons ?_ ?_
                        · intro K vs W hR hD hK
                          clear hD
                          try dsimp only at hK ⊢
                          simp only [Act.put, List.setIfInBounds_toArray, List.set_cons_succ, List.set_cons_zero] at hK
                          go_wp2
                          exact hK _ _ rfl (Mod.refl _ _)
                        refine opsOkA_cons ?_ ?_
                        · intro K vs W hR hD hK
                          clear hD
                          try dsimp only at hK ⊢
                          simp only [Act.put, List.setIfInBounds_toArray, List.set_cons_succ, List.set_cons_zero] at hK
                          go_wp2
                          exact hK _ _ rfl (Mod.refl _ _)
                        refine opsOkA_cons ?_ ?_
                        · intro K vs W hR hD hK
                          have dq0 : vs 0 = .slice ac nc cc := hD 0 (by decide)
                          have dq1 : vs 1 = .int .i64 (xq : Int) := hD 1 (by decide)
                          clear hD
                          try dsimp only at hK ⊢
                          simp only [Act.put, List.setIfInBounds_toArray, List.set_cons_succ, List.set_cons_zero] at hK
                          generalize vs 0 = vq0 at hK dq0 ⊢
                          subst vq0
                          generalize vs 1 = vq1 at hK dq1 ⊢
                          subst vq1
                          go_wp2_with (go_at_call 48; refine (r4closed_any W ac nc cc cl HNC.out ((HSd.out.at (hR)).2.2.2.2.2.2.2.2.2.2.2.2.2.1) (xq : Int)).mono ?_; rintro e' w' ⟨rfl, rfl⟩; rw [HCB.out])
                          exact hK _ _ rfl (Mod.refl _ _)
                        refine opsOkA_cons ?_ ?_
                        · intro K vs W hR hD hK
                          have dq2 : vs 2 = .bool false := hD 2 (by decide)
                          clear hD
                          try dsimp only at hK ⊢
                          simp only [Act.put, List.setIfInBounds_toArray, List.set_cons_succ, List.set_cons_zero] at hK
                          generalize vs 2 = vq2 at hK dq2 ⊢
                          subst vq2
                          go_wp2
                          exact hK _ _ rfl (Mod.refl _ _)
                        refine opsOkA_cons ?_ ?_
                        · intro K vs W hR hD hK
                          have dq3 : vs 3 = .bool true := hD 3 (by decide)
                          clear hD
                          try dsimp only at hK ⊢
                          simp only [Act.put, List.setIfInBounds_toArray, List.set_cons_succ, List.set_cons_zero] at hK
                          generalize vs 3 = vq3 at hK dq3 ⊢
                          subst vq3
                          go_wp2
                          exact hK _ _ rfl (Mod.refl _ _)
                        refine opsOkA_cons ?_ ?_
                        · intro K vs W hR hD hK
                          have dq4 : vs 4 = .bool true := hD 4 (by decide)
                          clear hD
                          try dsimp only at hK ⊢
                          simp only [Act.put, List.setIfInBounds_toArray, List.set_cons_succ, List.set_cons_zero] at hK
                          generalize vs 4 = vq4 at hK dq4 ⊢
                          subst vq4
                          go_wp2
                          exact hK _ _ rfl (Mod.refl _ _)
                        refine opsOkA_cons ?_ ?_
                        · intro K vs W hR hD hK
                          have dq4 : vs 4 = .bool true := hD 4 (by decide)
                          clear hD
                          try dsimp only at hK ⊢
                          simp only [Act.put, List.setIfInBounds_toArray, List.set_cons_succ, List.set_cons_zero] at hK
                          generalize vs 4 = vq4 at hK dq4 ⊢
                          subst vq4
                          go_wp2
                          exact hK _ _ rfl (Mod.refl _ _)
                        refine opsOkA_cons ?_ ?_
                        · intro K vs W hR hD hK
                          have dq4 : vs 4 = .bool true := hD 4 (by decide)
                          have dq5 : vs 5 = .slice ad n2 cd := hD 5 (by decide)
                          have dq6 : vs 6 = .int .i64 (xq : Int) := hD 6 (by decide)
                          clear hD
                          try dsimp only at hK ⊢
                          simp only [Act.put, List.setIfInBounds_toArray, List.set_cons_succ, List.set_cons_zero] at hK
                          generalize vs 4 = vq4 at hK dq4 ⊢
                          subst vq4
                          generalize vs 5 = vq5 at hK dq5 ⊢
                          subst vq5
                          generalize vs 6 = vq6 at hK dq6 ⊢
                          subst vq6
                          have hix := HIg2.out
                          go_wp2_with fail
                          exact hK _ _ rfl (Mod.refl _ _)
                        refine opsOkA_cons ?_ ?_
                        · intro K vs W hR hD hK
                          have dq4 : vs 4 = .bool true := hD 4 (by decide)
                          have dq7 : vs 7 = .pointer (some ⟨g2b, g2o, none⟩) := hD 7 (by decide)
                          clear hD
                          try dsimp only at hK ⊢
                          simp only [Act.put, List.setIfInBounds_toArray, List.set_cons_succ, List.set_cons_zero] at hK
                          generalize vs 4 = vq4 at hK dq4 ⊢
                          subst vq4
                          generalize vs 7 = vq7 at hK dq7 ⊢
                          subst vq7
                          have c0 := (HSd.out.at (hR)).2.2.2.1
                          go_wp2
                          exact hK _ _ rfl (Mod.refl _ _)
                        refine opsOkA_cons ?_ ?_
                        · intro K vs W hR hD hK
                          have dq4 : vs 4 = .bool true := hD 4 (by decide)
                          have dq8 : vs 8 = .int .i64 dx := hD 8 (by decide)
                          clear hD
                          try dsimp only at hK ⊢
                          simp only [Act.put, List.setIfInBounds_toArray, List.set_cons_succ, List.set_cons_zero] at hK
                          generalize vs 4 = vq4 at hK dq4 ⊢
                          subst vq4
                          generalize vs 8 = vq8 at hK dq8 ⊢
                          subst vq8
                          have zz := Z9.out
                          go_wp2
                          exact hK _ _ rfl (Mod.refl _ _)
                        refine opsOkA_cons ?_ ?_
                        · intro K vs W hR hD hK
                          have dq4 : vs 4 = .bool true := hD 4 (by decide)
                          have dq9 : vs 9 = .bool true := hD 9 (by decide)
                          clear hD
                          try dsimp only at hK ⊢
                          simp only [Act.put, List.setIfInBounds_toArray, List.set_cons_succ, List.set_cons_zero] at hK
                          generalize vs 4 = vq4 at hK dq4 ⊢
                          subst vq4
                          generalize vs 9 = vq9 at hK dq9 ⊢
                          subst vq9
                          go_wp2
                          exact hK _ _ rfl (Mod.refl _ _)
                        refine opsOkA_cons ?_ ?_
                        · intro K vs W hR hD hK
                          have dq10 : vs 10 = .bool true := hD 10 (by decide)
                          clear hD
                          try dsimp only at hK ⊢
                          simp only [Act.put, List.setIfInBounds_toArray, List.set_cons_succ, List.set_cons_zero] at hK
                          generalize vs 10 = vq10 at hK dq10 ⊢
                          subst vq10
                          go_wp2
                          exact hK _ _ rfl (Mod.refl _ _)
                        refine opsOkA_cons ?_ ?_
                        · intro K vs W hR hD hK
                          have dq11 : vs 11 = .bool true := hD 11 (by decide)
                          clear hD
                          try dsimp only at hK ⊢
                          simp only [Act.put, List.setIfInBounds_toArray, List.set_cons_succ, List.set_cons_zero] at hK
                          generalize vs 11 = vq11 at hK dq11 ⊢
                          subst vq11
                          go_wp2
                          exact hK _ _ rfl (Mod.refl _ _)
                        refine opsOkA_cons ?_ ?_
                        · intro K vs W hR hD hK
                          have dq11 : vs 11 = .bool true := hD 11 (by decide)
                          clear hD
                          try dsimp only at hK ⊢
                          simp only [Act.put, List.setIfInBounds_toArray, List.set_cons_succ, List.set_cons_zero] at hK
                          generalize vs 11 = vq11 at hK dq11 ⊢
                          subst vq11
                          go_wp2
                          exact hK _ _ rfl (Mod.refl _ _)
                        refine opsOkA_cons ?_ ?_
                        · intro K vs W hR hD hK
                          have dq11 : vs 11 = .bool true := hD 11 (by decide)
                          have dq12 : vs 12 = .slice ad n2 cd := hD 12 (by decide)
                          have dq13 : vs 13 = .int .i64 (xq : Int) := hD 13 (by decide)
                          clear hD
                          try dsimp only at hK ⊢
                          simp only [Act.put, List.setIfInBounds_toArray, List.set_cons_succ, List.set_cons_zero] at hK
                          generalize vs 11 = vq11 at hK dq11 ⊢
                          subst vq11
                          generalize vs 12 = vq12 at hK dq12 ⊢
                          subst vq12
                          generalize vs 13 = vq13 at hK dq13 ⊢
                          subst vq13
                          have hix := HIg2.out
                          go_wp2_with fail
                          exact hK _ _ rfl (Mod.refl _ _)
                        refine opsOkA_cons ?_ ?_
                        · intro K vs W hR hD hK
                          have dq11 : vs 11 = .bool true := hD 11 (by decide)
                          have dq14 : vs 14 = .pointer (some ⟨g2b, g2o, none⟩) := hD 14 (by decide)
                          clear hD
                          try dsimp only at hK ⊢
                          simp only [Act.put, List.setIfInBounds_toArray, List.set_cons_succ, List.set_cons_zero] at hK
                          generalize vs 11 = vq11 at hK dq11 ⊢
                          subst vq11
                          generalize vs 14 = vq14 at hK dq14 ⊢
                          subst vq14
                          have c0 := (HSd.out.at (hR)).2.2.2.1
                          go_wp2
                          exact hK _ _ rfl (Mod.refl _ _)
                        refine opsOkA_cons ?_ ?_
                        · intro K vs W hR hD hK
                          have dq11 : vs 11 = .bool true := hD 11 (by decide)
                          clear hD
                          try dsimp only at hK ⊢
                          simp only [Act.put, List.setIfInBounds_toArray, List.set_cons_succ, List.set_cons_zero] at hK
                          generalize vs 11 = vq11 at hK dq11 ⊢
                          subst vq11
                          go_wp2
                          exact hK _ _ rfl (Mod.refl _ _)
                        refine opsOkA_cons ?_ ?_
                        · intro K vs W hR hD hK
                          have dq11 : vs 11 = .bool true := hD 11 (by decide)
                          have dq16 : vs 16 = .pointer (some ⟨bx, 1, none⟩) := hD 16 (by decide)
                          clear hD
                          try dsimp only at hK ⊢
                          simp only [Act.put, List.setIfInBounds_toArray, List.set_cons_succ, List.set_cons_zero] at hK
                          generalize vs 11 = vq11 at hK dq11 ⊢
                          subst vq11
                          generalize vs 16 = vq16 at hK dq16 ⊢
                          subst vq16
                          have q0 := ((HSd.out.at (hR)).2.2.2.2.2.2.2.2.2.2.2.2.1).cell 1 rfl
                          go_wp2
                          exact hK _ _ rfl (Mod.refl _ _)
                        refine opsOkA_cons ?_ ?_
                        · intro K vs W hR hD hK
                          have dq11 : vs 11 = .bool true := hD 11 (by decide)
                          clear hD
                          try dsimp only at hK ⊢
                          simp only [Act.put, List.setIfInBounds_toArray, List.set_cons_succ, List.set_cons_zero] at hK
                          generalize vs 11 = vq11 at hK dq11 ⊢
                          subst vq11
                          go_wp2
                          exact hK _ _ rfl (Mod.refl _ _)
                        refine opsOkA_cons ?_ ?_
                        · intro K vs W hR hD hK
                          have dq11 : vs 11 = .bool true := hD 11 (by decide)
                          have dq17 : vs 17 = .slice a2 n2 d2 := hD 17 (by decide)
                          have dq18 : vs 18 = .int .i64 (xq : Int) := hD 18 (by decide)
                          clear hD
                          try dsimp only at hK ⊢
                          simp only [Act.put, List.setIfInBounds_toArray, List.set_cons_succ, List.set_cons_zero] at hK
                          generalize vs 11 = vq11 at hK dq11 ⊢
                          subst vq11
                          generalize vs 17 = vq17 at hK dq17 ⊢
                          subst vq17
                          generalize vs 18 = vq18 at hK dq18 ⊢
                          subst vq18
                          have hix := HIh.out
                          go_wp2_with fail
                          exact hK _ _ rfl (Mod.refl _ _)
                        refine opsOkA_cons ?_ ?_
                        · intro K vs W hR hD hK
                          have dq11 : vs 11 = .bool true := hD 11 (by decide)
                          have dq19 : vs 19 = .pointer (some ⟨hb, ho, none⟩) := hD 19 (by decide)
                          clear hD
                          try dsimp only at hK ⊢
                          simp only [Act.put, List.setIfInBounds_toArray, List.set_cons_succ, List.set_cons_zero] at hK
                          generalize vs 11 = vq11 at hK dq11 ⊢
                          subst vq11
                          generalize vs 19 = vq19 at hK dq19 ⊢
                          subst vq19
                          go_wp2
                          exact hK _ _ rfl (Mod.refl _ _)
                        refine opsOkA_cons ?_ ?_
                        · intro K vs W hR hD hK
                          have dq11 : vs 11 = .bool true := hD 11 (by decide)
                          have dq20 : vs 20 = .pointer (some ⟨hb, ho + 2, none⟩) := hD 20 (by decide)
                          clear hD
                          try dsimp only at hK ⊢
                          simp only [Act.put, List.setIfInBounds_toArray, List.set_cons_succ, List.set_cons_zero] at hK
                          generalize vs 11 = vq11 at hK dq11 ⊢
                          subst vq11
                          generalize vs 20 = vq20 at hK dq20 ⊢
                          subst vq20
                          have c2 := (HSd.out.at (hR)).1
                          go_wp2
                          exact hK _ _ rfl (Mod.refl _ _)
                        refine opsOkA_cons ?_ ?_
                        · intro K vs W hR hD hK
                          have dq11 : vs 11 = .bool true := hD 11 (by decide)
                          have dq15 : vs 15 = .int .i64 dx := hD 15 (by decide)
                          have dq21 : vs 21 = .int .i64 uc := hD 21 (by decide)
                          clear hD
                          try dsimp only at hK ⊢
                          simp only [Act.put, List.setIfInBounds_toArray, List.set_cons_succ, List.set_cons_zero] at hK
                          generalize vs 11 = vq11 at hK dq11 ⊢
                          subst vq11
                          generalize vs 15 = vq15 at hK dq15 ⊢
                          subst vq15
                          generalize vs 21 = vq21 at hK dq21 ⊢
                          subst vq21
                          go_wp2
                          exact hK _ _ rfl (Mod.refl _ _)
                        refine opsOkA_cons ?_ ?_
                        · intro K vs W hR hD hK
                          have dq11 : vs 11 = .bool true := hD 11 (by decide)
                          clear hD
                          try dsimp only at hK ⊢
                          simp only [Act.put, List.setIfInBounds_toArray, List.set_cons_succ, List.set_cons_zero] at hK
                          generalize vs 11 = vq11 at hK dq11 ⊢
                          subst vq11
                          go_wp2
                          exact hK _ _ rfl (Mod.refl _ _)
                        refine opsOkA_cons ?_ ?_
                        · intro K vs W hR hD hK
                          have dq11 : vs 11 = .bool true := hD 11 (by decide)
                          clear hD
                          try dsimp only at hK ⊢
                          simp only [Act.put, List.setIfInBounds_toArray, List.set_cons_succ, List.set_cons_zero] at hK
                          generalize vs 11 = vq11 at hK dq11 ⊢
                          subst vq11
                          go_wp2
                          exact hK _ _ rfl (Mod.refl _ _)
                        refine opsOkA_cons ?_ ?_
                        · intro K vs W hR hD hK
                          have dq11 : vs 11 = .bool true := hD 11 (by decide)
                          have dq23 : vs 23 = .slice ad n2 cd := hD 23 (by decide)
                          have dq24 : vs 24 = .int .i64 (cur : Int) := hD 24 (by decide)
                          clear hD
                          try dsimp only at hK ⊢
                          simp only [Act.put, List.setIfInBounds_toArray, List.set_cons_succ, List.set_cons_zero] at hK
                          generalize vs 11 = vq11 at hK dq11 ⊢
                          subst vq11
                          generalize vs 23 = vq23 at hK dq23 ⊢
                          subst vq23
                          generalize vs 24 = vq24 at hK dq24 ⊢
                          subst vq24
                          have hix := HIk.out
                          go_wp2_with fail
                          exact hK _ _ rfl (Mod.refl _ _)
                        refine opsOkA_cons ?_ ?_
                        · intro K vs W hR hD hK
                          have dq11 : vs 11 = .bool true := hD 11 (by decide)
                          have dq25 : vs 25 = .pointer (some ⟨kb, ko, none⟩) := hD 25 (by decide)
                          clear hD
                          try dsimp only at hK ⊢
                          simp only [Act.put, List.setIfInBounds_toArray, List.set_cons_succ, List.set_cons_zero] at hK
                          generalize vs 11 = vq11 at hK dq11 ⊢
                          subst vq11
                          generalize vs 25 = vq25 at hK dq25 ⊢
                          subst vq25
                          have c0 := (HSd.out.at (hR)).2.2.2.2.2.2.2.1
                          go_wp2
                          exact hK _ _ rfl (Mod.refl _ _)
                        refine opsOkA_cons ?_ ?_
                        · intro K vs W hR hD hK
                          have dq11 : vs 11 = .bool true := hD 11 (by decide)
                          have dq22 : vs 22 = .int .i64 (dx + uc) := hD 22 (by decide)
                          have dq26 : vs 26 = .int .i64 dc := hD 26 (by decide)
                          clear hD
                          try dsimp only at hK ⊢
                          simp only [Act.put, List.setIfInBounds_toArray, List.set_cons_succ, List.set_cons_zero] at hK
                          generalize vs 11 = vq11 at hK dq11 ⊢
                          subst vq11
                          generalize vs 22 = vq22 at hK dq22 ⊢
                          subst vq22
                          generalize vs 26 = vq26 at hK dq26 ⊢
                          subst vq26
                          have zz := Z27.out
                          go_wp2
                          exact hK _ _ rfl (Mod.refl _ _)
                        refine opsOkA_cons ?_ ?_
                        · intro K vs W hR hD hK
                          have dq11 : vs 11 = .bool true := hD 11 (by decide)
                          have dq27 : vs 27 = .bool false := hD 27 (by decide)
                          clear hD
                          try dsimp only at hK ⊢
                          simp only [Act.put, List.setIfInBounds_toArray, List.set_cons_succ, List.set_cons_zero] at hK
                          generalize vs 11 = vq11 at hK dq11 ⊢
                          subst vq11
                          generalize vs 27 = vq27 at hK dq27 ⊢
                          subst vq27
                          go_wp2
                          exact hK _ _ rfl (Mod.refl _ _)
                        exact opsOkA_nil
                      · intro vs wq14 hR hF
                        have dq28 : vs 28 = .bool false := hF 28 (by decide)
                        clear hF
                        try dsimp only
                        generalize vs 28 = vq28 at dq28 ⊢
                        subst dq28
                        replace HS := Lib.hid (HSd.out.step hR)
                        clear HSd hR
                        have hbbx := (HS.out.now).2.2.2.2.2.2.2.2.2.2.2.2.1
                        have qbx_0 := hbbx.cell 0 rfl
                        have qbx_1 := hbbx.cell 1 rfl
                        have qbx_2 := hbbx.cell 2 rfl
                        have lbx := hbbx.lt
                        clear hbbx
                        have hno3 : ∀ x ∈ ns.take (q + 1), okN G d cl cur x = false := by
                          intro x hx
                          rw [List.take_succ_eq_append_getElem hql] at hx
                          rcases List.mem_append.1 hx with h | h
                          · exact HNO.out x h
                          · rw [List.mem_singleton.1 h, HXQ.out, HOK.out]; simp [C3.out]
                        have HN3 := Lib.hid hno3
                        clear hno3
                        go_wp2_with fail
                        go_roundw
                        case rel => exact ⟨q + 1, nx, hlq, by go_num, rfl, .inl ⟨HN1.out, HN3.out⟩, (HS.out.now).2.2.2.2.2.1⟩
                        case measure => simp [intOf]; omega
end Go.Proofs.Ytgiojfihgdifbaa
