/- MessageTells walked. -/
import Derived.Test.YtabfmnlpipbegaaKRef
import Derived.Test.YtabfmnlpipbegaaEvF
import Derived.Test.YtabfmnlpipbegaaRegion3
import Derived.Deep.DeepCutAuto
import Derived.Deep.CutBlock
namespace Go.Proofs.Ytabfmnlpipbegaa
open Go.RowKit Mile
set_option maxRecDepth 100000
theorem decM_er {b : List Int} {D : MsD} {z : Int} (h : decM b = (D, z)) : z = 0 ∨ z = 2 := by
  unfold decM at h
  split at h
  · exact .inl (congrArg Prod.snd h).symm
  · exact .inr (congrArg Prod.snd h).symm
/-- What each operation of the statement leaves. -/
def mt_r7_0_F (a : Option Addr) (a2 : Option Addr) (a3 : Option Addr) (a4 : Option Addr) (a9 : Option Addr) (a8 : Option Addr) (n : Nat) (c : Nat) (n2 : Nat) (c2 : Nat) (c3 : Nat) (c4 : Nat) (uL : Nat) (c9 : Nat) (c8 : Nat) (mk : Int) (mp : Int) (md : Int) (mw : Int) (mc : Int) (me : Int) (mf : Int) (ml : Int) (yk : Int) (yp : Int) (yd : Int) (yw : Int) (yc : Int) (yh : Int) (yf : Int) (yl : Int) (uk : Int) (up : Int) (ud : Int) (uw : Int) (uc : Int) (uh : Int) (uf : Int) (ul : Int) (Y : ByteArray) (smo : Bool) : List (Value → World → Prop) :=
  [IsV (.slice a3 0 c3),
   IsV (.string Y),
   IsV (.slice a4 0 c4),
   IsV (.string Y),
   IsV (.bool true),
   IsV (.bool true),
   IsV (.int .i64 1),
   IsV (.bool false),
   IsV (.bool false),
   IsV (.bool true),
   IsV (.bool true),
   IsV (.bool true),
   IsV (.bool false),
   IsV (.bool false),
   IsV (.int .i64 1),
   IsV (.bool true),
   IsV (.bool true),
   IsV (.slice a3 0 c3),
   IsV (.int .i64 0),
   IsV (.bool true),
   IsV (.bool true),
   IsV (.bool true),
   IsV (.bool true),
   IsV (.bool true),
   IsV (.agg #[.int .i64 uk, .int .i64 up, .int .i64 ud, .slice a9 uL c9, .int .i64 uw, .int .i64 uc, .int .i64 uh, .int .i64 uf, .int .i64 ul]),
   IsV (.agg #[.int .i64 uk, .int .i64 up, .int .i64 ud, .slice a8 uL c8, .int .i64 uw, .int .i64 uc, .int .i64 uh, .int .i64 uf, .int .i64 ul]),
   IsV (.bool true),
   IsV (.bool true),
   IsV (.bool true),
   IsV (.int .i64 0),
   IsV (.bool true),
   IsV (.bool true),
   IsV (.bool true),
   IsV (.bool true),
   IsV (.bool true),
   IsV (.bool true),
   IsV (.bool true),
   IsV (undef),
   IsV (undef),
   IsV (.bool true),
   IsV (.bool true),
   IsV (.bool true),
   IsV (.agg #[.int .i64 mk, .int .i64 mp, .int .i64 md, .slice a n c, .int .i64 mw, .int .i64 mc, .int .i64 me, .int .i64 mf, .int .i64 ml]),
   IsV (.agg #[.int .i64 yk, .int .i64 yp, .int .i64 yd, .slice a2 n2 c2, .int .i64 yw, .int .i64 yc, .int .i64 yh, .int .i64 yf, .int .i64 yl]),
   IsV (.bool smo),
   IsV (.agg #[.int .i64 mk, .int .i64 mp, .int .i64 md, .slice a n c, .int .i64 mw, .int .i64 mc, .int .i64 me, .int .i64 mf, .int .i64 ml]),
   IsV (.agg #[.int .i64 yk, .int .i64 yp, .int .i64 yd, .slice a2 n2 c2, .int .i64 yw, .int .i64 yc, .int .i64 yh, .int .i64 yf, .int .i64 yl]),
   IsV (.bool smo),
   IsV (.bool true),
   IsV (.bool true),
   IsV (.bool true),
   IsV (.agg #[.int .i64 mk, .int .i64 mp, .int .i64 md, .slice a n c, .int .i64 mw, .int .i64 mc, .int .i64 me, .int .i64 mf, .int .i64 ml]),
   IsV (.agg #[.int .i64 mk, .int .i64 mp, .int .i64 md, .slice a n c, .int .i64 mw, .int .i64 mc, .int .i64 me, .int .i64 mf, .int .i64 ml]),
   IsV (.bool true),
   IsV (.bool true),
   IsV (.bool true),
   IsV (.bool true),
   IsV (.bool true),
   IsV (.bool true)]
def mt_r7_0_D : List (List Nat) := [[], [0], [], [2], [1, 3], [4], [5], [5, 6], [5], [5, 7, 8], [5, 9], [10], [11], [11, 12], [13], [13, 14], [13, 15], [16], [16, 17], [16, 18], [13, 16, 19], [11, 13, 20], [11, 21], [22], [23], [23], [23, 24, 25], [23, 26], [27], [28], [28, 29], [28], [28, 30, 31], [28, 32], [33], [34], [34, 35], [36], [36], [34, 36, 38], [34, 39], [40], [41], [41], [41, 42, 43], [41], [41], [41, 45, 46], [41, 44, 47], [41, 48], [49], [50], [50], [50, 51, 52], [50, 53], [54], [55], [55, 56], [57]]

/-- What each operation of the statement leaves. -/
def mt_r7_1_F (a : Option Addr) (a2 : Option Addr) (a3 : Option Addr) (a4 : Option Addr) (a9 : Option Addr) (a8 : Option Addr) (n : Nat) (c : Nat) (n2 : Nat) (c2 : Nat) (c3 : Nat) (c4 : Nat) (uL : Nat) (c9 : Nat) (c8 : Nat) (mk : Int) (mp : Int) (md : Int) (mw : Int) (mc : Int) (me : Int) (mf : Int) (ml : Int) (yk : Int) (yp : Int) (yd : Int) (yw : Int) (yc : Int) (yh : Int) (yf : Int) (yl : Int) (uk : Int) (up : Int) (ud : Int) (uw : Int) (uc : Int) (uh : Int) (uf : Int) (ul : Int) (Y : ByteArray) (smo : Bool) : List (Value → World → Prop) :=
  [IsV (.slice a3 0 c3),
   IsV (.string Y),
   IsV (.slice a4 0 c4),
   IsV (.string Y),
   IsV (.bool true),
   IsV (.bool true),
   IsV (.int .i64 1),
   IsV (.bool false),
   IsV (.bool false),
   IsV (.bool true),
   IsV (.bool true),
   IsV (.bool true),
   IsV (.bool false),
   IsV (.bool false),
   IsV (.int .i64 1),
   IsV (.bool true),
   IsV (.bool true),
   IsV (.slice a3 0 c3),
   IsV (.int .i64 0),
   IsV (.bool true),
   IsV (.bool true),
   IsV (.bool true),
   IsV (.bool true),
   IsV (.bool true),
   IsV (.agg #[.int .i64 uk, .int .i64 up, .int .i64 ud, .slice a9 uL c9, .int .i64 uw, .int .i64 uc, .int .i64 uh, .int .i64 uf, .int .i64 ul]),
   IsV (.agg #[.int .i64 uk, .int .i64 up, .int .i64 ud, .slice a8 uL c8, .int .i64 uw, .int .i64 uc, .int .i64 uh, .int .i64 uf, .int .i64 ul]),
   IsV (.bool true),
   IsV (.bool true),
   IsV (.bool true),
   IsV (.int .i64 2),
   IsV (.bool false),
   IsV (.bool false),
   IsV (.bool true),
   IsV (.bool true),
   IsV (.bool true),
   IsV (.bool false),
   IsV (.bool false),
   IsV (.int .i64 2),
   IsV (.bool true),
   IsV (.bool true),
   IsV (.bool true),
   IsV (.bool true),
   IsV (.agg #[.int .i64 mk, .int .i64 mp, .int .i64 md, .slice a n c, .int .i64 mw, .int .i64 mc, .int .i64 me, .int .i64 mf, .int .i64 ml]),
   IsV (.agg #[.int .i64 yk, .int .i64 yp, .int .i64 yd, .slice a2 n2 c2, .int .i64 yw, .int .i64 yc, .int .i64 yh, .int .i64 yf, .int .i64 yl]),
   IsV (.bool smo),
   IsV (.agg #[.int .i64 mk, .int .i64 mp, .int .i64 md, .slice a n c, .int .i64 mw, .int .i64 mc, .int .i64 me, .int .i64 mf, .int .i64 ml]),
   IsV (.agg #[.int .i64 yk, .int .i64 yp, .int .i64 yd, .slice a2 n2 c2, .int .i64 yw, .int .i64 yc, .int .i64 yh, .int .i64 yf, .int .i64 yl]),
   IsV (.bool smo),
   IsV (.bool true),
   IsV (.bool true),
   IsV (.bool true),
   IsV (.agg #[.int .i64 mk, .int .i64 mp, .int .i64 md, .slice a n c, .int .i64 mw, .int .i64 mc, .int .i64 me, .int .i64 mf, .int .i64 ml]),
   IsV (.agg #[.int .i64 mk, .int .i64 mp, .int .i64 md, .slice a n c, .int .i64 mw, .int .i64 mc, .int .i64 me, .int .i64 mf, .int .i64 ml]),
   IsV (.bool true),
   IsV (.bool true),
   IsV (.bool true),
   IsV (.bool true),
   IsV (.bool true),
   IsV (.bool true)]
def mt_r7_1_D : List (List Nat) := [[], [0], [], [2], [1, 3], [4], [5], [5, 6], [5], [5, 7, 8], [5, 9], [10], [11], [11, 12], [13], [13, 14], [13, 15], [16], [16, 17], [16, 18], [13, 16, 19], [11, 13, 20], [11, 21], [22], [23], [23], [23, 24, 25], [23, 26], [27], [28], [28, 29], [28], [28, 30, 31], [28, 32], [33], [34], [34, 35], [36], [36, 37], [34, 36, 38], [34, 39], [40], [41], [41], [41, 42, 43], [41], [41], [41, 45, 46], [41, 44, 47], [41, 48], [49], [50], [50], [50, 51, 52], [50, 53], [54], [55], [55, 56], [57]]

/-- What each operation of the statement leaves. -/
def mt_r7_2_F (a : Option Addr) (a2 : Option Addr) (a3 : Option Addr) (a4 : Option Addr) (a9 : Option Addr) (a8 : Option Addr) (n : Nat) (c : Nat) (n2 : Nat) (c2 : Nat) (L : Nat) (c3 : Nat) (c4 : Nat) (uL : Nat) (c9 : Nat) (c8 : Nat) (mk : Int) (mp : Int) (md : Int) (mw : Int) (mc : Int) (me : Int) (mf : Int) (ml : Int) (yk : Int) (yp : Int) (yd : Int) (yw : Int) (yc : Int) (yh : Int) (yf : Int) (yl : Int) (uk : Int) (up : Int) (ud : Int) (uw : Int) (uc : Int) (uh : Int) (uf : Int) (ul : Int) (Y : ByteArray) (smo : Bool) : List (Value → World → Prop) :=
  [IsV (.slice a3 L c3),
   IsV (.string Y),
   IsV (.slice a4 L c4),
   IsV (.string Y),
   IsV (.bool true),
   IsV (.bool true),
   IsV (.int .i64 0),
   IsV (.bool true),
   IsV (.bool true),
   IsV (.bool true),
   IsV (.bool true),
   IsV (.bool true),
   IsV (.bool true),
   IsV (.bool true),
   IsV (undef),
   IsV (undef),
   IsV (undef),
   IsV (undef),
   IsV (undef),
   IsV (undef),
   IsV (undef),
   IsV (.bool true),
   IsV (.bool true),
   IsV (.bool true),
   IsV (.agg #[.int .i64 uk, .int .i64 up, .int .i64 ud, .slice a9 uL c9, .int .i64 uw, .int .i64 uc, .int .i64 uh, .int .i64 uf, .int .i64 ul]),
   IsV (.agg #[.int .i64 uk, .int .i64 up, .int .i64 ud, .slice a8 uL c8, .int .i64 uw, .int .i64 uc, .int .i64 uh, .int .i64 uf, .int .i64 ul]),
   IsV (.bool true),
   IsV (.bool true),
   IsV (.bool true),
   IsV (.int .i64 0),
   IsV (.bool true),
   IsV (.bool true),
   IsV (.bool true),
   IsV (.bool true),
   IsV (.bool true),
   IsV (.bool true),
   IsV (.bool true),
   IsV (undef),
   IsV (undef),
   IsV (.bool true),
   IsV (.bool true),
   IsV (.bool true),
   IsV (.agg #[.int .i64 mk, .int .i64 mp, .int .i64 md, .slice a n c, .int .i64 mw, .int .i64 mc, .int .i64 me, .int .i64 mf, .int .i64 ml]),
   IsV (.agg #[.int .i64 yk, .int .i64 yp, .int .i64 yd, .slice a2 n2 c2, .int .i64 yw, .int .i64 yc, .int .i64 yh, .int .i64 yf, .int .i64 yl]),
   IsV (.bool smo),
   IsV (.agg #[.int .i64 mk, .int .i64 mp, .int .i64 md, .slice a n c, .int .i64 mw, .int .i64 mc, .int .i64 me, .int .i64 mf, .int .i64 ml]),
   IsV (.agg #[.int .i64 yk, .int .i64 yp, .int .i64 yd, .slice a2 n2 c2, .int .i64 yw, .int .i64 yc, .int .i64 yh, .int .i64 yf, .int .i64 yl]),
   IsV (.bool smo),
   IsV (.bool true),
   IsV (.bool true),
   IsV (.bool true),
   IsV (.agg #[.int .i64 mk, .int .i64 mp, .int .i64 md, .slice a n c, .int .i64 mw, .int .i64 mc, .int .i64 me, .int .i64 mf, .int .i64 ml]),
   IsV (.agg #[.int .i64 mk, .int .i64 mp, .int .i64 md, .slice a n c, .int .i64 mw, .int .i64 mc, .int .i64 me, .int .i64 mf, .int .i64 ml]),
   IsV (.bool true),
   IsV (.bool true),
   IsV (.bool true),
   IsV (.bool true),
   IsV (.bool true),
   IsV (.bool true)]
def mt_r7_2_D : List (List Nat) := [[], [0], [], [2], [1, 3], [4], [5], [5, 6], [5], [5, 7, 8], [5, 9], [10], [11], [11, 12], [13], [13], [13], [16], [16], [16], [13], [11, 13, 20], [11, 21], [22], [23], [23], [23, 24, 25], [23, 26], [27], [28], [28, 29], [28], [28, 30, 31], [28, 32], [33], [34], [34, 35], [36], [36], [34, 36, 38], [34, 39], [40], [41], [41], [41, 42, 43], [41], [41], [41, 45, 46], [41, 44, 47], [41, 48], [49], [50], [50], [50, 51, 52], [50, 53], [54], [55], [55, 56], [57]]

/-- What each operation of the statement leaves. -/
def mt_r7_3_F (a : Option Addr) (a2 : Option Addr) (a3 : Option Addr) (a4 : Option Addr) (a9 : Option Addr) (a8 : Option Addr) (n : Nat) (c : Nat) (n2 : Nat) (c2 : Nat) (L : Nat) (c3 : Nat) (c4 : Nat) (uL : Nat) (c9 : Nat) (c8 : Nat) (mk : Int) (mp : Int) (md : Int) (mw : Int) (mc : Int) (me : Int) (mf : Int) (ml : Int) (yk : Int) (yp : Int) (yd : Int) (yw : Int) (yc : Int) (yh : Int) (yf : Int) (yl : Int) (uk : Int) (up : Int) (ud : Int) (uw : Int) (uc : Int) (uh : Int) (uf : Int) (ul : Int) (Y : ByteArray) (smo : Bool) : List (Value → World → Prop) :=
  [IsV (.slice a3 L c3),
   IsV (.string Y),
   IsV (.slice a4 L c4),
   IsV (.string Y),
   IsV (.bool true),
   IsV (.bool true),
   IsV (.int .i64 0),
   IsV (.bool true),
   IsV (.bool true),
   IsV (.bool true),
   IsV (.bool true),
   IsV (.bool true),
   IsV (.bool true),
   IsV (.bool true),
   IsV (undef),
   IsV (undef),
   IsV (undef),
   IsV (undef),
   IsV (undef),
   IsV (undef),
   IsV (undef),
   IsV (.bool true),
   IsV (.bool true),
   IsV (.bool true),
   IsV (.agg #[.int .i64 uk, .int .i64 up, .int .i64 ud, .slice a9 uL c9, .int .i64 uw, .int .i64 uc, .int .i64 uh, .int .i64 uf, .int .i64 ul]),
   IsV (.agg #[.int .i64 uk, .int .i64 up, .int .i64 ud, .slice a8 uL c8, .int .i64 uw, .int .i64 uc, .int .i64 uh, .int .i64 uf, .int .i64 ul]),
   IsV (.bool true),
   IsV (.bool true),
   IsV (.bool true),
   IsV (.int .i64 2),
   IsV (.bool false),
   IsV (.bool false),
   IsV (.bool true),
   IsV (.bool true),
   IsV (.bool true),
   IsV (.bool false),
   IsV (.bool false),
   IsV (.int .i64 2),
   IsV (.bool true),
   IsV (.bool true),
   IsV (.bool true),
   IsV (.bool true),
   IsV (.agg #[.int .i64 mk, .int .i64 mp, .int .i64 md, .slice a n c, .int .i64 mw, .int .i64 mc, .int .i64 me, .int .i64 mf, .int .i64 ml]),
   IsV (.agg #[.int .i64 yk, .int .i64 yp, .int .i64 yd, .slice a2 n2 c2, .int .i64 yw, .int .i64 yc, .int .i64 yh, .int .i64 yf, .int .i64 yl]),
   IsV (.bool smo),
   IsV (.agg #[.int .i64 mk, .int .i64 mp, .int .i64 md, .slice a n c, .int .i64 mw, .int .i64 mc, .int .i64 me, .int .i64 mf, .int .i64 ml]),
   IsV (.agg #[.int .i64 yk, .int .i64 yp, .int .i64 yd, .slice a2 n2 c2, .int .i64 yw, .int .i64 yc, .int .i64 yh, .int .i64 yf, .int .i64 yl]),
   IsV (.bool smo),
   IsV (.bool true),
   IsV (.bool true),
   IsV (.bool true),
   IsV (.agg #[.int .i64 mk, .int .i64 mp, .int .i64 md, .slice a n c, .int .i64 mw, .int .i64 mc, .int .i64 me, .int .i64 mf, .int .i64 ml]),
   IsV (.agg #[.int .i64 mk, .int .i64 mp, .int .i64 md, .slice a n c, .int .i64 mw, .int .i64 mc, .int .i64 me, .int .i64 mf, .int .i64 ml]),
   IsV (.bool true),
   IsV (.bool true),
   IsV (.bool true),
   IsV (.bool true),
   IsV (.bool true),
   IsV (.bool true)]
def mt_r7_3_D : List (List Nat) := [[], [0], [], [2], [1, 3], [4], [5], [5, 6], [5], [5, 7, 8], [5, 9], [10], [11], [11, 12], [13], [13], [13], [16], [16], [16], [13], [11, 13, 20], [11, 21], [22], [23], [23], [23, 24, 25], [23, 26], [27], [28], [28, 29], [28], [28, 30, 31], [28, 32], [33], [34], [34, 35], [36], [36, 37], [34, 36, 38], [34, 39], [40], [41], [41], [41, 42, 43], [41], [41], [41, 45, 46], [41, 44, 47], [41, 48], [49], [50], [50], [50, 51, 52], [50, 53], [54], [55], [55, 56], [57]]

set_option maxHeartbeats 32000000 in
theorem mtells_all (w : World) (g : MsD) (a : Option Addr) (n c : Nat) (hn : g.edges.length = n) (hr : Rd w 1 (.slice a n c) n (g.edges.map (Value.int .i64))) (hb : -9223372036854775808 ≤ g.he ∧ g.he ≤ 9223372036854775807)
    (o : MsD) (a2 : Option Addr) (n2 c2 : Nat) (hn2 : o.edges.length = n2) (hr2 : Rd w 1 (.slice a2 n2 c2) n2 (o.edges.map (Value.int .i64)))
    (ab : Option Addr) (nb cb : Nat) (b : List Int) (hnb : b.length = nb) (hrb : Rd w 1 (.slice ab nb cb) nb (b.map (Value.int .u8))) (hgb : ∀ x ∈ b, 0 ≤ x ∧ x < 256) :
    Calls Try.prog 3 #[msgV g a n c, msgV o a2 n2 c2, .slice ab nb cb] w fun e w' => e = .returned (.bool true) ∧ Mod (fun _ => False) w w' := by
  obtain ⟨mk, mp, md, ed, mw, mc, me, mf, ml⟩ := g
  obtain ⟨yk, yp, yd, ye, yw, yc, yh, yf, yl⟩ := o
  replace hn : ed.length = n := hn
  replace hr : Rd w 1 (.slice a n c) n (ed.map (Value.int .i64)) := hr
  replace hb : -9223372036854775808 ≤ me ∧ me ≤ 9223372036854775807 := hb
  replace hn2 : ye.length = n2 := hn2
  replace hr2 : Rd w 1 (.slice a2 n2 c2) n2 (ye.map (Value.int .i64)) := hr2
  unfold msgV
  simp only
  by_cases hlen0 : n ≤ 600
  case neg =>
    have z0 : decide (600 < (n : Int)) = true := by simp; omega
    have HS : Hid (Ev (Mod (fun _ => False) w) w) := Lib.hid (Ev.mod w)
    go_enter Try.func3, Try.ntmps3
    go_upto_region 1 with fail
    obtain ⟨bx, hbx⟩ : ∃ b, w.heap.size = b := ⟨_, rfl⟩
    obtain ⟨wq1, hwq1⟩ : ∃ W, World.alloc w (.cells #[.int .i64 mk, .int .i64 mp, .int .i64 md, .slice a n c, .int .i64 mw, .int .i64 mc, .int .i64 me, .int .i64 mf, .int .i64 ml] 26) = W := ⟨_, rfl⟩
    have hBbx : Blk wq1 bx 26 [.int .i64 mk, .int .i64 mp, .int .i64 md, .slice a n c, .int .i64 mw, .int .i64 mc, .int .i64 me, .int .i64 mf, .int .i64 ml] := by rw [← hwq1, ← hbx]; exact Blk.new _ 26 [.int .i64 mk, .int .i64 mp, .int .i64 md, .slice a n c, .int .i64 mw, .int .i64 mc, .int .i64 me, .int .i64 mf, .int .i64 ml]
    have hzbx : wq1.heap.size = bx + 1 := by rw [← hwq1, ← hbx]; exact heap_size_alloc _ _
    replace HS := Lib.hid (HS.out.step (w' := wq1) (by rw [← hwq1]; exact Mod.alloc _ _ _))
    replace HS := Lib.hid ((Ev.blk hBbx).and HS.out)
    obtain ⟨by2, hby2⟩ : ∃ b, bx + 1 = b := ⟨_, rfl⟩
    obtain ⟨wq2, hwq2⟩ : ∃ W, World.alloc wq1 (.cells #[.int .i64 yk, .int .i64 yp, .int .i64 yd, .slice a2 n2 c2, .int .i64 yw, .int .i64 yc, .int .i64 yh, .int .i64 yf, .int .i64 yl] 26) = W := ⟨_, rfl⟩
    have hBby2 : Blk wq2 by2 26 [.int .i64 yk, .int .i64 yp, .int .i64 yd, .slice a2 n2 c2, .int .i64 yw, .int .i64 yc, .int .i64 yh, .int .i64 yf, .int .i64 yl] := by rw [← hwq2, ← hby2, ← hzbx]; exact Blk.new _ 26 [.int .i64 yk, .int .i64 yp, .int .i64 yd, .slice a2 n2 c2, .int .i64 yw, .int .i64 yc, .int .i64 yh, .int .i64 yf, .int .i64 yl]
    have hzby2 : wq2.heap.size = by2 + 1 := by rw [← hwq2, ← hby2, ← hzbx]; exact heap_size_alloc _ _
    replace HS := Lib.hid (HS.out.step (w' := wq2) (by rw [← hwq2]; exact Mod.alloc _ _ _))
    replace HS := Lib.hid ((Ev.blk hBby2).and HS.out)
    try rw [hwq1]
    try rw [hbx]
    try rw [hwq2]
    try rw [hby2]
    clear hzby2 hBby2 hby2 hwq2 hzbx hBbx hbx hwq1
    have hbbx := (HS.out.now).2.1
    have qbx_0 := hbbx.cell 0 rfl
    have qbx_1 := hbbx.cell 1 rfl
    have qbx_2 := hbbx.cell 2 rfl
    have qbx_3 := hbbx.cell 3 rfl
    have qbx_4 := hbbx.cell 4 rfl
    have qbx_5 := hbbx.cell 5 rfl
    have qbx_6 := hbbx.cell 6 rfl
    have qbx_7 := hbbx.cell 7 rfl
    have qbx_8 := hbbx.cell 8 rfl
    have lbx := hbbx.lt
    clear hbbx
    have hbby2 := (HS.out.now).1
    have qby2_0 := hbby2.cell 0 rfl
    have qby2_1 := hbby2.cell 1 rfl
    have qby2_2 := hbby2.cell 2 rfl
    have qby2_3 := hbby2.cell 3 rfl
    have qby2_4 := hbby2.cell 4 rfl
    have qby2_5 := hbby2.cell 5 rfl
    have qby2_6 := hbby2.cell 6 rfl
    have qby2_7 := hbby2.cell 7 rfl
    have qby2_8 := hbby2.cell 8 rfl
    have lby2 := hbby2.lt
    clear hbby2
    go_wp2_with fail
    refine (awake22_any _).mono ?_
    rintro e wq3 ⟨rfl, hm⟩
    replace HS := Lib.hid (HS.out.step hm)
    clear hm
    clear qbx_0 qbx_1 qbx_2 qbx_3 qbx_4 qbx_5 qbx_6 qbx_7 qbx_8 lbx qby2_0 qby2_1 qby2_2 qby2_3 qby2_4 qby2_5 qby2_6 qby2_7 qby2_8 lby2
    have hbbx := (HS.out.now).2.1
    have qbx_0 := hbbx.cell 0 rfl
    have qbx_1 := hbbx.cell 1 rfl
    have qbx_2 := hbbx.cell 2 rfl
    have qbx_3 := hbbx.cell 3 rfl
    have qbx_4 := hbbx.cell 4 rfl
    have qbx_5 := hbbx.cell 5 rfl
    have qbx_6 := hbbx.cell 6 rfl
    have qbx_7 := hbbx.cell 7 rfl
    have qbx_8 := hbbx.cell 8 rfl
    have lbx := hbbx.lt
    clear hbbx
    have hbby2 := (HS.out.now).1
    have qby2_0 := hbby2.cell 0 rfl
    have qby2_1 := hbby2.cell 1 rfl
    have qby2_2 := hbby2.cell 2 rfl
    have qby2_3 := hbby2.cell 3 rfl
    have qby2_4 := hbby2.cell 4 rfl
    have qby2_5 := hbby2.cell 5 rfl
    have qby2_6 := hbby2.cell 6 rfl
    have qby2_7 := hbby2.cell 7 rfl
    have qby2_8 := hbby2.cell 8 rfl
    have lby2 := hbby2.lt
    clear hbby2
    go_wp2_with fail
    go_ret
    exact ⟨rfl, (HS.out.now).2.2⟩
  case pos =>
    by_cases hlen1 : n2 ≤ 600
    case neg =>
      have y0 : decide (600 < (n : Int)) = false := by simp; omega
      have z0 : decide (600 < (n2 : Int)) = true := by simp; omega
      have HS : Hid (Ev (Mod (fun _ => False) w) w) := Lib.hid (Ev.mod w)
      go_enter Try.func3, Try.ntmps3
      go_upto_region 1 with fail
      obtain ⟨bx, hbx⟩ : ∃ b, w.heap.size = b := ⟨_, rfl⟩
      obtain ⟨wq4, hwq4⟩ : ∃ W, World.alloc w (.cells #[.int .i64 mk, .int .i64 mp, .int .i64 md, .slice a n c, .int .i64 mw, .int .i64 mc, .int .i64 me, .int .i64 mf, .int .i64 ml] 26) = W := ⟨_, rfl⟩
      have hBbx : Blk wq4 bx 26 [.int .i64 mk, .int .i64 mp, .int .i64 md, .slice a n c, .int .i64 mw, .int .i64 mc, .int .i64 me, .int .i64 mf, .int .i64 ml] := by rw [← hwq4, ← hbx]; exact Blk.new _ 26 [.int .i64 mk, .int .i64 mp, .int .i64 md, .slice a n c, .int .i64 mw, .int .i64 mc, .int .i64 me, .int .i64 mf, .int .i64 ml]
      have hzbx : wq4.heap.size = bx + 1 := by rw [← hwq4, ← hbx]; exact heap_size_alloc _ _
      replace HS := Lib.hid (HS.out.step (w' := wq4) (by rw [← hwq4]; exact Mod.alloc _ _ _))
      replace HS := Lib.hid ((Ev.blk hBbx).and HS.out)
      obtain ⟨by2, hby2⟩ : ∃ b, bx + 1 = b := ⟨_, rfl⟩
      obtain ⟨wq5, hwq5⟩ : ∃ W, World.alloc wq4 (.cells #[.int .i64 yk, .int .i64 yp, .int .i64 yd, .slice a2 n2 c2, .int .i64 yw, .int .i64 yc, .int .i64 yh, .int .i64 yf, .int .i64 yl] 26) = W := ⟨_, rfl⟩
      have hBby2 : Blk wq5 by2 26 [.int .i64 yk, .int .i64 yp, .int .i64 yd, .slice a2 n2 c2, .int .i64 yw, .int .i64 yc, .int .i64 yh, .int .i64 yf, .int .i64 yl] := by rw [← hwq5, ← hby2, ← hzbx]; exact Blk.new _ 26 [.int .i64 yk, .int .i64 yp, .int .i64 yd, .slice a2 n2 c2, .int .i64 yw, .int .i64 yc, .int .i64 yh, .int .i64 yf, .int .i64 yl]
      have hzby2 : wq5.heap.size = by2 + 1 := by rw [← hwq5, ← hby2, ← hzbx]; exact heap_size_alloc _ _
      replace HS := Lib.hid (HS.out.step (w' := wq5) (by rw [← hwq5]; exact Mod.alloc _ _ _))
      replace HS := Lib.hid ((Ev.blk hBby2).and HS.out)
      try rw [hwq4]
      try rw [hbx]
      try rw [hwq5]
      try rw [hby2]
      clear hzby2 hBby2 hby2 hwq5 hzbx hBbx hbx hwq4
      have hbbx := (HS.out.now).2.1
      have qbx_0 := hbbx.cell 0 rfl
      have qbx_1 := hbbx.cell 1 rfl
      have qbx_2 := hbbx.cell 2 rfl
      have qbx_3 := hbbx.cell 3 rfl
      have qbx_4 := hbbx.cell 4 rfl
      have qbx_5 := hbbx.cell 5 rfl
      have qbx_6 := hbbx.cell 6 rfl
      have qbx_7 := hbbx.cell 7 rfl
      have qbx_8 := hbbx.cell 8 rfl
      have lbx := hbbx.lt
      clear hbbx
      have hbby2 := (HS.out.now).1
      have qby2_0 := hbby2.cell 0 rfl
      have qby2_1 := hbby2.cell 1 rfl
      have qby2_2 := hbby2.cell 2 rfl
      have qby2_3 := hbby2.cell 3 rfl
      have qby2_4 := hbby2.cell 4 rfl
      have qby2_5 := hbby2.cell 5 rfl
      have qby2_6 := hbby2.cell 6 rfl
      have qby2_7 := hbby2.cell 7 rfl
      have qby2_8 := hbby2.cell 8 rfl
      have lby2 := hbby2.lt
      clear hbby2
      go_wp2_with fail
      refine (awake22_any _).mono ?_
      rintro e wq6 ⟨rfl, hm⟩
      replace HS := Lib.hid (HS.out.step hm)
      clear hm
      clear qbx_0 qbx_1 qbx_2 qbx_3 qbx_4 qbx_5 qbx_6 qbx_7 qbx_8 lbx qby2_0 qby2_1 qby2_2 qby2_3 qby2_4 qby2_5 qby2_6 qby2_7 qby2_8 lby2
      have hbbx := (HS.out.now).2.1
      have qbx_0 := hbbx.cell 0 rfl
      have qbx_1 := hbbx.cell 1 rfl
      have qbx_2 := hbbx.cell 2 rfl
      have qbx_3 := hbbx.cell 3 rfl
      have qbx_4 := hbbx.cell 4 rfl
      have qbx_5 := hbbx.cell 5 rfl
      have qbx_6 := hbbx.cell 6 rfl
      have qbx_7 := hbbx.cell 7 rfl
      have qbx_8 := hbbx.cell 8 rfl
      have lbx := hbbx.lt
      clear hbbx
      have hbby2 := (HS.out.now).1
      have qby2_0 := hbby2.cell 0 rfl
      have qby2_1 := hbby2.cell 1 rfl
      have qby2_2 := hbby2.cell 2 rfl
      have qby2_3 := hbby2.cell 3 rfl
      have qby2_4 := hbby2.cell 4 rfl
      have qby2_5 := hbby2.cell 5 rfl
      have qby2_6 := hbby2.cell 6 rfl
      have qby2_7 := hbby2.cell 7 rfl
      have qby2_8 := hbby2.cell 8 rfl
      have lby2 := hbby2.lt
      clear hbby2
      go_wp2_with fail
      go_ret
      exact ⟨rfl, (HS.out.now).2.2⟩
    case pos =>
      by_cases hlen2 : nb ≤ 300
      case neg =>
        have y0 : decide (600 < (n : Int)) = false := by simp; omega
        have y1 : decide (600 < (n2 : Int)) = false := by simp; omega
        have z0 : decide (300 < (nb : Int)) = true := by simp; omega
        have HS : Hid (Ev (Mod (fun _ => False) w) w) := Lib.hid (Ev.mod w)
        go_enter Try.func3, Try.ntmps3
        go_upto_region 1 with fail
        obtain ⟨bx, hbx⟩ : ∃ b, w.heap.size = b := ⟨_, rfl⟩
        obtain ⟨wq7, hwq7⟩ : ∃ W, World.alloc w (.cells #[.int .i64 mk, .int .i64 mp, .int .i64 md, .slice a n c, .int .i64 mw, .int .i64 mc, .int .i64 me, .int .i64 mf, .int .i64 ml] 26) = W := ⟨_, rfl⟩
        have hBbx : Blk wq7 bx 26 [.int .i64 mk, .int .i64 mp, .int .i64 md, .slice a n c, .int .i64 mw, .int .i64 mc, .int .i64 me, .int .i64 mf, .int .i64 ml] := by rw [← hwq7, ← hbx]; exact Blk.new _ 26 [.int .i64 mk, .int .i64 mp, .int .i64 md, .slice a n c, .int .i64 mw, .int .i64 mc, .int .i64 me, .int .i64 mf, .int .i64 ml]
        have hzbx : wq7.heap.size = bx + 1 := by rw [← hwq7, ← hbx]; exact heap_size_alloc _ _
        replace HS := Lib.hid (HS.out.step (w' := wq7) (by rw [← hwq7]; exact Mod.alloc _ _ _))
        replace HS := Lib.hid ((Ev.blk hBbx).and HS.out)
        obtain ⟨by2, hby2⟩ : ∃ b, bx + 1 = b := ⟨_, rfl⟩
        obtain ⟨wq8, hwq8⟩ : ∃ W, World.alloc wq7 (.cells #[.int .i64 yk, .int .i64 yp, .int .i64 yd, .slice a2 n2 c2, .int .i64 yw, .int .i64 yc, .int .i64 yh, .int .i64 yf, .int .i64 yl] 26) = W := ⟨_, rfl⟩
        have hBby2 : Blk wq8 by2 26 [.int .i64 yk, .int .i64 yp, .int .i64 yd, .slice a2 n2 c2, .int .i64 yw, .int .i64 yc, .int .i64 yh, .int .i64 yf, .int .i64 yl] := by rw [← hwq8, ← hby2, ← hzbx]; exact Blk.new _ 26 [.int .i64 yk, .int .i64 yp, .int .i64 yd, .slice a2 n2 c2, .int .i64 yw, .int .i64 yc, .int .i64 yh, .int .i64 yf, .int .i64 yl]
        have hzby2 : wq8.heap.size = by2 + 1 := by rw [← hwq8, ← hby2, ← hzbx]; exact heap_size_alloc _ _
        replace HS := Lib.hid (HS.out.step (w' := wq8) (by rw [← hwq8]; exact Mod.alloc _ _ _))
        replace HS := Lib.hid ((Ev.blk hBby2).and HS.out)
        try rw [hwq7]
        try rw [hbx]
        try rw [hwq8]
        try rw [hby2]
        clear hzby2 hBby2 hby2 hwq8 hzbx hBbx hbx hwq7
        have hbbx := (HS.out.now).2.1
        have qbx_0 := hbbx.cell 0 rfl
        have qbx_1 := hbbx.cell 1 rfl
        have qbx_2 := hbbx.cell 2 rfl
        have qbx_3 := hbbx.cell 3 rfl
        have qbx_4 := hbbx.cell 4 rfl
        have qbx_5 := hbbx.cell 5 rfl
        have qbx_6 := hbbx.cell 6 rfl
        have qbx_7 := hbbx.cell 7 rfl
        have qbx_8 := hbbx.cell 8 rfl
        have lbx := hbbx.lt
        clear hbbx
        have hbby2 := (HS.out.now).1
        have qby2_0 := hbby2.cell 0 rfl
        have qby2_1 := hbby2.cell 1 rfl
        have qby2_2 := hbby2.cell 2 rfl
        have qby2_3 := hbby2.cell 3 rfl
        have qby2_4 := hbby2.cell 4 rfl
        have qby2_5 := hbby2.cell 5 rfl
        have qby2_6 := hbby2.cell 6 rfl
        have qby2_7 := hbby2.cell 7 rfl
        have qby2_8 := hbby2.cell 8 rfl
        have lby2 := hbby2.lt
        clear hbby2
        go_wp2_with fail
        refine (awake22_any _).mono ?_
        rintro e wq9 ⟨rfl, hm⟩
        replace HS := Lib.hid (HS.out.step hm)
        clear hm
        clear qbx_0 qbx_1 qbx_2 qbx_3 qbx_4 qbx_5 qbx_6 qbx_7 qbx_8 lbx qby2_0 qby2_1 qby2_2 qby2_3 qby2_4 qby2_5 qby2_6 qby2_7 qby2_8 lby2
        have hbbx := (HS.out.now).2.1
        have qbx_0 := hbbx.cell 0 rfl
        have qbx_1 := hbbx.cell 1 rfl
        have qbx_2 := hbbx.cell 2 rfl
        have qbx_3 := hbbx.cell 3 rfl
        have qbx_4 := hbbx.cell 4 rfl
        have qbx_5 := hbbx.cell 5 rfl
        have qbx_6 := hbbx.cell 6 rfl
        have qbx_7 := hbbx.cell 7 rfl
        have qbx_8 := hbbx.cell 8 rfl
        have lbx := hbbx.lt
        clear hbbx
        have hbby2 := (HS.out.now).1
        have qby2_0 := hbby2.cell 0 rfl
        have qby2_1 := hbby2.cell 1 rfl
        have qby2_2 := hbby2.cell 2 rfl
        have qby2_3 := hbby2.cell 3 rfl
        have qby2_4 := hbby2.cell 4 rfl
        have qby2_5 := hbby2.cell 5 rfl
        have qby2_6 := hbby2.cell 6 rfl
        have qby2_7 := hbby2.cell 7 rfl
        have qby2_8 := hbby2.cell 8 rfl
        have lby2 := hbby2.lt
        clear hbby2
        go_wp2_with fail
        go_ret
        exact ⟨rfl, (HS.out.now).2.2⟩
      case pos =>
        have y0 : decide (600 < (n : Int)) = false := by simp; omega
        have y1 : decide (600 < (n2 : Int)) = false := by simp; omega
        have y2 : decide (300 < (nb : Int)) = false := by simp; omega
        have HS : Hid (Ev (Mod (fun _ => False) w) w) := Lib.hid (Ev.mod w)
        replace HS := Lib.hid ((Ev.rd hr).and HS.out)
        replace HS := Lib.hid ((Ev.rd hr2).and HS.out)
        replace HS := Lib.hid ((Ev.rd hrb).and HS.out)
        have HN := Lib.hid hn
        have HN2 := Lib.hid hn2
        have HNB := Lib.hid hnb
        have HE := Lib.hid hb
        have HGB := Lib.hid hgb
        clear hn hn2 hnb hr hr2 hrb hb hgb
        go_enter Try.func3, Try.ntmps3
        go_upto_region 1 with fail
        obtain ⟨bx, hbx⟩ : ∃ b, w.heap.size = b := ⟨_, rfl⟩
        obtain ⟨wq10, hwq10⟩ : ∃ W, World.alloc w (.cells #[.int .i64 mk, .int .i64 mp, .int .i64 md, .slice a n c, .int .i64 mw, .int .i64 mc, .int .i64 me, .int .i64 mf, .int .i64 ml] 26) = W := ⟨_, rfl⟩
        have hBbx : Blk wq10 bx 26 [.int .i64 mk, .int .i64 mp, .int .i64 md, .slice a n c, .int .i64 mw, .int .i64 mc, .int .i64 me, .int .i64 mf, .int .i64 ml] := by rw [← hwq10, ← hbx]; exact Blk.new _ 26 [.int .i64 mk, .int .i64 mp, .int .i64 md, .slice a n c, .int .i64 mw, .int .i64 mc, .int .i64 me, .int .i64 mf, .int .i64 ml]
        have hzbx : wq10.heap.size = bx + 1 := by rw [← hwq10, ← hbx]; exact heap_size_alloc _ _
        replace HS := Lib.hid (HS.out.step (w' := wq10) (by rw [← hwq10]; exact Mod.alloc _ _ _))
        replace HS := Lib.hid ((Ev.blk hBbx).and HS.out)
        obtain ⟨by2, hby2⟩ : ∃ b, bx + 1 = b := ⟨_, rfl⟩
        obtain ⟨wq11, hwq11⟩ : ∃ W, World.alloc wq10 (.cells #[.int .i64 yk, .int .i64 yp, .int .i64 yd, .slice a2 n2 c2, .int .i64 yw, .int .i64 yc, .int .i64 yh, .int .i64 yf, .int .i64 yl] 26) = W := ⟨_, rfl⟩
        have hBby2 : Blk wq11 by2 26 [.int .i64 yk, .int .i64 yp, .int .i64 yd, .slice a2 n2 c2, .int .i64 yw, .int .i64 yc, .int .i64 yh, .int .i64 yf, .int .i64 yl] := by rw [← hwq11, ← hby2, ← hzbx]; exact Blk.new _ 26 [.int .i64 yk, .int .i64 yp, .int .i64 yd, .slice a2 n2 c2, .int .i64 yw, .int .i64 yc, .int .i64 yh, .int .i64 yf, .int .i64 yl]
        have hzby2 : wq11.heap.size = by2 + 1 := by rw [← hwq11, ← hby2, ← hzbx]; exact heap_size_alloc _ _
        replace HS := Lib.hid (HS.out.step (w' := wq11) (by rw [← hwq11]; exact Mod.alloc _ _ _))
        replace HS := Lib.hid ((Ev.blk hBby2).and HS.out)
        try rw [hwq10]
        try rw [hbx]
        try rw [hwq11]
        try rw [hby2]
        clear hzby2 hBby2 hby2 hwq11 hzbx hBbx hbx hwq10
        have hbbx := (HS.out.now).2.1
        have qbx_0 := hbbx.cell 0 rfl
        have qbx_1 := hbbx.cell 1 rfl
        have qbx_2 := hbbx.cell 2 rfl
        have qbx_3 := hbbx.cell 3 rfl
        have qbx_4 := hbbx.cell 4 rfl
        have qbx_5 := hbbx.cell 5 rfl
        have qbx_6 := hbbx.cell 6 rfl
        have qbx_7 := hbbx.cell 7 rfl
        have qbx_8 := hbbx.cell 8 rfl
        have lbx := hbbx.lt
        clear hbbx
        have hbby2 := (HS.out.now).1
        have qby2_0 := hbby2.cell 0 rfl
        have qby2_1 := hbby2.cell 1 rfl
        have qby2_2 := hbby2.cell 2 rfl
        have qby2_3 := hbby2.cell 3 rfl
        have qby2_4 := hbby2.cell 4 rfl
        have qby2_5 := hbby2.cell 5 rfl
        have qby2_6 := hbby2.cell 6 rfl
        have qby2_7 := hbby2.cell 7 rfl
        have qby2_8 := hbby2.cell 8 rfl
        have lby2 := hbby2.lt
        clear hbby2
        have C10 := mencode_any wq11 ⟨mk, mp, md, ed, mw, mc, me, mf, ml⟩ a n c HN.out ((HS.out.now).2.2.2.2.1) (by omega) HE.out
        unfold msgV at C10
        simp only at C10
        have C1 := Lib.hid C10
        clear C10
        go_wp2_with fail
        refine (C1.out).mono ?_
        rintro e wq12 ⟨a3, c3, rfl, hF, hmm⟩
        replace HS := Lib.hid (HS.out.step hmm)
        clear hmm
        clear qbx_0 qbx_1 qbx_2 qbx_3 qbx_4 qbx_5 qbx_6 qbx_7 qbx_8 lbx qby2_0 qby2_1 qby2_2 qby2_3 qby2_4 qby2_5 qby2_6 qby2_7 qby2_8 lby2
        have hbbx := (HS.out.now).2.1
        have qbx_0 := hbbx.cell 0 rfl
        have qbx_1 := hbbx.cell 1 rfl
        have qbx_2 := hbbx.cell 2 rfl
        have qbx_3 := hbbx.cell 3 rfl
        have qbx_4 := hbbx.cell 4 rfl
        have qbx_5 := hbbx.cell 5 rfl
        have qbx_6 := hbbx.cell 6 rfl
        have qbx_7 := hbbx.cell 7 rfl
        have qbx_8 := hbbx.cell 8 rfl
        have lbx := hbbx.lt
        clear hbbx
        have hbby2 := (HS.out.now).1
        have qby2_0 := hbby2.cell 0 rfl
        have qby2_1 := hbby2.cell 1 rfl
        have qby2_2 := hbby2.cell 2 rfl
        have qby2_3 := hbby2.cell 3 rfl
        have qby2_4 := hbby2.cell 4 rfl
        have qby2_5 := hbby2.cell 5 rfl
        have qby2_6 := hbby2.cell 6 rfl
        have qby2_7 := hbby2.cell 7 rfl
        have qby2_8 := hbby2.cell 8 rfl
        have lby2 := hbby2.lt
        clear hbby2
        clear y0 y1 y2 C1
        have hsm : ∀ (x y : MsD), ∃ r : Bool, r = true ↔ sameM x y := fun x y => by classical exact ⟨decide (sameM x y), by simp⟩
        obtain ⟨smo, hsmo⟩ := hsm ⟨mk, mp, md, ed, mw, mc, me, mf, ml⟩ ⟨yk, yp, yd, ye, yw, yc, yh, yf, yl⟩
        have HSMO := Lib.hid hsmo
        clear hsm hsmo
        obtain ⟨⟨⟨uk, up, ud, ue, uw, uc, uh, uf, ul⟩, er2⟩, hD⟩ : ∃ D, decM b = D := ⟨_, rfl⟩
        have hcase := decM_er hD
        have HD := Lib.hid hD
        obtain ⟨uL, hK⟩ : ∃ x, ue.length = x := ⟨_, rfl⟩
        have HK := Lib.hid hK
        have hKb : uL ≤ 300 := by
          have h := rdM_len b
          have hb := HNB.out
          rw [← hK]
          by_cases hc : mBytes (rdM b) = some b
          · have h2 : decM b = (rdM b, 0) := if_pos hc
            rw [hD] at h2
            have h3 : ue = (rdM b).edges := congrArg MsD.edges (congrArg Prod.fst h2)
            rw [h3]; omega
          · have h2 : decM b = (zM, 2) := if_neg hc
            rw [hD] at h2
            have h3 : ue = [] := congrArg MsD.edges (congrArg Prod.fst h2)
            rw [h3]; simp
        clear hD hK
        cases hen : mBytes ⟨mk, mp, md, ed, mw, mc, me, mf, ml⟩ with
        | none =>
          have HEN := Lib.hid hen
          try rw [hen] at hF
          try rw [hen]
          simp only [Option.isNone_none, if_true, Option.getD_none, List.length_nil] at hF ⊢
          have hx3 : Rd wq12 1 (.slice a3 0 c3) 0 (([] : List Int).map (Value.int .u8)) := by have h := Rd.ofOwn hF; exact h
          replace HS := Lib.hid ((Ev.rd hx3).and HS.out)
          clear hF hx3 hen
          have C20 := rmsg_any wq12 ⟨mk, mp, md, ed, mw, mc, me, mf, ml⟩ a n c HN.out ((HS.out.now).2.2.2.2.2.1) HE.out (by omega)
          unfold msgV at C20
          simp only at C20
          have C2 := Lib.hid C20
          clear C20
          go_wp2_with fail
          refine (C2.out).mono ?_
          rintro e wq13 ⟨a4, c4, rfl, hF, hmm⟩
          replace HS := Lib.hid (HS.out.step hmm)
          clear hmm
          clear qbx_0 qbx_1 qbx_2 qbx_3 qbx_4 qbx_5 qbx_6 qbx_7 qbx_8 lbx qby2_0 qby2_1 qby2_2 qby2_3 qby2_4 qby2_5 qby2_6 qby2_7 qby2_8 lby2
          have hbbx := (HS.out.now).2.2.1
          have qbx_0 := hbbx.cell 0 rfl
          have qbx_1 := hbbx.cell 1 rfl
          have qbx_2 := hbbx.cell 2 rfl
          have qbx_3 := hbbx.cell 3 rfl
          have qbx_4 := hbbx.cell 4 rfl
          have qbx_5 := hbbx.cell 5 rfl
          have qbx_6 := hbbx.cell 6 rfl
          have qbx_7 := hbbx.cell 7 rfl
          have qbx_8 := hbbx.cell 8 rfl
          have lbx := hbbx.lt
          clear hbbx
          have hbby2 := (HS.out.now).2.1
          have qby2_0 := hbby2.cell 0 rfl
          have qby2_1 := hbby2.cell 1 rfl
          have qby2_2 := hbby2.cell 2 rfl
          have qby2_3 := hbby2.cell 3 rfl
          have qby2_4 := hbby2.cell 4 rfl
          have qby2_5 := hbby2.cell 5 rfl
          have qby2_6 := hbby2.cell 6 rfl
          have qby2_7 := hbby2.cell 7 rfl
          have qby2_8 := hbby2.cell 8 rfl
          have lby2 := hbby2.lt
          clear hbby2
          clear C2
          rw [HEN.out] at hF ⊢
          simp only [Option.isSome_none, Option.getD_none, List.length_nil] at hF ⊢
          have hx4 : Rd wq13 1 (.slice a4 0 c4) 0 (([] : List Int).map (Value.int .u8)) := by have h := Rd.ofOwn hF; exact h
          replace HS := Lib.hid ((Ev.rd hx4).and HS.out)
          clear hF hx4
          rcases hcase with h0 | h0
          · subst h0
            go_wp2_with fail
            refine (mdecode_any _ ab nb cb b HNB.out ((HS.out.now).2.2.2.2.1) HGB.out (by omega)).mono ?_
            rintro e wq14 ⟨a9, c9, rfl, hF, hmm⟩
            replace HS := Lib.hid (HS.out.step hmm)
            clear hmm
            rw [HD.out] at hF ⊢
            unfold msgV
            simp only at hF ⊢
            rw [HK.out] at hF ⊢
            replace HS := Lib.hid (((Ev.rd (show Rd wq14 1 (.slice a9 uL c9) uL (ue.map (Value.int .i64)) from Rd.ofOwn hF))).and HS.out)
            clear hF
            go_upto_region 6 with fail
            clear qbx_0 qbx_1 qbx_2 qbx_3 qbx_4 qbx_5 qbx_6 qbx_7 qbx_8 lbx qby2_0 qby2_1 qby2_2 qby2_3 qby2_4 qby2_5 qby2_6 qby2_7 qby2_8 lby2
            obtain ⟨bu, hbu⟩ : ∃ b, wq14.heap.size = b := ⟨_, rfl⟩
            obtain ⟨wq15, hwq15⟩ : ∃ W, World.alloc wq14 (.cells #[.int .i64 uk, .int .i64 up, .int .i64 ud, .slice a9 uL c9, .int .i64 uw, .int .i64 uc, .int .i64 uh, .int .i64 uf, .int .i64 ul] 26) = W := ⟨_, rfl⟩
            have hBbu : Blk wq15 bu 26 [.int .i64 uk, .int .i64 up, .int .i64 ud, .slice a9 uL c9, .int .i64 uw, .int .i64 uc, .int .i64 uh, .int .i64 uf, .int .i64 ul] := by rw [← hwq15, ← hbu]; exact Blk.new _ 26 [.int .i64 uk, .int .i64 up, .int .i64 ud, .slice a9 uL c9, .int .i64 uw, .int .i64 uc, .int .i64 uh, .int .i64 uf, .int .i64 ul]
            have hzbu : wq15.heap.size = bu + 1 := by rw [← hwq15, ← hbu]; exact heap_size_alloc _ _
            replace HS := Lib.hid (HS.out.step (w' := wq15) (by rw [← hwq15]; exact Mod.alloc _ _ _))
            replace HS := Lib.hid ((Ev.blk hBbu).and HS.out)
            try rw [hwq15]
            try rw [hbu]
            clear hzbu hBbu hbu hwq15
            have hbbx := (HS.out.now).2.2.2.2.2.1
            have qbx_0 := hbbx.cell 0 rfl
            have qbx_1 := hbbx.cell 1 rfl
            have qbx_2 := hbbx.cell 2 rfl
            have qbx_3 := hbbx.cell 3 rfl
            have qbx_4 := hbbx.cell 4 rfl
            have qbx_5 := hbbx.cell 5 rfl
            have qbx_6 := hbbx.cell 6 rfl
            have qbx_7 := hbbx.cell 7 rfl
            have qbx_8 := hbbx.cell 8 rfl
            have lbx := hbbx.lt
            clear hbbx
            have hbby2 := (HS.out.now).2.2.2.2.1
            have qby2_0 := hbby2.cell 0 rfl
            have qby2_1 := hbby2.cell 1 rfl
            have qby2_2 := hbby2.cell 2 rfl
            have qby2_3 := hbby2.cell 3 rfl
            have qby2_4 := hbby2.cell 4 rfl
            have qby2_5 := hbby2.cell 5 rfl
            have qby2_6 := hbby2.cell 6 rfl
            have qby2_7 := hbby2.cell 7 rfl
            have qby2_8 := hbby2.cell 8 rfl
            have lby2 := hbby2.lt
            clear hbby2
            have hbbu := (HS.out.now).1
            have qbu_0 := hbbu.cell 0 rfl
            have qbu_1 := hbbu.cell 1 rfl
            have qbu_2 := hbbu.cell 2 rfl
            have qbu_3 := hbbu.cell 3 rfl
            have qbu_4 := hbbu.cell 4 rfl
            have qbu_5 := hbbu.cell 5 rfl
            have qbu_6 := hbbu.cell 6 rfl
            have qbu_7 := hbbu.cell 7 rfl
            have qbu_8 := hbbu.cell 8 rfl
            have lbu := hbbu.lt
            clear hbbu
            go_wp2_with fail
            refine (rreadm_any _ ab nb cb b HNB.out ((HS.out.now).2.2.2.2.2.2.1) HGB.out (by omega)).mono ?_
            rintro e wq16 ⟨a8, c8, rfl, hF, hmm⟩
            replace HS := Lib.hid (HS.out.step hmm)
            clear hmm
            rw [HD.out] at hF ⊢
            unfold msgV
            simp only at hF ⊢
            rw [HK.out] at hF ⊢
            try simp only [show decide ((2 : Int) = 0) = false from rfl, decide_true, decide_false]
            replace HS := Lib.hid (((Ev.rd (show Rd wq16 1 (.slice a8 uL c8) uL (ue.map (Value.int .i64)) from Rd.ofOwn hF))).and HS.out)
            clear hF
            go_upto_region 7 with fail
            clear qbx_0 qbx_1 qbx_2 qbx_3 qbx_4 qbx_5 qbx_6 qbx_7 qbx_8 lbx qby2_0 qby2_1 qby2_2 qby2_3 qby2_4 qby2_5 qby2_6 qby2_7 qby2_8 lby2 qbu_0 qbu_1 qbu_2 qbu_3 qbu_4 qbu_5 qbu_6 qbu_7 qbu_8 lbu
            obtain ⟨bv, hbv⟩ : ∃ b, wq16.heap.size = b := ⟨_, rfl⟩
            obtain ⟨wq17, hwq17⟩ : ∃ W, World.alloc wq16 (.cells #[.int .i64 uk, .int .i64 up, .int .i64 ud, .slice a8 uL c8, .int .i64 uw, .int .i64 uc, .int .i64 uh, .int .i64 uf, .int .i64 ul] 26) = W := ⟨_, rfl⟩
            have hBbv : Blk wq17 bv 26 [.int .i64 uk, .int .i64 up, .int .i64 ud, .slice a8 uL c8, .int .i64 uw, .int .i64 uc, .int .i64 uh, .int .i64 uf, .int .i64 ul] := by rw [← hwq17, ← hbv]; exact Blk.new _ 26 [.int .i64 uk, .int .i64 up, .int .i64 ud, .slice a8 uL c8, .int .i64 uw, .int .i64 uc, .int .i64 uh, .int .i64 uf, .int .i64 ul]
            have hzbv : wq17.heap.size = bv + 1 := by rw [← hwq17, ← hbv]; exact heap_size_alloc _ _
            replace HS := Lib.hid (HS.out.step (w' := wq17) (by rw [← hwq17]; exact Mod.alloc _ _ _))
            replace HS := Lib.hid ((Ev.blk hBbv).and HS.out)
            try rw [hwq17]
            try rw [hbv]
            clear hzbv hBbv hbv hwq17
            have hbbx := (HS.out.now).2.2.2.2.2.2.2.1
            have qbx_0 := hbbx.cell 0 rfl
            have qbx_1 := hbbx.cell 1 rfl
            have qbx_2 := hbbx.cell 2 rfl
            have qbx_3 := hbbx.cell 3 rfl
            have qbx_4 := hbbx.cell 4 rfl
            have qbx_5 := hbbx.cell 5 rfl
            have qbx_6 := hbbx.cell 6 rfl
            have qbx_7 := hbbx.cell 7 rfl
            have qbx_8 := hbbx.cell 8 rfl
            have lbx := hbbx.lt
            clear hbbx
            have hbby2 := (HS.out.now).2.2.2.2.2.2.1
            have qby2_0 := hbby2.cell 0 rfl
            have qby2_1 := hbby2.cell 1 rfl
            have qby2_2 := hbby2.cell 2 rfl
            have qby2_3 := hbby2.cell 3 rfl
            have qby2_4 := hbby2.cell 4 rfl
            have qby2_5 := hbby2.cell 5 rfl
            have qby2_6 := hbby2.cell 6 rfl
            have qby2_7 := hbby2.cell 7 rfl
            have qby2_8 := hbby2.cell 8 rfl
            have lby2 := hbby2.lt
            clear hbby2
            have hbbu := (HS.out.now).2.2.1
            have qbu_0 := hbbu.cell 0 rfl
            have qbu_1 := hbbu.cell 1 rfl
            have qbu_2 := hbbu.cell 2 rfl
            have qbu_3 := hbbu.cell 3 rfl
            have qbu_4 := hbbu.cell 4 rfl
            have qbu_5 := hbbu.cell 5 rfl
            have qbu_6 := hbbu.cell 6 rfl
            have qbu_7 := hbbu.cell 7 rfl
            have qbu_8 := hbbu.cell 8 rfl
            have lbu := hbbu.lt
            clear hbbu
            have hbbv := (HS.out.now).1
            have qbv_0 := hbbv.cell 0 rfl
            have qbv_1 := hbbv.cell 1 rfl
            have qbv_2 := hbbv.cell 2 rfl
            have qbv_3 := hbbv.cell 3 rfl
            have qbv_4 := hbbv.cell 4 rfl
            have qbv_5 := hbbv.cell 5 rfl
            have qbv_6 := hbbv.cell 6 rfl
            have qbv_7 := hbbv.cell 7 rfl
            have qbv_8 := hbbv.cell 8 rfl
            have lbv := hbbv.lt
            clear hbbv
            obtain ⟨Y, hY⟩ : ∃ x, strOf ([] : List Int) = x := ⟨_, rfl⟩
            have HY := Lib.hid hY
            clear hY
            have S10 := fun (W : World) r1 r2 => rsamem_any W ⟨uk, up, ud, ue, uw, uc, uh, uf, ul⟩ ⟨uk, up, ud, ue, uw, uc, uh, uf, ul⟩ true (by unfold sameM; simp) a9 uL c9 HK.out r1 a8 uL c8 HK.out r2 (by omega)
            unfold msgV at S10
            simp only at S10
            have S1 := Lib.hid S10
            clear S10
            have S20 := fun (W : World) r1 r2 => msame_any W ⟨mk, mp, md, ed, mw, mc, me, mf, ml⟩ ⟨yk, yp, yd, ye, yw, yc, yh, yf, yl⟩ smo HSMO.out a n c HN.out r1 a2 n2 c2 HN2.out r2 (by omega)
            unfold msgV at S20
            simp only at S20
            have S2 := Lib.hid S20
            clear S20
            have S30 := fun (W : World) r1 r2 => rsamem_any W ⟨mk, mp, md, ed, mw, mc, me, mf, ml⟩ ⟨yk, yp, yd, ye, yw, yc, yh, yf, yl⟩ smo HSMO.out a n c HN.out r1 a2 n2 c2 HN2.out r2 (by omega)
            unfold msgV at S30
            simp only at S30
            have S3 := Lib.hid S30
            clear S30
            have S40 := fun (W : World) r1 r2 => msame_any W ⟨mk, mp, md, ed, mw, mc, me, mf, ml⟩ ⟨mk, mp, md, ed, mw, mc, me, mf, ml⟩ true (by unfold sameM; simp) a n c HN.out r1 a n c HN.out r2 (by omega)
            unfold msgV at S40
            simp only at S40
            have S4 := Lib.hid S40
            clear S40
            clear qbx_0 qbx_1 qbx_2 qbx_3 qbx_4 qbx_5 qbx_6 qbx_7 qbx_8 lbx qby2_0 qby2_1 qby2_2 qby2_3 qby2_4 qby2_5 qby2_6 qby2_7 qby2_8 lby2 qbu_0 qbu_1 qbu_2 qbu_3 qbu_4 qbu_5 qbu_6 qbu_7 qbu_8 lbu qbv_0 qbv_1 qbv_2 qbv_3 qbv_4 qbv_5 qbv_6 qbv_7 qbv_8 lbv
            have HSd := Lib.hid HS.out.drew
            refine wp_region_inv3 (act := ?actmt_r7_0) (Mod (fun _ => False)) (fun i => (mt_r7_0_F a a2 a3 a4 a9 a8 n c n2 c2 c3 c4 uL c9 c8 mk mp md mw mc me mf ml yk yp yd yw yc yh yf yl uk up ud uw uc uh uf ul Y smo).getD i (fun _ _ => True)) (fun i => mt_r7_0_D.getD i []) (by kernel_rfl) (by kernel_rfl) (by kernel_rfl) (by kernel_rfl) (fun _ => Mod.refl _ _)
              (fun _ _ _ h k => h.trans k (fun _ _ e => e) (fun _ _ e => e)) ?hactmt_r7_0 (stable_list ?_) ?_ ?_
            case hactmt_r7_0 => intro vs; simp only [putAll, Nat.zero_add, Nat.reduceAdd, Act.put, List.setIfInBounds_toArray, List.set_cons_succ, List.set_cons_zero]; exact rfl
            · unfold mt_r7_0_F
              exact stable_cons (stable_val _) <| stable_cons (stable_val _) <| stable_cons (stable_val _) <| stable_cons (stable_val _) <| stable_cons (stable_val _) <| stable_cons (stable_val _) <| stable_cons (stable_val _) <| stable_cons (stable_val _) <| stable_cons (stable_val _) <| stable_cons (stable_val _) <| stable_cons (stable_val _) <| stable_cons (stable_val _) <| stable_cons (stable_val _) <| stable_cons (stable_val _) <| stable_cons (stable_val _) <| stable_cons (stable_val _) <| stable_cons (stable_val _) <| stable_cons (stable_val _) <| stable_cons (stable_val _) <| stable_cons (stable_val _) <| stable_cons (stable_val _) <| stable_cons (stable_val _) <| stable_cons (stable_val _) <| stable_cons (stable_val _) <| stable_cons (stable_val _) <| stable_cons (stable_val _) <| stable_cons (stable_val _) <| stable_cons (stable_val _) <| stable_cons (stable_val _) <| stable_cons (stable_val _) <| stable_cons (stable_val _) <| stable_cons (stable_val _) <| stable_cons (stable_val _) <| stable_cons (stable_val _) <| stable_cons (stable_val _) <| stable_cons (stable_val _) <| stable_cons (stable_val _) <| stable_cons (stable_val _) <| stable_cons (stable_val _) <| stable_cons (stable_val _) <| stable_cons (stable_val _) <| stable_cons (stable_val _) <| stable_cons (stable_val _) <| stable_cons (stable_val _) <| stable_cons (stable_val _) <| stable_cons (stable_val _) <| stable_cons (stable_val _) <| stable_cons (stable_val _) <| stable_cons (stable_val _) <| stable_cons (stable_val _) <| stable_cons (stable_val _) <| stable_cons (stable_val _) <| stable_cons (stable_val _) <| stable_cons (stable_val _) <| stable_cons (stable_val _) <| stable_cons (stable_val _) <| stable_cons (stable_val _) <| stable_cons (stable_val _) <| stable_cons (stable_val _) <| stable_nil
            · refine opsOkA_cons ?_ ?_
              · intro K vs W hR hD hK
                clear hD
                try dsimp only at hK ⊢
                simp only [Act.put, List.setIfInBounds_toArray, List.set_cons_succ, List.set_cons_zero] at hK
                go_wp2
                exact hK _ _ rfl (Mod.refl _ _)
              refine opsOkA_cons ?_ ?_
              · intro K vs W hR hD hK
                have dq0 : vs 0 = .slice a3 0 c3 := hD 0 (by decide)
                clear hD
                try dsimp only at hK ⊢
                simp only [Act.put, List.setIfInBounds_toArray, List.set_cons_succ, List.set_cons_zero] at hK
                generalize vs 0 = vq0 at hK dq0 ⊢
                subst vq0
                have k1 := run_strS W 27 9 5 Try.underlying27 Try.underlying5 Try.underlying9 ((HSd.out.at (hR)).2.2.2.2.2.1)
                rw [HY.out] at k1
                go_wp2
                exact hK _ _ rfl (Mod.refl _ _)
              refine opsOkA_cons ?_ ?_
              · intro K vs W hR hD hK
                clear hD
                try dsimp only at hK ⊢
                simp only [Act.put, List.setIfInBounds_toArray, List.set_cons_succ, List.set_cons_zero] at hK
                go_wp2
                exact hK _ _ rfl (Mod.refl _ _)
              refine opsOkA_cons ?_ ?_
              · intro K vs W hR hD hK
                have dq2 : vs 2 = .slice a4 0 c4 := hD 2 (by decide)
                clear hD
                try dsimp only at hK ⊢
                simp only [Act.put, List.setIfInBounds_toArray, List.set_cons_succ, List.set_cons_zero] at hK
                generalize vs 2 = vq2 at hK dq2 ⊢
                subst vq2
                have k1 := run_strS W 27 9 5 Try.underlying27 Try.underlying5 Try.underlying9 ((HSd.out.at (hR)).2.2.2.2.1)
                rw [HY.out] at k1
                go_wp2
                exact hK _ _ rfl (Mod.refl _ _)
              refine opsOkA_cons ?_ ?_
              · intro K vs W hR hD hK
                have dq1 : vs 1 = .string Y := hD 1 (by decide)
                have dq3 : vs 3 = .string Y := hD 3 (by decide)
                clear hD
                try dsimp only at hK ⊢
                simp only [Act.put, List.setIfInBounds_toArray, List.set_cons_succ, List.set_cons_zero] at hK
                generalize vs 1 = vq1 at hK dq1 ⊢
                subst vq1
                generalize vs 3 = vq3 at hK dq3 ⊢
                subst vq3
                go_wp2
                exact hK _ _ rfl (Mod.refl _ _)
              refine opsOkA_cons ?_ ?_
              · intro K vs W hR hD hK
                have dq4 : vs 4 = .bool true := hD 4 (by decide)
                clear hD
                try dsimp only at hK ⊢
                simp only [Act.put, List.setIfInBounds_toArray, List.set_cons_succ, List.set_cons_zero] at hK
                generalize vs 4 = vq4 at hK dq4 ⊢
                subst vq4
                go_wp2
                exact hK _ _ rfl (Mod.refl _ _)
              refine opsOkA_cons ?_ ?_
              · intro K vs W hR hD hK
                have dq5 : vs 5 = .bool true := hD 5 (by decide)
                clear hD
                try dsimp only at hK ⊢
                simp only [Act.put, List.setIfInBounds_toArray, List.set_cons_succ, List.set_cons_zero] at hK
                generalize vs 5 = vq5 at hK dq5 ⊢
                subst vq5
                go_wp2
                exact hK _ _ rfl (Mod.refl _ _)
              refine opsOkA_cons ?_ ?_
              · intro K vs W hR hD hK
                have dq5 : vs 5 = .bool true := hD 5 (by decide)
                have dq6 : vs 6 = .int .i64 1 := hD 6 (by decide)
                clear hD
                try dsimp only at hK ⊢
                simp only [Act.put, List.setIfInBounds_toArray, List.set_cons_succ, List.set_cons_zero] at hK
                generalize vs 5 = vq5 at hK dq5 ⊢
                subst vq5
                generalize vs 6 = vq6 at hK dq6 ⊢
                subst vq6
                go_wp2
                exact hK _ _ rfl (Mod.refl _ _)
              refine opsOkA_cons ?_ ?_
              · intro K vs W hR hD hK
                have dq5 : vs 5 = .bool true := hD 5 (by decide)
                clear hD
                try dsimp only at hK ⊢
                simp only [Act.put, List.setIfInBounds_toArray, List.set_cons_succ, List.set_cons_zero] at hK
                generalize vs 5 = vq5 at hK dq5 ⊢
                subst vq5
                go_wp2
                exact hK _ _ rfl (Mod.refl _ _)
              refine opsOkA_cons ?_ ?_
              · intro K vs W hR hD hK
                have dq5 : vs 5 = .bool true := hD 5 (by decide)
                have dq7 : vs 7 = .bool false := hD 7 (by decide)
                have dq8 : vs 8 = .bool false := hD 8 (by decide)
                clear hD
                try dsimp only at hK ⊢
                simp only [Act.put, List.setIfInBounds_toArray, List.set_cons_succ, List.set_cons_zero] at hK
                generalize vs 5 = vq5 at hK dq5 ⊢
                subst vq5
                generalize vs 7 = vq7 at hK dq7 ⊢
                subst vq7
                generalize vs 8 = vq8 at hK dq8 ⊢
                subst vq8
                go_wp2
                exact hK _ _ rfl (Mod.refl _ _)
              refine opsOkA_cons ?_ ?_
              · intro K vs W hR hD hK
                have dq5 : vs 5 = .bool true := hD 5 (by decide)
                have dq9 : vs 9 = .bool true := hD 9 (by decide)
                clear hD
                try dsimp only at hK ⊢
                simp only [Act.put, List.setIfInBounds_toArray, List.set_cons_succ, List.set_cons_zero] at hK
                generalize vs 5 = vq5 at hK dq5 ⊢
                subst vq5
                generalize vs 9 = vq9 at hK dq9 ⊢
                subst vq9
                go_wp2
                exact hK _ _ rfl (Mod.refl _ _)
              refine opsOkA_cons ?_ ?_
              · intro K vs W hR hD hK
                have dq10 : vs 10 = .bool true := hD 10 (by decide)
                clear hD
                try dsimp only at hK ⊢
                simp only [Act.put, List.setIfInBounds_toArray, List.set_cons_succ, List.set_cons_zero] at hK
                generalize vs 10 = vq10 at hK dq10 ⊢
                subst vq10
                go_wp2
                exact hK _ _ rfl (Mod.refl _ _)
              refine opsOkA_cons ?_ ?_
              · intro K vs W hR hD hK
                have dq11 : vs 11 = .bool true := hD 11 (by decide)
                clear hD
                try dsimp only at hK ⊢
                simp only [Act.put, List.setIfInBounds_toArray, List.set_cons_succ, List.set_cons_zero] at hK
                generalize vs 11 = vq11 at hK dq11 ⊢
                subst vq11
                go_wp2
                exact hK _ _ rfl (Mod.refl _ _)
              refine opsOkA_cons ?_ ?_
              · intro K vs W hR hD hK
                have dq11 : vs 11 = .bool true := hD 11 (by decide)
                have dq12 : vs 12 = .bool false := hD 12 (by decide)
                clear hD
                try dsimp only at hK ⊢
                simp only [Act.put, List.setIfInBounds_toArray, List.set_cons_succ, List.set_cons_zero] at hK
                generalize vs 11 = vq11 at hK dq11 ⊢
                subst vq11
                generalize vs 12 = vq12 at hK dq12 ⊢
                subst vq12
                go_wp2
                exact hK _ _ rfl (Mod.refl _ _)
              refine opsOkA_cons ?_ ?_
              · intro K vs W hR hD hK
                have dq13 : vs 13 = .bool false := hD 13 (by decide)
                clear hD
                try dsimp only at hK ⊢
                simp only [Act.put, List.setIfInBounds_toArray, List.set_cons_succ, List.set_cons_zero] at hK
                generalize vs 13 = vq13 at hK dq13 ⊢
                subst vq13
                go_wp2
                exact hK _ _ rfl (Mod.refl _ _)
              refine opsOkA_cons ?_ ?_
              · intro K vs W hR hD hK
                have dq13 : vs 13 = .bool false := hD 13 (by decide)
                have dq14 : vs 14 = .int .i64 1 := hD 14 (by decide)
                clear hD
                try dsimp only at hK ⊢
                simp only [Act.put, List.setIfInBounds_toArray, List.set_cons_succ, List.set_cons_zero] at hK
                generalize vs 13 = vq13 at hK dq13 ⊢
                subst vq13
                generalize vs 14 = vq14 at hK dq14 ⊢
                subst vq14
                go_wp2
                exact hK _ _ rfl (Mod.refl _ _)
              refine opsOkA_cons ?_ ?_
              · intro K vs W hR hD hK
                have dq13 : vs 13 = .bool false := hD 13 (by decide)
                have dq15 : vs 15 = .bool true := hD 15 (by decide)
                clear hD
                try dsimp only at hK ⊢
                simp only [Act.put, List.setIfInBounds_toArray, List.set_cons_succ, List.set_cons_zero] at hK
                generalize vs 13 = vq13 at hK dq13 ⊢
                subst vq13
                generalize vs 15 = vq15 at hK dq15 ⊢
                subst vq15
                go_wp2
                exact hK _ _ rfl (Mod.refl _ _)
              refine opsOkA_cons ?_ ?_
              · intro K vs W hR hD hK
                have dq16 : vs 16 = .bool true := hD 16 (by decide)
                clear hD
                try dsimp only at hK ⊢
                simp only [Act.put, List.setIfInBounds_toArray, List.set_cons_succ, List.set_cons_zero] at hK
                generalize vs 16 = vq16 at hK dq16 ⊢
                subst vq16
                go_wp2
                exact hK _ _ rfl (Mod.refl _ _)
              refine opsOkA_cons ?_ ?_
              · intro K vs W hR hD hK
                have dq16 : vs 16 = .bool true := hD 16 (by decide)
                have dq17 : vs 17 = .slice a3 0 c3 := hD 17 (by decide)
                clear hD
                try dsimp only at hK ⊢
                simp only [Act.put, List.setIfInBounds_toArray, List.set_cons_succ, List.set_cons_zero] at hK
                generalize vs 16 = vq16 at hK dq16 ⊢
                subst vq16
                generalize vs 17 = vq17 at hK dq17 ⊢
                subst vq17
                go_wp2_with fail
                exact hK _ _ rfl (Mod.refl _ _)
              refine opsOkA_cons ?_ ?_
              · intro K vs W hR hD hK
                have dq16 : vs 16 = .bool true := hD 16 (by decide)
                have dq18 : vs 18 = .int .i64 0 := hD 18 (by decide)
                clear hD
                try dsimp only at hK ⊢
                simp only [Act.put, List.setIfInBounds_toArray, List.set_cons_succ, List.set_cons_zero] at hK
                generalize vs 16 = vq16 at hK dq16 ⊢
                subst vq16
                generalize vs 18 = vq18 at hK dq18 ⊢
                subst vq18
                go_wp2
                exact hK _ _ rfl (Mod.refl _ _)
              refine opsOkA_cons ?_ ?_
              · intro K vs W hR hD hK
                have dq13 : vs 13 = .bool false := hD 13 (by decide)
                have dq16 : vs 16 = .bool true := hD 16 (by decide)
                have dq19 : vs 19 = .bool true := hD 19 (by decide)
                clear hD
                try dsimp only at hK ⊢
                simp only [Act.put, List.setIfInBounds_toArray, List.set_cons_succ, List.set_cons_zero] at hK
                generalize vs 13 = vq13 at hK dq13 ⊢
                subst vq13
                generalize vs 16 = vq16 at hK dq16 ⊢
                subst vq16
                generalize vs 19 = vq19 at hK dq19 ⊢
                subst vq19
                go_wp2
                exact hK _ _ rfl (Mod.refl _ _)
              refine opsOkA_cons ?_ ?_
              · intro K vs W hR hD hK
                have dq11 : vs 11 = .bool true := hD 11 (by decide)
                have dq13 : vs 13 = .bool false := hD 13 (by decide)
                have dq20 : vs 20 = .bool true := hD 20 (by decide)
                clear hD
                try dsimp only at hK ⊢
                simp only [Act.put, List.setIfInBounds_toArray, List.set_cons_succ, List.set_cons_zero] at hK
                generalize vs 11 = vq11 at hK dq11 ⊢
                subst vq11
                generalize vs 13 = vq13 at hK dq13 ⊢
                subst vq13
                generalize vs 20 = vq20 at hK dq20 ⊢
                subst vq20
                go_wp2
                exact hK _ _ rfl (Mod.refl _ _)
              refine opsOkA_cons ?_ ?_
              · intro K vs W hR hD hK
                have dq11 : vs 11 = .bool true := hD 11 (by decide)
                have dq21 : vs 21 = .bool true := hD 21 (by decide)
                clear hD
                try dsimp only at hK ⊢
                simp only [Act.put, List.setIfInBounds_toArray, List.set_cons_succ, List.set_cons_zero] at hK
                generalize vs 11 = vq11 at hK dq11 ⊢
                subst vq11
                generalize vs 21 = vq21 at hK dq21 ⊢
                subst vq21
                go_wp2
                exact hK _ _ rfl (Mod.refl _ _)
              refine opsOkA_cons ?_ ?_
              · intro K vs W hR hD hK
                have dq22 : vs 22 = .bool true := hD 22 (by decide)
                clear hD
                try dsimp only at hK ⊢
                simp only [Act.put, List.setIfInBounds_toArray, List.set_cons_succ, List.set_cons_zero] at hK
                generalize vs 22 = vq22 at hK dq22 ⊢
                subst vq22
                go_wp2
                exact hK _ _ rfl (Mod.refl _ _)
              refine opsOkA_cons ?_ ?_
              · intro K vs W hR hD hK
                have dq23 : vs 23 = .bool true := hD 23 (by decide)
                clear hD
                try dsimp only at hK ⊢
                simp only [Act.put, List.setIfInBounds_toArray, List.set_cons_succ, List.set_cons_zero] at hK
                generalize vs 23 = vq23 at hK dq23 ⊢
                subst vq23
                have hbx := (HSd.out.at (hR)).2.2.1
                have q0 := hbx.cell 0 rfl
                have q1 := hbx.cell 1 rfl
                have q2 := hbx.cell 2 rfl
                have q3 := hbx.cell 3 rfl
                have q4 := hbx.cell 4 rfl
                have q5 := hbx.cell 5 rfl
                have q6 := hbx.cell 6 rfl
                have q7 := hbx.cell 7 rfl
                have q8 := hbx.cell 8 rfl
                go_wp2
                exact hK _ _ rfl (Mod.refl _ _)
              refine opsOkA_cons ?_ ?_
              · intro K vs W hR hD hK
                have dq23 : vs 23 = .bool true := hD 23 (by decide)
                clear hD
                try dsimp only at hK ⊢
                simp only [Act.put, List.setIfInBounds_toArray, List.set_cons_succ, List.set_cons_zero] at hK
                generalize vs 23 = vq23 at hK dq23 ⊢
                subst vq23
                have hbx := (HSd.out.at (hR)).1
                have q0 := hbx.cell 0 rfl
                have q1 := hbx.cell 1 rfl
                have q2 := hbx.cell 2 rfl
                have q3 := hbx.cell 3 rfl
                have q4 := hbx.cell 4 rfl
                have q5 := hbx.cell 5 rfl
                have q6 := hbx.cell 6 rfl
                have q7 := hbx.cell 7 rfl
                have q8 := hbx.cell 8 rfl
                go_wp2
                exact hK _ _ rfl (Mod.refl _ _)
              refine opsOkA_cons ?_ ?_
              · intro K vs W hR hD hK
                have dq23 : vs 23 = .bool true := hD 23 (by decide)
                have dq24 : vs 24 = .agg #[.int .i64 uk, .int .i64 up, .int .i64 ud, .slice a9 uL c9, .int .i64 uw, .int .i64 uc, .int .i64 uh, .int .i64 uf, .int .i64 ul] := hD 24 (by decide)
                have dq25 : vs 25 = .agg #[.int .i64 uk, .int .i64 up, .int .i64 ud, .slice a8 uL c8, .int .i64 uw, .int .i64 uc, .int .i64 uh, .int .i64 uf, .int .i64 ul] := hD 25 (by decide)
                clear hD
                try dsimp only at hK ⊢
                simp only [Act.put, List.setIfInBounds_toArray, List.set_cons_succ, List.set_cons_zero] at hK
                generalize vs 23 = vq23 at hK dq23 ⊢
                subst vq23
                generalize vs 24 = vq24 at hK dq24 ⊢
                subst vq24
                generalize vs 25 = vq25 at hK dq25 ⊢
                subst vq25
                go_wp2_with (go_at_call 14; refine (S1.out W ((HSd.out.at (hR)).2.2.2.1) ((HSd.out.at (hR)).2.1)).mono ?_; rintro e' w' ⟨rfl, hm'⟩)
                exact hK _ _ rfl hm'
              refine opsOkA_cons ?_ ?_
              · intro K vs W hR hD hK
                have dq23 : vs 23 = .bool true := hD 23 (by decide)
                have dq26 : vs 26 = .bool true := hD 26 (by decide)
                clear hD
                try dsimp only at hK ⊢
                simp only [Act.put, List.setIfInBounds_toArray, List.set_cons_succ, List.set_cons_zero] at hK
                generalize vs 23 = vq23 at hK dq23 ⊢
                subst vq23
                generalize vs 26 = vq26 at hK dq26 ⊢
                subst vq26
                go_wp2
                exact hK _ _ rfl (Mod.refl _ _)
              refine opsOkA_cons ?_ ?_
              · intro K vs W hR hD hK
                have dq27 : vs 27 = .bool true := hD 27 (by decide)
                clear hD
                try dsimp only at hK ⊢
                simp only [Act.put, List.setIfInBounds_toArray, List.set_cons_succ, List.set_cons_zero] at hK
                generalize vs 27 = vq27 at hK dq27 ⊢
                subst vq27
                go_wp2
                exact hK _ _ rfl (Mod.refl _ _)
              refine opsOkA_cons ?_ ?_
              · intro K vs W hR hD hK
                have dq28 : vs 28 = .bool true := hD 28 (by decide)
                clear hD
                try dsimp only at hK ⊢
                simp only [Act.put, List.setIfInBounds_toArray, List.set_cons_succ, List.set_cons_zero] at hK
                generalize vs 28 = vq28 at hK dq28 ⊢
                subst vq28
                go_wp2
                exact hK _ _ rfl (Mod.refl _ _)
              refine opsOkA_cons ?_ ?_
              · intro K vs W hR hD hK
                have dq28 : vs 28 = .bool true := hD 28 (by decide)
                have dq29 : vs 29 = .int .i64 0 := hD 29 (by decide)
                clear hD
                try dsimp only at hK ⊢
                simp only [Act.put, List.setIfInBounds_toArray, List.set_cons_succ, List.set_cons_zero] at hK
                generalize vs 28 = vq28 at hK dq28 ⊢
                subst vq28
                generalize vs 29 = vq29 at hK dq29 ⊢
                subst vq29
                go_wp2
                exact hK _ _ rfl (Mod.refl _ _)
              refine opsOkA_cons ?_ ?_
              · intro K vs W hR hD hK
                have dq28 : vs 28 = .bool true := hD 28 (by decide)
                clear hD
                try dsimp only at hK ⊢
                simp only [Act.put, List.setIfInBounds_toArray, List.set_cons_succ, List.set_cons_zero] at hK
                generalize vs 28 = vq28 at hK dq28 ⊢
                subst vq28
                go_wp2
                exact hK _ _ rfl (Mod.refl _ _)
              refine opsOkA_cons ?_ ?_
              · intro K vs W hR hD hK
                have dq28 : vs 28 = .bool true := hD 28 (by decide)
                have dq30 : vs 30 = .bool true := hD 30 (by decide)
                have dq31 : vs 31 = .bool true := hD 31 (by decide)
                clear hD
                try dsimp only at hK ⊢
                simp only [Act.put, List.setIfInBounds_toArray, List.set_cons_succ, List.set_cons_zero] at hK
                generalize vs 28 = vq28 at hK dq28 ⊢
                subst vq28
                generalize vs 30 = vq30 at hK dq30 ⊢
                subst vq30
                generalize vs 31 = vq31 at hK dq31 ⊢
                subst vq31
                go_wp2
                exact hK _ _ rfl (Mod.refl _ _)
              refine opsOkA_cons ?_ ?_
              · intro K vs W hR hD hK
                have dq28 : vs 28 = .bool true := hD 28 (by decide)
                have dq32 : vs 32 = .bool true := hD 32 (by decide)
                clear hD
                try dsimp only at hK ⊢
                simp only [Act.put, List.setIfInBounds_toArray, List.set_cons_succ, List.set_cons_zero] at hK
                generalize vs 28 = vq28 at hK dq28 ⊢
                subst vq28
                generalize vs 32 = vq32 at hK dq32 ⊢
                subst vq32
                go_wp2
                exact hK _ _ rfl (Mod.refl _ _)
              refine opsOkA_cons ?_ ?_
              · intro K vs W hR hD hK
                have dq33 : vs 33 = .bool true := hD 33 (by decide)
                clear hD
                try dsimp only at hK ⊢
                simp only [Act.put, List.setIfInBounds_toArray, List.set_cons_succ, List.set_cons_zero] at hK
                generalize vs 33 = vq33 at hK dq33 ⊢
                subst vq33
                go_wp2
                exact hK _ _ rfl (Mod.refl _ _)
              refine opsOkA_cons ?_ ?_
              · intro K vs W hR hD hK
                have dq34 : vs 34 = .bool true := hD 34 (by decide)
                clear hD
                try dsimp only at hK ⊢
                simp only [Act.put, List.setIfInBounds_toArray, List.set_cons_succ, List.set_cons_zero] at hK
                generalize vs 34 = vq34 at hK dq34 ⊢
                subst vq34
                go_wp2
                exact hK _ _ rfl (Mod.refl _ _)
              refine opsOkA_cons ?_ ?_
              · intro K vs W hR hD hK
                have dq34 : vs 34 = .bool true := hD 34 (by decide)
                have dq35 : vs 35 = .bool true := hD 35 (by decide)
                clear hD
                try dsimp only at hK ⊢
                simp only [Act.put, List.setIfInBounds_toArray, List.set_cons_succ, List.set_cons_zero] at hK
                generalize vs 34 = vq34 at hK dq34 ⊢
                subst vq34
                generalize vs 35 = vq35 at hK dq35 ⊢
                subst vq35
                go_wp2
                exact hK _ _ rfl (Mod.refl _ _)
              refine opsOkA_cons ?_ ?_
              · intro K vs W hR hD hK
                have dq36 : vs 36 = .bool true := hD 36 (by decide)
                clear hD
                try dsimp only at hK ⊢
                simp only [Act.put, List.setIfInBounds_toArray, List.set_cons_succ, List.set_cons_zero] at hK
                generalize vs 36 = vq36 at hK dq36 ⊢
                subst vq36
                go_wp2
                exact hK _ _ rfl (Mod.refl _ _)
              refine opsOkA_cons ?_ ?_
              · intro K vs W hR hD hK
                have dq36 : vs 36 = .bool true := hD 36 (by decide)
                clear hD
                try dsimp only at hK ⊢
                simp only [Act.put, List.setIfInBounds_toArray, List.set_cons_succ, List.set_cons_zero] at hK
                generalize vs 36 = vq36 at hK dq36 ⊢
                subst vq36
                go_wp2
                exact hK _ _ rfl (Mod.refl _ _)
              refine opsOkA_cons ?_ ?_
              · intro K vs W hR hD hK
                have dq34 : vs 34 = .bool true := hD 34 (by decide)
                have dq36 : vs 36 = .bool true := hD 36 (by decide)
                have dq38 : vs 38 = undef := hD 38 (by decide)
                clear hD
                try dsimp only at hK ⊢
                simp only [Act.put, List.setIfInBounds_toArray, List.set_cons_succ, List.set_cons_zero] at hK
                generalize vs 34 = vq34 at hK dq34 ⊢
                subst vq34
                generalize vs 36 = vq36 at hK dq36 ⊢
                subst vq36
                generalize vs 38 = vq38 at hK dq38 ⊢
                subst vq38
                go_wp2
                exact hK _ _ rfl (Mod.refl _ _)
              refine opsOkA_cons ?_ ?_
              · intro K vs W hR hD hK
                have dq34 : vs 34 = .bool true := hD 34 (by decide)
                have dq39 : vs 39 = .bool true := hD 39 (by decide)
                clear hD
                try dsimp only at hK ⊢
                simp only [Act.put, List.setIfInBounds_toArray, List.set_cons_succ, List.set_cons_zero] at hK
                generalize vs 34 = vq34 at hK dq34 ⊢
                subst vq34
                generalize vs 39 = vq39 at hK dq39 ⊢
                subst vq39
                go_wp2
                exact hK _ _ rfl (Mod.refl _ _)
              refine opsOkA_cons ?_ ?_
              · intro K vs W hR hD hK
                have dq40 : vs 40 = .bool true := hD 40 (by decide)
                clear hD
                try dsimp only at hK ⊢
                simp only [Act.put, List.setIfInBounds_toArray, List.set_cons_succ, List.set_cons_zero] at hK
                generalize vs 40 = vq40 at hK dq40 ⊢
                subst vq40
                go_wp2
                exact hK _ _ rfl (Mod.refl _ _)
              refine opsOkA_cons ?_ ?_
              · intro K vs W hR hD hK
                have dq41 : vs 41 = .bool true := hD 41 (by decide)
                clear hD
                try dsimp only at hK ⊢
                simp only [Act.put, List.setIfInBounds_toArray, List.set_cons_succ, List.set_cons_zero] at hK
                generalize vs 41 = vq41 at hK dq41 ⊢
                subst vq41
                have hbx := (HSd.out.at (hR)).2.2.2.2.2.2.2.1
                have q0 := hbx.cell 0 rfl
                have q1 := hbx.cell 1 rfl
                have q2 := hbx.cell 2 rfl
                have q3 := hbx.cell 3 rfl
                have q4 := hbx.cell 4 rfl
                have q5 := hbx.cell 5 rfl
                have q6 := hbx.cell 6 rfl
                have q7 := hbx.cell 7 rfl
                have q8 := hbx.cell 8 rfl
                go_wp2
                exact hK _ _ rfl (Mod.refl _ _)
              refine opsOkA_cons ?_ ?_
              · intro K vs W hR hD hK
                have dq41 : vs 41 = .bool true := hD 41 (by decide)
                clear hD
                try dsimp only at hK ⊢
                simp only [Act.put, List.setIfInBounds_toArray, List.set_cons_succ, List.set_cons_zero] at hK
                generalize vs 41 = vq41 at hK dq41 ⊢
                subst vq41
                have hbx := (HSd.out.at (hR)).2.2.2.2.2.2.1
                have q0 := hbx.cell 0 rfl
                have q1 := hbx.cell 1 rfl
                have q2 := hbx.cell 2 rfl
                have q3 := hbx.cell 3 rfl
                have q4 := hbx.cell 4 rfl
                have q5 := hbx.cell 5 rfl
                have q6 := hbx.cell 6 rfl
                have q7 := hbx.cell 7 rfl
                have q8 := hbx.cell 8 rfl
                go_wp2
                exact hK _ _ rfl (Mod.refl _ _)
              refine opsOkA_cons ?_ ?_
              · intro K vs W hR hD hK
                have dq41 : vs 41 = .bool true := hD 41 (by decide)
                have dq42 : vs 42 = .agg #[.int .i64 mk, .int .i64 mp, .int .i64 md, .slice a n c, .int .i64 mw, .int .i64 mc, .int .i64 me, .int .i64 mf, .int .i64 ml] := hD 42 (by decide)
                have dq43 : vs 43 = .agg #[.int .i64 yk, .int .i64 yp, .int .i64 yd, .slice a2 n2 c2, .int .i64 yw, .int .i64 yc, .int .i64 yh, .int .i64 yf, .int .i64 yl] := hD 43 (by decide)
                clear hD
                try dsimp only at hK ⊢
                simp only [Act.put, List.setIfInBounds_toArray, List.set_cons_succ, List.set_cons_zero] at hK
                generalize vs 41 = vq41 at hK dq41 ⊢
                subst vq41
                generalize vs 42 = vq42 at hK dq42 ⊢
                subst vq42
                generalize vs 43 = vq43 at hK dq43 ⊢
                subst vq43
                go_wp2_with (go_at_call 15; refine (S2.out W ((HSd.out.at (hR)).2.2.2.2.2.2.2.2.2.2.1) ((HSd.out.at (hR)).2.2.2.2.2.2.2.2.2.1)).mono ?_; rintro e' w' ⟨rfl, hm'⟩)
                exact hK _ _ rfl hm'
              refine opsOkA_cons ?_ ?_
              · intro K vs W hR hD hK
                have dq41 : vs 41 = .bool true := hD 41 (by decide)
                clear hD
                try dsimp only at hK ⊢
                simp only [Act.put, List.setIfInBounds_toArray, List.set_cons_succ, List.set_cons_zero] at hK
                generalize vs 41 = vq41 at hK dq41 ⊢
                subst vq41
                have hbx := (HSd.out.at (hR)).2.2.2.2.2.2.2.1
                have q0 := hbx.cell 0 rfl
                have q1 := hbx.cell 1 rfl
                have q2 := hbx.cell 2 rfl
                have q3 := hbx.cell 3 rfl
                have q4 := hbx.cell 4 rfl
                have q5 := hbx.cell 5 rfl
                have q6 := hbx.cell 6 rfl
                have q7 := hbx.cell 7 rfl
                have q8 := hbx.cell 8 rfl
                go_wp2
                exact hK _ _ rfl (Mod.refl _ _)
              refine opsOkA_cons ?_ ?_
              · intro K vs W hR hD hK
                have dq41 : vs 41 = .bool true := hD 41 (by decide)
                clear hD
                try dsimp only at hK ⊢
                simp only [Act.put, List.setIfInBounds_toArray, List.set_cons_succ, List.set_cons_zero] at hK
                generalize vs 41 = vq41 at hK dq41 ⊢
                subst vq41
                have hbx := (HSd.out.at (hR)).2.2.2.2.2.2.1
                have q0 := hbx.cell 0 rfl
                have q1 := hbx.cell 1 rfl
                have q2 := hbx.cell 2 rfl
                have q3 := hbx.cell 3 rfl
                have q4 := hbx.cell 4 rfl
                have q5 := hbx.cell 5 rfl
                have q6 := hbx.cell 6 rfl
                have q7 := hbx.cell 7 rfl
                have q8 := hbx.cell 8 rfl
                go_wp2
                exact hK _ _ rfl (Mod.refl _ _)
              refine opsOkA_cons ?_ ?_
              · intro K vs W hR hD hK
                have dq41 : vs 41 = .bool true := hD 41 (by decide)
                have dq45 : vs 45 = .agg #[.int .i64 mk, .int .i64 mp, .int .i64 md, .slice a n c, .int .i64 mw, .int .i64 mc, .int .i64 me, .int .i64 mf, .int .i64 ml] := hD 45 (by decide)
                have dq46 : vs 46 = .agg #[.int .i64 yk, .int .i64 yp, .int .i64 yd, .slice a2 n2 c2, .int .i64 yw, .int .i64 yc, .int .i64 yh, .int .i64 yf, .int .i64 yl] := hD 46 (by decide)
                clear hD
                try dsimp only at hK ⊢
                simp only [Act.put, List.setIfInBounds_toArray, List.set_cons_succ, List.set_cons_zero] at hK
                generalize vs 41 = vq41 at hK dq41 ⊢
                subst vq41
                generalize vs 45 = vq45 at hK dq45 ⊢
                subst vq45
                generalize vs 46 = vq46 at hK dq46 ⊢
                subst vq46
                go_wp2_with (go_at_call 14; refine (S3.out W ((HSd.out.at (hR)).2.2.2.2.2.2.2.2.2.2.1) ((HSd.out.at (hR)).2.2.2.2.2.2.2.2.2.1)).mono ?_; rintro e' w' ⟨rfl, hm'⟩)
                exact hK _ _ rfl hm'
              refine opsOkA_cons ?_ ?_
              · intro K vs W hR hD hK
                have dq41 : vs 41 = .bool true := hD 41 (by decide)
                have dq44 : vs 44 = .bool smo := hD 44 (by decide)
                have dq47 : vs 47 = .bool smo := hD 47 (by decide)
                clear hD
                try dsimp only at hK ⊢
                simp only [Act.put, List.setIfInBounds_toArray, List.set_cons_succ, List.set_cons_zero] at hK
                generalize vs 41 = vq41 at hK dq41 ⊢
                subst vq41
                generalize vs 44 = vq44 at hK dq44 ⊢
                subst vq44
                generalize vs 47 = vq47 at hK dq47 ⊢
                subst vq47
                go_wp2
                exact hK _ _ rfl (Mod.refl _ _)
              refine opsOkA_cons ?_ ?_
              · intro K vs W hR hD hK
                have dq41 : vs 41 = .bool true := hD 41 (by decide)
                have dq48 : vs 48 = .bool true := hD 48 (by decide)
                clear hD
                try dsimp only at hK ⊢
                simp only [Act.put, List.setIfInBounds_toArray, List.set_cons_succ, List.set_cons_zero] at hK
                generalize vs 41 = vq41 at hK dq41 ⊢
                subst vq41
                generalize vs 48 = vq48 at hK dq48 ⊢
                subst vq48
                go_wp2
                exact hK _ _ rfl (Mod.refl _ _)
              refine opsOkA_cons ?_ ?_
              · intro K vs W hR hD hK
                have dq49 : vs 49 = .bool true := hD 49 (by decide)
                clear hD
                try dsimp only at hK ⊢
                simp only [Act.put, List.setIfInBounds_toArray, List.set_cons_succ, List.set_cons_zero] at hK
                generalize vs 49 = vq49 at hK dq49 ⊢
                subst vq49
                go_wp2
                exact hK _ _ rfl (Mod.refl _ _)
              refine opsOkA_cons ?_ ?_
              · intro K vs W hR hD hK
                have dq50 : vs 50 = .bool true := hD 50 (by decide)
                clear hD
                try dsimp only at hK ⊢
                simp only [Act.put, List.setIfInBounds_toArray, List.set_cons_succ, List.set_cons_zero] at hK
                generalize vs 50 = vq50 at hK dq50 ⊢
                subst vq50
                have hbx := (HSd.out.at (hR)).2.2.2.2.2.2.2.1
                have q0 := hbx.cell 0 rfl
                have q1 := hbx.cell 1 rfl
                have q2 := hbx.cell 2 rfl
                have q3 := hbx.cell 3 rfl
                have q4 := hbx.cell 4 rfl
                have q5 := hbx.cell 5 rfl
                have q6 := hbx.cell 6 rfl
                have q7 := hbx.cell 7 rfl
                have q8 := hbx.cell 8 rfl
                go_wp2
                exact hK _ _ rfl (Mod.refl _ _)
              refine opsOkA_cons ?_ ?_
              · intro K vs W hR hD hK
                have dq50 : vs 50 = .bool true := hD 50 (by decide)
                clear hD
                try dsimp only at hK ⊢
                simp only [Act.put, List.setIfInBounds_toArray, List.set_cons_succ, List.set_cons_zero] at hK
                generalize vs 50 = vq50 at hK dq50 ⊢
                subst vq50
                have hbx := (HSd.out.at (hR)).2.2.2.2.2.2.2.1
                have q0 := hbx.cell 0 rfl
                have q1 := hbx.cell 1 rfl
                have q2 := hbx.cell 2 rfl
                have q3 := hbx.cell 3 rfl
                have q4 := hbx.cell 4 rfl
                have q5 := hbx.cell 5 rfl
                have q6 := hbx.cell 6 rfl
                have q7 := hbx.cell 7 rfl
                have q8 := hbx.cell 8 rfl
                go_wp2
                exact hK _ _ rfl (Mod.refl _ _)
              refine opsOkA_cons ?_ ?_
              · intro K vs W hR hD hK
                have dq50 : vs 50 = .bool true := hD 50 (by decide)
                have dq51 : vs 51 = .agg #[.int .i64 mk, .int .i64 mp, .int .i64 md, .slice a n c, .int .i64 mw, .int .i64 mc, .int .i64 me, .int .i64 mf, .int .i64 ml] := hD 51 (by decide)
                have dq52 : vs 52 = .agg #[.int .i64 mk, .int .i64 mp, .int .i64 md, .slice a n c, .int .i64 mw, .int .i64 mc, .int .i64 me, .int .i64 mf, .int .i64 ml] := hD 52 (by decide)
                clear hD
                try dsimp only at hK ⊢
                simp only [Act.put, List.setIfInBounds_toArray, List.set_cons_succ, List.set_cons_zero] at hK
                generalize vs 50 = vq50 at hK dq50 ⊢
                subst vq50
                generalize vs 51 = vq51 at hK dq51 ⊢
                subst vq51
                generalize vs 52 = vq52 at hK dq52 ⊢
                subst vq52
                go_wp2_with (go_at_call 15; refine (S4.out W ((HSd.out.at (hR)).2.2.2.2.2.2.2.2.2.2.1) ((HSd.out.at (hR)).2.2.2.2.2.2.2.2.2.2.1)).mono ?_; rintro e' w' ⟨rfl, hm'⟩)
                exact hK _ _ rfl hm'
              refine opsOkA_cons ?_ ?_
              · intro K vs W hR hD hK
                have dq50 : vs 50 = .bool true := hD 50 (by decide)
                have dq53 : vs 53 = .bool true := hD 53 (by decide)
                clear hD
                try dsimp only at hK ⊢
                simp only [Act.put, List.setIfInBounds_toArray, List.set_cons_succ, List.set_cons_zero] at hK
                generalize vs 50 = vq50 at hK dq50 ⊢
                subst vq50
                generalize vs 53 = vq53 at hK dq53 ⊢
                subst vq53
                go_wp2
                exact hK _ _ rfl (Mod.refl _ _)
              refine opsOkA_cons ?_ ?_
              · intro K vs W hR hD hK
                have dq54 : vs 54 = .bool true := hD 54 (by decide)
                clear hD
                try dsimp only at hK ⊢
                simp only [Act.put, List.setIfInBounds_toArray, List.set_cons_succ, List.set_cons_zero] at hK
                generalize vs 54 = vq54 at hK dq54 ⊢
                subst vq54
                go_wp2
                exact hK _ _ rfl (Mod.refl _ _)
              refine opsOkA_cons ?_ ?_
              · intro K vs W hR hD hK
                have dq55 : vs 55 = .bool true := hD 55 (by decide)
                clear hD
                try dsimp only at hK ⊢
                simp only [Act.put, List.setIfInBounds_toArray, List.set_cons_succ, List.set_cons_zero] at hK
                generalize vs 55 = vq55 at hK dq55 ⊢
                subst vq55
                go_wp2_with (go_at_call 9; refine (awake22_any W).mono ?_; rintro e' w' ⟨rfl, hm'⟩)
                exact hK _ _ rfl hm'
              refine opsOkA_cons ?_ ?_
              · intro K vs W hR hD hK
                have dq55 : vs 55 = .bool true := hD 55 (by decide)
                have dq56 : vs 56 = .bool true := hD 56 (by decide)
                clear hD
                try dsimp only at hK ⊢
                simp only [Act.put, List.setIfInBounds_toArray, List.set_cons_succ, List.set_cons_zero] at hK
                generalize vs 55 = vq55 at hK dq55 ⊢
                subst vq55
                generalize vs 56 = vq56 at hK dq56 ⊢
                subst vq56
                go_wp2
                exact hK _ _ rfl (Mod.refl _ _)
              refine opsOkA_cons ?_ ?_
              · intro K vs W hR hD hK
                have dq57 : vs 57 = .bool true := hD 57 (by decide)
                clear hD
                try dsimp only at hK ⊢
                simp only [Act.put, List.setIfInBounds_toArray, List.set_cons_succ, List.set_cons_zero] at hK
                generalize vs 57 = vq57 at hK dq57 ⊢
                subst vq57
                go_wp2
                exact hK _ _ rfl (Mod.refl _ _)
              exact opsOkA_nil
            · intro vs wq18 hR hF
              have dq58 : vs 58 = .bool true := hF 58 (by decide)
              clear hF
              try dsimp only
              generalize vs 58 = vq58 at dq58 ⊢
              subst dq58
              replace HS := Lib.hid (HSd.out.step hR)
              clear HSd hR
              have hbbx := (HS.out.now).2.2.2.2.2.2.2.1
              have qbx_0 := hbbx.cell 0 rfl
              have qbx_1 := hbbx.cell 1 rfl
              have qbx_2 := hbbx.cell 2 rfl
              have qbx_3 := hbbx.cell 3 rfl
              have qbx_4 := hbbx.cell 4 rfl
              have qbx_5 := hbbx.cell 5 rfl
              have qbx_6 := hbbx.cell 6 rfl
              have qbx_7 := hbbx.cell 7 rfl
              have qbx_8 := hbbx.cell 8 rfl
              have lbx := hbbx.lt
              clear hbbx
              have hbby2 := (HS.out.now).2.2.2.2.2.2.1
              have qby2_0 := hbby2.cell 0 rfl
              have qby2_1 := hbby2.cell 1 rfl
              have qby2_2 := hbby2.cell 2 rfl
              have qby2_3 := hbby2.cell 3 rfl
              have qby2_4 := hbby2.cell 4 rfl
              have qby2_5 := hbby2.cell 5 rfl
              have qby2_6 := hbby2.cell 6 rfl
              have qby2_7 := hbby2.cell 7 rfl
              have qby2_8 := hbby2.cell 8 rfl
              have lby2 := hbby2.lt
              clear hbby2
              have hbbu := (HS.out.now).2.2.1
              have qbu_0 := hbbu.cell 0 rfl
              have qbu_1 := hbbu.cell 1 rfl
              have qbu_2 := hbbu.cell 2 rfl
              have qbu_3 := hbbu.cell 3 rfl
              have qbu_4 := hbbu.cell 4 rfl
              have qbu_5 := hbbu.cell 5 rfl
              have qbu_6 := hbbu.cell 6 rfl
              have qbu_7 := hbbu.cell 7 rfl
              have qbu_8 := hbbu.cell 8 rfl
              have lbu := hbbu.lt
              clear hbbu
              have hbbv := (HS.out.now).1
              have qbv_0 := hbbv.cell 0 rfl
              have qbv_1 := hbbv.cell 1 rfl
              have qbv_2 := hbbv.cell 2 rfl
              have qbv_3 := hbbv.cell 3 rfl
              have qbv_4 := hbbv.cell 4 rfl
              have qbv_5 := hbbv.cell 5 rfl
              have qbv_6 := hbbv.cell 6 rfl
              have qbv_7 := hbbv.cell 7 rfl
              have qbv_8 := hbbv.cell 8 rfl
              have lbv := hbbv.lt
              clear hbbv
              go_wp2_with fail
              go_ret
              exact ⟨rfl, (HS.out.now).2.2.2.2.2.2.2.2.2.2.2⟩
          · subst h0
            go_wp2_with fail
            refine (mdecode_any _ ab nb cb b HNB.out ((HS.out.now).2.2.2.2.1) HGB.out (by omega)).mono ?_
            rintro e wq19 ⟨a9, c9, rfl, hF, hmm⟩
            replace HS := Lib.hid (HS.out.step hmm)
            clear hmm
            rw [HD.out] at hF ⊢
            unfold msgV
            simp only at hF ⊢
            rw [HK.out] at hF ⊢
            replace HS := Lib.hid (((Ev.rd (show Rd wq19 1 (.slice a9 uL c9) uL (ue.map (Value.int .i64)) from Rd.ofOwn hF))).and HS.out)
            clear hF
            go_upto_region 6 with fail
            clear qbx_0 qbx_1 qbx_2 qbx_3 qbx_4 qbx_5 qbx_6 qbx_7 qbx_8 lbx qby2_0 qby2_1 qby2_2 qby2_3 qby2_4 qby2_5 qby2_6 qby2_7 qby2_8 lby2
            obtain ⟨bu, hbu⟩ : ∃ b, wq19.heap.size = b := ⟨_, rfl⟩
            obtain ⟨wq20, hwq20⟩ : ∃ W, World.alloc wq19 (.cells #[.int .i64 uk, .int .i64 up, .int .i64 ud, .slice a9 uL c9, .int .i64 uw, .int .i64 uc, .int .i64 uh, .int .i64 uf, .int .i64 ul] 26) = W := ⟨_, rfl⟩
            have hBbu : Blk wq20 bu 26 [.int .i64 uk, .int .i64 up, .int .i64 ud, .slice a9 uL c9, .int .i64 uw, .int .i64 uc, .int .i64 uh, .int .i64 uf, .int .i64 ul] := by rw [← hwq20, ← hbu]; exact Blk.new _ 26 [.int .i64 uk, .int .i64 up, .int .i64 ud, .slice a9 uL c9, .int .i64 uw, .int .i64 uc, .int .i64 uh, .int .i64 uf, .int .i64 ul]
            have hzbu : wq20.heap.size = bu + 1 := by rw [← hwq20, ← hbu]; exact heap_size_alloc _ _
            replace HS := Lib.hid (HS.out.step (w' := wq20) (by rw [← hwq20]; exact Mod.alloc _ _ _))
            replace HS := Lib.hid ((Ev.blk hBbu).and HS.out)
            try rw [hwq20]
            try rw [hbu]
            clear hzbu hBbu hbu hwq20
            have hbbx := (HS.out.now).2.2.2.2.2.1
            have qbx_0 := hbbx.cell 0 rfl
            have qbx_1 := hbbx.cell 1 rfl
            have qbx_2 := hbbx.cell 2 rfl
            have qbx_3 := hbbx.cell 3 rfl
            have qbx_4 := hbbx.cell 4 rfl
            have qbx_5 := hbbx.cell 5 rfl
            have qbx_6 := hbbx.cell 6 rfl
            have qbx_7 := hbbx.cell 7 rfl
            have qbx_8 := hbbx.cell 8 rfl
            have lbx := hbbx.lt
            clear hbbx
            have hbby2 := (HS.out.now).2.2.2.2.1
            have qby2_0 := hbby2.cell 0 rfl
            have qby2_1 := hbby2.cell 1 rfl
            have qby2_2 := hbby2.cell 2 rfl
            have qby2_3 := hbby2.cell 3 rfl
            have qby2_4 := hbby2.cell 4 rfl
            have qby2_5 := hbby2.cell 5 rfl
            have qby2_6 := hbby2.cell 6 rfl
            have qby2_7 := hbby2.cell 7 rfl
            have qby2_8 := hbby2.cell 8 rfl
            have lby2 := hbby2.lt
            clear hbby2
            have hbbu := (HS.out.now).1
            have qbu_0 := hbbu.cell 0 rfl
            have qbu_1 := hbbu.cell 1 rfl
            have qbu_2 := hbbu.cell 2 rfl
            have qbu_3 := hbbu.cell 3 rfl
            have qbu_4 := hbbu.cell 4 rfl
            have qbu_5 := hbbu.cell 5 rfl
            have qbu_6 := hbbu.cell 6 rfl
            have qbu_7 := hbbu.cell 7 rfl
            have qbu_8 := hbbu.cell 8 rfl
            have lbu := hbbu.lt
            clear hbbu
            go_wp2_with fail
            refine (rreadm_any _ ab nb cb b HNB.out ((HS.out.now).2.2.2.2.2.2.1) HGB.out (by omega)).mono ?_
            rintro e wq21 ⟨a8, c8, rfl, hF, hmm⟩
            replace HS := Lib.hid (HS.out.step hmm)
            clear hmm
            rw [HD.out] at hF ⊢
            unfold msgV
            simp only at hF ⊢
            rw [HK.out] at hF ⊢
            try simp only [show decide ((2 : Int) = 0) = false from rfl, decide_true, decide_false]
            replace HS := Lib.hid (((Ev.rd (show Rd wq21 1 (.slice a8 uL c8) uL (ue.map (Value.int .i64)) from Rd.ofOwn hF))).and HS.out)
            clear hF
            go_upto_region 7 with fail
            clear qbx_0 qbx_1 qbx_2 qbx_3 qbx_4 qbx_5 qbx_6 qbx_7 qbx_8 lbx qby2_0 qby2_1 qby2_2 qby2_3 qby2_4 qby2_5 qby2_6 qby2_7 qby2_8 lby2 qbu_0 qbu_1 qbu_2 qbu_3 qbu_4 qbu_5 qbu_6 qbu_7 qbu_8 lbu
            obtain ⟨bv, hbv⟩ : ∃ b, wq21.heap.size = b := ⟨_, rfl⟩
            obtain ⟨wq22, hwq22⟩ : ∃ W, World.alloc wq21 (.cells #[.int .i64 uk, .int .i64 up, .int .i64 ud, .slice a8 uL c8, .int .i64 uw, .int .i64 uc, .int .i64 uh, .int .i64 uf, .int .i64 ul] 26) = W := ⟨_, rfl⟩
            have hBbv : Blk wq22 bv 26 [.int .i64 uk, .int .i64 up, .int .i64 ud, .slice a8 uL c8, .int .i64 uw, .int .i64 uc, .int .i64 uh, .int .i64 uf, .int .i64 ul] := by rw [← hwq22, ← hbv]; exact Blk.new _ 26 [.int .i64 uk, .int .i64 up, .int .i64 ud, .slice a8 uL c8, .int .i64 uw, .int .i64 uc, .int .i64 uh, .int .i64 uf, .int .i64 ul]
            have hzbv : wq22.heap.size = bv + 1 := by rw [← hwq22, ← hbv]; exact heap_size_alloc _ _
            replace HS := Lib.hid (HS.out.step (w' := wq22) (by rw [← hwq22]; exact Mod.alloc _ _ _))
            replace HS := Lib.hid ((Ev.blk hBbv).and HS.out)
            try rw [hwq22]
            try rw [hbv]
            clear hzbv hBbv hbv hwq22
            have hbbx := (HS.out.now).2.2.2.2.2.2.2.1
            have qbx_0 := hbbx.cell 0 rfl
            have qbx_1 := hbbx.cell 1 rfl
            have qbx_2 := hbbx.cell 2 rfl
            have qbx_3 := hbbx.cell 3 rfl
            have qbx_4 := hbbx.cell 4 rfl
            have qbx_5 := hbbx.cell 5 rfl
            have qbx_6 := hbbx.cell 6 rfl
            have qbx_7 := hbbx.cell 7 rfl
            have qbx_8 := hbbx.cell 8 rfl
            have lbx := hbbx.lt
            clear hbbx
            have hbby2 := (HS.out.now).2.2.2.2.2.2.1
            have qby2_0 := hbby2.cell 0 rfl
            have qby2_1 := hbby2.cell 1 rfl
            have qby2_2 := hbby2.cell 2 rfl
            have qby2_3 := hbby2.cell 3 rfl
            have qby2_4 := hbby2.cell 4 rfl
            have qby2_5 := hbby2.cell 5 rfl
            have qby2_6 := hbby2.cell 6 rfl
            have qby2_7 := hbby2.cell 7 rfl
            have qby2_8 := hbby2.cell 8 rfl
            have lby2 := hbby2.lt
            clear hbby2
            have hbbu := (HS.out.now).2.2.1
            have qbu_0 := hbbu.cell 0 rfl
            have qbu_1 := hbbu.cell 1 rfl
            have qbu_2 := hbbu.cell 2 rfl
            have qbu_3 := hbbu.cell 3 rfl
            have qbu_4 := hbbu.cell 4 rfl
            have qbu_5 := hbbu.cell 5 rfl
            have qbu_6 := hbbu.cell 6 rfl
            have qbu_7 := hbbu.cell 7 rfl
            have qbu_8 := hbbu.cell 8 rfl
            have lbu := hbbu.lt
            clear hbbu
            have hbbv := (HS.out.now).1
            have qbv_0 := hbbv.cell 0 rfl
            have qbv_1 := hbbv.cell 1 rfl
            have qbv_2 := hbbv.cell 2 rfl
            have qbv_3 := hbbv.cell 3 rfl
            have qbv_4 := hbbv.cell 4 rfl
            have qbv_5 := hbbv.cell 5 rfl
            have qbv_6 := hbbv.cell 6 rfl
            have qbv_7 := hbbv.cell 7 rfl
            have qbv_8 := hbbv.cell 8 rfl
            have lbv := hbbv.lt
            clear hbbv
            obtain ⟨Y, hY⟩ : ∃ x, strOf ([] : List Int) = x := ⟨_, rfl⟩
            have HY := Lib.hid hY
            clear hY
            have S10 := fun (W : World) r1 r2 => rsamem_any W ⟨uk, up, ud, ue, uw, uc, uh, uf, ul⟩ ⟨uk, up, ud, ue, uw, uc, uh, uf, ul⟩ true (by unfold sameM; simp) a9 uL c9 HK.out r1 a8 uL c8 HK.out r2 (by omega)
            unfold msgV at S10
            simp only at S10
            have S1 := Lib.hid S10
            clear S10
            have S20 := fun (W : World) r1 r2 => msame_any W ⟨mk, mp, md, ed, mw, mc, me, mf, ml⟩ ⟨yk, yp, yd, ye, yw, yc, yh, yf, yl⟩ smo HSMO.out a n c HN.out r1 a2 n2 c2 HN2.out r2 (by omega)
            unfold msgV at S20
            simp only at S20
            have S2 := Lib.hid S20
            clear S20
            have S30 := fun (W : World) r1 r2 => rsamem_any W ⟨mk, mp, md, ed, mw, mc, me, mf, ml⟩ ⟨yk, yp, yd, ye, yw, yc, yh, yf, yl⟩ smo HSMO.out a n c HN.out r1 a2 n2 c2 HN2.out r2 (by omega)
            unfold msgV at S30
            simp only at S30
            have S3 := Lib.hid S30
            clear S30
            have S40 := fun (W : World) r1 r2 => msame_any W ⟨mk, mp, md, ed, mw, mc, me, mf, ml⟩ ⟨mk, mp, md, ed, mw, mc, me, mf, ml⟩ true (by unfold sameM; simp) a n c HN.out r1 a n c HN.out r2 (by omega)
            unfold msgV at S40
            simp only at S40
            have S4 := Lib.hid S40
            clear S40
            clear qbx_0 qbx_1 qbx_2 qbx_3 qbx_4 qbx_5 qbx_6 qbx_7 qbx_8 lbx qby2_0 qby2_1 qby2_2 qby2_3 qby2_4 qby2_5 qby2_6 qby2_7 qby2_8 lby2 qbu_0 qbu_1 qbu_2 qbu_3 qbu_4 qbu_5 qbu_6 qbu_7 qbu_8 lbu qbv_0 qbv_1 qbv_2 qbv_3 qbv_4 qbv_5 qbv_6 qbv_7 qbv_8 lbv
            have HSd := Lib.hid HS.out.drew
            refine wp_region_inv3 (act := ?actmt_r7_1) (Mod (fun _ => False)) (fun i => (mt_r7_1_F a a2 a3 a4 a9 a8 n c n2 c2 c3 c4 uL c9 c8 mk mp md mw mc me mf ml yk yp yd yw yc yh yf yl uk up ud uw uc uh uf ul Y smo).getD i (fun _ _ => True)) (fun i => mt_r7_1_D.getD i []) (by kernel_rfl) (by kernel_rfl) (by kernel_rfl) (by kernel_rfl) (fun _ => Mod.refl _ _)
              (fun _ _ _ h k => h.trans k (fun _ _ e => e) (fun _ _ e => e)) ?hactmt_r7_1 (stable_list ?_) ?_ ?_
            case hactmt_r7_1 => intro vs; simp only [putAll, Nat.zero_add, Nat.reduceAdd, Act.put, List.setIfInBounds_toArray, List.set_cons_succ, List.set_cons_zero]; exact rfl
            · unfold mt_r7_1_F
              exact stable_cons (stable_val _) <| stable_cons (stable_val _) <| stable_cons (stable_val _) <| stable_cons (stable_val _) <| stable_cons (stable_val _) <| stable_cons (stable_val _) <| stable_cons (stable_val _) <| stable_cons (stable_val _) <| stable_cons (stable_val _) <| stable_cons (stable_val _) <| stable_cons (stable_val _) <| stable_cons (stable_val _) <| stable_cons (stable_val _) <| stable_cons (stable_val _) <| stable_cons (stable_val _) <| stable_cons (stable_val _) <| stable_cons (stable_val _) <| stable_cons (stable_val _) <| stable_cons (stable_val _) <| stable_cons (stable_val _) <| stable_cons (stable_val _) <| stable_cons (stable_val _) <| stable_cons (stable_val _) <| stable_cons (stable_val _) <| stable_cons (stable_val _) <| stable_cons (stable_val _) <| stable_cons (stable_val _) <| stable_cons (stable_val _) <| stable_cons (stable_val _) <| stable_cons (stable_val _) <| stable_cons (stable_val _) <| stable_cons (stable_val _) <| stable_cons (stable_val _) <| stable_cons (stable_val _) <| stable_cons (stable_val _) <| stable_cons (stable_val _) <| stable_cons (stable_val _) <| stable_cons (stable_val _) <| stable_cons (stable_val _) <| stable_cons (stable_val _) <| stable_cons (stable_val _) <| stable_cons (stable_val _) <| stable_cons (stable_val _) <| stable_cons (stable_val _) <| stable_cons (stable_val _) <| stable_cons (stable_val _) <| stable_cons (stable_val _) <| stable_cons (stable_val _) <| stable_cons (stable_val _) <| stable_cons (stable_val _) <| stable_cons (stable_val _) <| stable_cons (stable_val _) <| stable_cons (stable_val _) <| stable_cons (stable_val _) <| stable_cons (stable_val _) <| stable_cons (stable_val _) <| stable_cons (stable_val _) <| stable_cons (stable_val _) <| stable_cons (stable_val _) <| stable_nil
            · refine opsOkA_cons ?_ ?_
              · intro K vs W hR hD hK
                clear hD
                try dsimp only at hK ⊢
                simp only [Act.put, List.setIfInBounds_toArray, List.set_cons_succ, List.set_cons_zero] at hK
                go_wp2
                exact hK _ _ rfl (Mod.refl _ _)
              refine opsOkA_cons ?_ ?_
              · intro K vs W hR hD hK
                have dq0 : vs 0 = .slice a3 0 c3 := hD 0 (by decide)
                clear hD
                try dsimp only at hK ⊢
                simp only [Act.put, List.setIfInBounds_toArray, List.set_cons_succ, List.set_cons_zero] at hK
                generalize vs 0 = vq0 at hK dq0 ⊢
                subst vq0
                have k1 := run_strS W 27 9 5 Try.underlying27 Try.underlying5 Try.underlying9 ((HSd.out.at (hR)).2.2.2.2.2.1)
                rw [HY.out] at k1
                go_wp2
                exact hK _ _ rfl (Mod.refl _ _)
              refine opsOkA_cons ?_ ?_
              · intro K vs W hR hD hK
                clear hD
                try dsimp only at hK ⊢
                simp only [Act.put, List.setIfInBounds_toArray, List.set_cons_succ, List.set_cons_zero] at hK
                go_wp2
                exact hK _ _ rfl (Mod.refl _ _)
              refine opsOkA_cons ?_ ?_
              · intro K vs W hR hD hK
                have dq2 : vs 2 = .slice a4 0 c4 := hD 2 (by decide)
                clear hD
                try dsimp only at hK ⊢
                simp only [Act.put, List.setIfInBounds_toArray, List.set_cons_succ, List.set_cons_zero] at hK
                generalize vs 2 = vq2 at hK dq2 ⊢
                subst vq2
                have k1 := run_strS W 27 9 5 Try.underlying27 Try.underlying5 Try.underlying9 ((HSd.out.at (hR)).2.2.2.2.1)
                rw [HY.out] at k1
                go_wp2
                exact hK _ _ rfl (Mod.refl _ _)
              refine opsOkA_cons ?_ ?_
              · intro K vs W hR hD hK
                have dq1 : vs 1 = .string Y := hD 1 (by decide)
                have dq3 : vs 3 = .string Y := hD 3 (by decide)
                clear hD
                try dsimp only at hK ⊢
                simp only [Act.put, List.setIfInBounds_toArray, List.set_cons_succ, List.set_cons_zero] at hK
                generalize vs 1 = vq1 at hK dq1 ⊢
                subst vq1
                generalize vs 3 = vq3 at hK dq3 ⊢
                subst vq3
                go_wp2
                exact hK _ _ rfl (Mod.refl _ _)
              refine opsOkA_cons ?_ ?_
              · intro K vs W hR hD hK
                have dq4 : vs 4 = .bool true := hD 4 (by decide)
                clear hD
                try dsimp only at hK ⊢
                simp only [Act.put, List.setIfInBounds_toArray, List.set_cons_succ, List.set_cons_zero] at hK
                generalize vs 4 = vq4 at hK dq4 ⊢
                subst vq4
                go_wp2
                exact hK _ _ rfl (Mod.refl _ _)
              refine opsOkA_cons ?_ ?_
              · intro K vs W hR hD hK
                have dq5 : vs 5 = .bool true := hD 5 (by decide)
                clear hD
                try dsimp only at hK ⊢
                simp only [Act.put, List.setIfInBounds_toArray, List.set_cons_succ, List.set_cons_zero] at hK
                generalize vs 5 = vq5 at hK dq5 ⊢
                subst vq5
                go_wp2
                exact hK _ _ rfl (Mod.refl _ _)
              refine opsOkA_cons ?_ ?_
              · intro K vs W hR hD hK
                have dq5 : vs 5 = .bool true := hD 5 (by decide)
                have dq6 : vs 6 = .int .i64 1 := hD 6 (by decide)
                clear hD
                try dsimp only at hK ⊢
                simp only [Act.put, List.setIfInBounds_toArray, List.set_cons_succ, List.set_cons_zero] at hK
                generalize vs 5 = vq5 at hK dq5 ⊢
                subst vq5
                generalize vs 6 = vq6 at hK dq6 ⊢
                subst vq6
                go_wp2
                exact hK _ _ rfl (Mod.refl _ _)
              refine opsOkA_cons ?_ ?_
              · intro K vs W hR hD hK
                have dq5 : vs 5 = .bool true := hD 5 (by decide)
                clear hD
                try dsimp only at hK ⊢
                simp only [Act.put, List.setIfInBounds_toArray, List.set_cons_succ, List.set_cons_zero] at hK
                generalize vs 5 = vq5 at hK dq5 ⊢
                subst vq5
                go_wp2
                exact hK _ _ rfl (Mod.refl _ _)
              refine opsOkA_cons ?_ ?_
              · intro K vs W hR hD hK
                have dq5 : vs 5 = .bool true := hD 5 (by decide)
                have dq7 : vs 7 = .bool false := hD 7 (by decide)
                have dq8 : vs 8 = .bool false := hD 8 (by decide)
                clear hD
                try dsimp only at hK ⊢
                simp only [Act.put, List.setIfInBounds_toArray, List.set_cons_succ, List.set_cons_zero] at hK
                generalize vs 5 = vq5 at hK dq5 ⊢
                subst vq5
                generalize vs 7 = vq7 at hK dq7 ⊢
                subst vq7
                generalize vs 8 = vq8 at hK dq8 ⊢
                subst vq8
                go_wp2
                exact hK _ _ rfl (Mod.refl _ _)
              refine opsOkA_cons ?_ ?_
              · intro K vs W hR hD hK
                have dq5 : vs 5 = .bool true := hD 5 (by decide)
                have dq9 : vs 9 = .bool true := hD 9 (by decide)
                clear hD
                try dsimp only at hK ⊢
                simp only [Act.put, List.setIfInBounds_toArray, List.set_cons_succ, List.set_cons_zero] at hK
                generalize vs 5 = vq5 at hK dq5 ⊢
                subst vq5
                generalize vs 9 = vq9 at hK dq9 ⊢
                subst vq9
                go_wp2
                exact hK _ _ rfl (Mod.refl _ _)
              refine opsOkA_cons ?_ ?_
              · intro K vs W hR hD hK
                have dq10 : vs 10 = .bool true := hD 10 (by decide)
                clear hD
                try dsimp only at hK ⊢
                simp only [Act.put, List.setIfInBounds_toArray, List.set_cons_succ, List.set_cons_zero] at hK
                generalize vs 10 = vq10 at hK dq10 ⊢
                subst vq10
                go_wp2
                exact hK _ _ rfl (Mod.refl _ _)
              refine opsOkA_cons ?_ ?_
              · intro K vs W hR hD hK
                have dq11 : vs 11 = .bool true := hD 11 (by decide)
                clear hD
                try dsimp only at hK ⊢
                simp only [Act.put, List.setIfInBounds_toArray, List.set_cons_succ, List.set_cons_zero] at hK
                generalize vs 11 = vq11 at hK dq11 ⊢
                subst vq11
                go_wp2
                exact hK _ _ rfl (Mod.refl _ _)
              refine opsOkA_cons ?_ ?_
              · intro K vs W hR hD hK
                have dq11 : vs 11 = .bool true := hD 11 (by decide)
                have dq12 : vs 12 = .bool false := hD 12 (by decide)
                clear hD
                try dsimp only at hK ⊢
                simp only [Act.put, List.setIfInBounds_toArray, List.set_cons_succ, List.set_cons_zero] at hK
                generalize vs 11 = vq11 at hK dq11 ⊢
                subst vq11
                generalize vs 12 = vq12 at hK dq12 ⊢
                subst vq12
                go_wp2
                exact hK _ _ rfl (Mod.refl _ _)
              refine opsOkA_cons ?_ ?_
              · intro K vs W hR hD hK
                have dq13 : vs 13 = .bool false := hD 13 (by decide)
                clear hD
                try dsimp only at hK ⊢
                simp only [Act.put, List.setIfInBounds_toArray, List.set_cons_succ, List.set_cons_zero] at hK
                generalize vs 13 = vq13 at hK dq13 ⊢
                subst vq13
                go_wp2
                exact hK _ _ rfl (Mod.refl _ _)
              refine opsOkA_cons ?_ ?_
              · intro K vs W hR hD hK
                have dq13 : vs 13 = .bool false := hD 13 (by decide)
                have dq14 : vs 14 = .int .i64 1 := hD 14 (by decide)
                clear hD
                try dsimp only at hK ⊢
                simp only [Act.put, List.setIfInBounds_toArray, List.set_cons_succ, List.set_cons_zero] at hK
                generalize vs 13 = vq13 at hK dq13 ⊢
                subst vq13
                generalize vs 14 = vq14 at hK dq14 ⊢
                subst vq14
                go_wp2
                exact hK _ _ rfl (Mod.refl _ _)
              refine opsOkA_cons ?_ ?_
              · intro K vs W hR hD hK
                have dq13 : vs 13 = .bool false := hD 13 (by decide)
                have dq15 : vs 15 = .bool true := hD 15 (by decide)
                clear hD
                try dsimp only at hK ⊢
                simp only [Act.put, List.setIfInBounds_toArray, List.set_cons_succ, List.set_cons_zero] at hK
                generalize vs 13 = vq13 at hK dq13 ⊢
                subst vq13
                generalize vs 15 = vq15 at hK dq15 ⊢
                subst vq15
                go_wp2
                exact hK _ _ rfl (Mod.refl _ _)
              refine opsOkA_cons ?_ ?_
              · intro K vs W hR hD hK
                have dq16 : vs 16 = .bool true := hD 16 (by decide)
                clear hD
                try dsimp only at hK ⊢
                simp only [Act.put, List.setIfInBounds_toArray, List.set_cons_succ, List.set_cons_zero] at hK
                generalize vs 16 = vq16 at hK dq16 ⊢
                subst vq16
                go_wp2
                exact hK _ _ rfl (Mod.refl _ _)
              refine opsOkA_cons ?_ ?_
              · intro K vs W hR hD hK
                have dq16 : vs 16 = .bool true := hD 16 (by decide)
                have dq17 : vs 17 = .slice a3 0 c3 := hD 17 (by decide)
                clear hD
                try dsimp only at hK ⊢
                simp only [Act.put, List.setIfInBounds_toArray, List.set_cons_succ, List.set_cons_zero] at hK
                generalize vs 16 = vq16 at hK dq16 ⊢
                subst vq16
                generalize vs 17 = vq17 at hK dq17 ⊢
                subst vq17
                go_wp2_with fail
                exact hK _ _ rfl (Mod.refl _ _)
              refine opsOkA_cons ?_ ?_
              · intro K vs W hR hD hK
                have dq16 : vs 16 = .bool true := hD 16 (by decide)
                have dq18 : vs 18 = .int .i64 0 := hD 18 (by decide)
                clear hD
                try dsimp only at hK ⊢
                simp only [Act.put, List.setIfInBounds_toArray, List.set_cons_succ, List.set_cons_zero] at hK
                generalize vs 16 = vq16 at hK dq16 ⊢
                subst vq16
                generalize vs 18 = vq18 at hK dq18 ⊢
                subst vq18
                go_wp2
                exact hK _ _ rfl (Mod.refl _ _)
              refine opsOkA_cons ?_ ?_
              · intro K vs W hR hD hK
                have dq13 : vs 13 = .bool false := hD 13 (by decide)
                have dq16 : vs 16 = .bool true := hD 16 (by decide)
                have dq19 : vs 19 = .bool true := hD 19 (by decide)
                clear hD
                try dsimp only at hK ⊢
                simp only [Act.put, List.setIfInBounds_toArray, List.set_cons_succ, List.set_cons_zero] at hK
                generalize vs 13 = vq13 at hK dq13 ⊢
                subst vq13
                generalize vs 16 = vq16 at hK dq16 ⊢
                subst vq16
                generalize vs 19 = vq19 at hK dq19 ⊢
                subst vq19
                go_wp2
                exact hK _ _ rfl (Mod.refl _ _)
              refine opsOkA_cons ?_ ?_
              · intro K vs W hR hD hK
                have dq11 : vs 11 = .bool true := hD 11 (by decide)
                have dq13 : vs 13 = .bool false := hD 13 (by decide)
                have dq20 : vs 20 = .bool true := hD 20 (by decide)
                clear hD
                try dsimp only at hK ⊢
                simp only [Act.put, List.setIfInBounds_toArray, List.set_cons_succ, List.set_cons_zero] at hK
                generalize vs 11 = vq11 at hK dq11 ⊢
                subst vq11
                generalize vs 13 = vq13 at hK dq13 ⊢
                subst vq13
                generalize vs 20 = vq20 at hK dq20 ⊢
                subst vq20
                go_wp2
                exact hK _ _ rfl (Mod.refl _ _)
              refine opsOkA_cons ?_ ?_
              · intro K vs W hR hD hK
                have dq11 : vs 11 = .bool true := hD 11 (by decide)
                have dq21 : vs 21 = .bool true := hD 21 (by decide)
                clear hD
                try dsimp only at hK ⊢
                simp only [Act.put, List.setIfInBounds_toArray, List.set_cons_succ, List.set_cons_zero] at hK
                generalize vs 11 = vq11 at hK dq11 ⊢
                subst vq11
                generalize vs 21 = vq21 at hK dq21 ⊢
                subst vq21
                go_wp2
                exact hK _ _ rfl (Mod.refl _ _)
              refine opsOkA_cons ?_ ?_
              · intro K vs W hR hD hK
                have dq22 : vs 22 = .bool true := hD 22 (by decide)
                clear hD
                try dsimp only at hK ⊢
                simp only [Act.put, List.setIfInBounds_toArray, List.set_cons_succ, List.set_cons_zero] at hK
                generalize vs 22 = vq22 at hK dq22 ⊢
                subst vq22
                go_wp2
                exact hK _ _ rfl (Mod.refl _ _)
              refine opsOkA_cons ?_ ?_
              · intro K vs W hR hD hK
                have dq23 : vs 23 = .bool true := hD 23 (by decide)
                clear hD
                try dsimp only at hK ⊢
                simp only [Act.put, List.setIfInBounds_toArray, List.set_cons_succ, List.set_cons_zero] at hK
                generalize vs 23 = vq23 at hK dq23 ⊢
                subst vq23
                have hbx := (HSd.out.at (hR)).2.2.1
                have q0 := hbx.cell 0 rfl
                have q1 := hbx.cell 1 rfl
                have q2 := hbx.cell 2 rfl
                have q3 := hbx.cell 3 rfl
                have q4 := hbx.cell 4 rfl
                have q5 := hbx.cell 5 rfl
                have q6 := hbx.cell 6 rfl
                have q7 := hbx.cell 7 rfl
                have q8 := hbx.cell 8 rfl
                go_wp2
                exact hK _ _ rfl (Mod.refl _ _)
              refine opsOkA_cons ?_ ?_
              · intro K vs W hR hD hK
                have dq23 : vs 23 = .bool true := hD 23 (by decide)
                clear hD
                try dsimp only at hK ⊢
                simp only [Act.put, List.setIfInBounds_toArray, List.set_cons_succ, List.set_cons_zero] at hK
                generalize vs 23 = vq23 at hK dq23 ⊢
                subst vq23
                have hbx := (HSd.out.at (hR)).1
                have q0 := hbx.cell 0 rfl
                have q1 := hbx.cell 1 rfl
                have q2 := hbx.cell 2 rfl
                have q3 := hbx.cell 3 rfl
                have q4 := hbx.cell 4 rfl
                have q5 := hbx.cell 5 rfl
                have q6 := hbx.cell 6 rfl
                have q7 := hbx.cell 7 rfl
                have q8 := hbx.cell 8 rfl
                go_wp2
                exact hK _ _ rfl (Mod.refl _ _)
              refine opsOkA_cons ?_ ?_
              · intro K vs W hR hD hK
                have dq23 : vs 23 = .bool true := hD 23 (by decide)
                have dq24 : vs 24 = .agg #[.int .i64 uk, .int .i64 up, .int .i64 ud, .slice a9 uL c9, .int .i64 uw, .int .i64 uc, .int .i64 uh, .int .i64 uf, .int .i64 ul] := hD 24 (by decide)
                have dq25 : vs 25 = .agg #[.int .i64 uk, .int .i64 up, .int .i64 ud, .slice a8 uL c8, .int .i64 uw, .int .i64 uc, .int .i64 uh, .int .i64 uf, .int .i64 ul] := hD 25 (by decide)
                clear hD
                try dsimp only at hK ⊢
                simp only [Act.put, List.setIfInBounds_toArray, List.set_cons_succ, List.set_cons_zero] at hK
                generalize vs 23 = vq23 at hK dq23 ⊢
                subst vq23
                generalize vs 24 = vq24 at hK dq24 ⊢
                subst vq24
                generalize vs 25 = vq25 at hK dq25 ⊢
                subst vq25
                go_wp2_with (go_at_call 14; refine (S1.out W ((HSd.out.at (hR)).2.2.2.1) ((HSd.out.at (hR)).2.1)).mono ?_; rintro e' w' ⟨rfl, hm'⟩)
                exact hK _ _ rfl hm'
              refine opsOkA_cons ?_ ?_
              · intro K vs W hR hD hK
                have dq23 : vs 23 = .bool true := hD 23 (by decide)
                have dq26 : vs 26 = .bool true := hD 26 (by decide)
                clear hD
                try dsimp only at hK ⊢
                simp only [Act.put, List.setIfInBounds_toArray, List.set_cons_succ, List.set_cons_zero] at hK
                generalize vs 23 = vq23 at hK dq23 ⊢
                subst vq23
                generalize vs 26 = vq26 at hK dq26 ⊢
                subst vq26
                go_wp2
                exact hK _ _ rfl (Mod.refl _ _)
              refine opsOkA_cons ?_ ?_
              · intro K vs W hR hD hK
                have dq27 : vs 27 = .bool true := hD 27 (by decide)
                clear hD
                try dsimp only at hK ⊢
                simp only [Act.put, List.setIfInBounds_toArray, List.set_cons_succ, List.set_cons_zero] at hK
                generalize vs 27 = vq27 at hK dq27 ⊢
                subst vq27
                go_wp2
                exact hK _ _ rfl (Mod.refl _ _)
              refine opsOkA_cons ?_ ?_
              · intro K vs W hR hD hK
                have dq28 : vs 28 = .bool true := hD 28 (by decide)
                clear hD
                try dsimp only at hK ⊢
                simp only [Act.put, List.setIfInBounds_toArray, List.set_cons_succ, List.set_cons_zero] at hK
                generalize vs 28 = vq28 at hK dq28 ⊢
                subst vq28
                go_wp2
                exact hK _ _ rfl (Mod.refl _ _)
              refine opsOkA_cons ?_ ?_
              · intro K vs W hR hD hK
                have dq28 : vs 28 = .bool true := hD 28 (by decide)
                have dq29 : vs 29 = .int .i64 2 := hD 29 (by decide)
                clear hD
                try dsimp only at hK ⊢
                simp only [Act.put, List.setIfInBounds_toArray, List.set_cons_succ, List.set_cons_zero] at hK
                generalize vs 28 = vq28 at hK dq28 ⊢
                subst vq28
                generalize vs 29 = vq29 at hK dq29 ⊢
                subst vq29
                go_wp2
                exact hK _ _ rfl (Mod.refl _ _)
              refine opsOkA_cons ?_ ?_
              · intro K vs W hR hD hK
                have dq28 : vs 28 = .bool true := hD 28 (by decide)
                clear hD
                try dsimp only at hK ⊢
                simp only [Act.put, List.setIfInBounds_toArray, List.set_cons_succ, List.set_cons_zero] at hK
                generalize vs 28 = vq28 at hK dq28 ⊢
                subst vq28
                go_wp2
                exact hK _ _ rfl (Mod.refl _ _)
              refine opsOkA_cons ?_ ?_
              · intro K vs W hR hD hK
                have dq28 : vs 28 = .bool true := hD 28 (by decide)
                have dq30 : vs 30 = .bool false := hD 30 (by decide)
                have dq31 : vs 31 = .bool false := hD 31 (by decide)
                clear hD
                try dsimp only at hK ⊢
                simp only [Act.put, List.setIfInBounds_toArray, List.set_cons_succ, List.set_cons_zero] at hK
                generalize vs 28 = vq28 at hK dq28 ⊢
                subst vq28
                generalize vs 30 = vq30 at hK dq30 ⊢
                subst vq30
                generalize vs 31 = vq31 at hK dq31 ⊢
                subst vq31
                go_wp2
                exact hK _ _ rfl (Mod.refl _ _)
              refine opsOkA_cons ?_ ?_
              · intro K vs W hR hD hK
                have dq28 : vs 28 = .bool true := hD 28 (by decide)
                have dq32 : vs 32 = .bool true := hD 32 (by decide)
                clear hD
                try dsimp only at hK ⊢
                simp only [Act.put, List.setIfInBounds_toArray, List.set_cons_succ, List.set_cons_zero] at hK
                generalize vs 28 = vq28 at hK dq28 ⊢
                subst vq28
                generalize vs 32 = vq32 at hK dq32 ⊢
                subst vq32
                go_wp2
                exact hK _ _ rfl (Mod.refl _ _)
              refine opsOkA_cons ?_ ?_
              · intro K vs W hR hD hK
                have dq33 : vs 33 = .bool true := hD 33 (by decide)
                clear hD
                try dsimp only at hK ⊢
                simp only [Act.put, List.setIfInBounds_toArray, List.set_cons_succ, List.set_cons_zero] at hK
                generalize vs 33 = vq33 at hK dq33 ⊢
                subst vq33
                go_wp2
                exact hK _ _ rfl (Mod.refl _ _)
              refine opsOkA_cons ?_ ?_
              · intro K vs W hR hD hK
                have dq34 : vs 34 = .bool true := hD 34 (by decide)
                clear hD
                try dsimp only at hK ⊢
                simp only [Act.put, List.setIfInBounds_toArray, List.set_cons_succ, List.set_cons_zero] at hK
                generalize vs 34 = vq34 at hK dq34 ⊢
                subst vq34
                go_wp2
                exact hK _ _ rfl (Mod.refl _ _)
              refine opsOkA_cons ?_ ?_
              · intro K vs W hR hD hK
                have dq34 : vs 34 = .bool true := hD 34 (by decide)
                have dq35 : vs 35 = .bool false := hD 35 (by decide)
                clear hD
                try dsimp only at hK ⊢
                simp only [Act.put, List.setIfInBounds_toArray, List.set_cons_succ, List.set_cons_zero] at hK
                generalize vs 34 = vq34 at hK dq34 ⊢
                subst vq34
                generalize vs 35 = vq35 at hK dq35 ⊢
                subst vq35
                go_wp2
                exact hK _ _ rfl (Mod.refl _ _)
              refine opsOkA_cons ?_ ?_
              · intro K vs W hR hD hK
                have dq36 : vs 36 = .bool false := hD 36 (by decide)
                clear hD
                try dsimp only at hK ⊢
                simp only [Act.put, List.setIfInBounds_toArray, List.set_cons_succ, List.set_cons_zero] at hK
                generalize vs 36 = vq36 at hK dq36 ⊢
                subst vq36
                go_wp2
                exact hK _ _ rfl (Mod.refl _ _)
              refine opsOkA_cons ?_ ?_
              · intro K vs W hR hD hK
                have dq36 : vs 36 = .bool false := hD 36 (by decide)
                have dq37 : vs 37 = .int .i64 2 := hD 37 (by decide)
                clear hD
                try dsimp only at hK ⊢
                simp only [Act.put, List.setIfInBounds_toArray, List.set_cons_succ, List.set_cons_zero] at hK
                generalize vs 36 = vq36 at hK dq36 ⊢
                subst vq36
                generalize vs 37 = vq37 at hK dq37 ⊢
                subst vq37
                go_wp2
                exact hK _ _ rfl (Mod.refl _ _)
              refine opsOkA_cons ?_ ?_
              · intro K vs W hR hD hK
                have dq34 : vs 34 = .bool true := hD 34 (by decide)
                have dq36 : vs 36 = .bool false := hD 36 (by decide)
                have dq38 : vs 38 = .bool true := hD 38 (by decide)
                clear hD
                try dsimp only at hK ⊢
                simp only [Act.put, List.setIfInBounds_toArray, List.set_cons_succ, List.set_cons_zero] at hK
                generalize vs 34 = vq34 at hK dq34 ⊢
                subst vq34
                generalize vs 36 = vq36 at hK dq36 ⊢
                subst vq36
                generalize vs 38 = vq38 at hK dq38 ⊢
                subst vq38
                go_wp2
                exact hK _ _ rfl (Mod.refl _ _)
              refine opsOkA_cons ?_ ?_
              · intro K vs W hR hD hK
                have dq34 : vs 34 = .bool true := hD 34 (by decide)
                have dq39 : vs 39 = .bool true := hD 39 (by decide)
                clear hD
                try dsimp only at hK ⊢
                simp only [Act.put, List.setIfInBounds_toArray, List.set_cons_succ, List.set_cons_zero] at hK
                generalize vs 34 = vq34 at hK dq34 ⊢
                subst vq34
                generalize vs 39 = vq39 at hK dq39 ⊢
                subst vq39
                go_wp2
                exact hK _ _ rfl (Mod.refl _ _)
              refine opsOkA_cons ?_ ?_
              · intro K vs W hR hD hK
                have dq40 : vs 40 = .bool true := hD 40 (by decide)
                clear hD
                try dsimp only at hK ⊢
                simp only [Act.put, List.setIfInBounds_toArray, List.set_cons_succ, List.set_cons_zero] at hK
                generalize vs 40 = vq40 at hK dq40 ⊢
                subst vq40
                go_wp2
                exact hK _ _ rfl (Mod.refl _ _)
              refine opsOkA_cons ?_ ?_
              · intro K vs W hR hD hK
                have dq41 : vs 41 = .bool true := hD 41 (by decide)
                clear hD
                try dsimp only at hK ⊢
                simp only [Act.put, List.setIfInBounds_toArray, List.set_cons_succ, List.set_cons_zero] at hK
                generalize vs 41 = vq41 at hK dq41 ⊢
                subst vq41
                have hbx := (HSd.out.at (hR)).2.2.2.2.2.2.2.1
                have q0 := hbx.cell 0 rfl
                have q1 := hbx.cell 1 rfl
                have q2 := hbx.cell 2 rfl
                have q3 := hbx.cell 3 rfl
                have q4 := hbx.cell 4 rfl
                have q5 := hbx.cell 5 rfl
                have q6 := hbx.cell 6 rfl
                have q7 := hbx.cell 7 rfl
                have q8 := hbx.cell 8 rfl
                go_wp2
                exact hK _ _ rfl (Mod.refl _ _)
              refine opsOkA_cons ?_ ?_
              · intro K vs W hR hD hK
                have dq41 : vs 41 = .bool true := hD 41 (by decide)
                clear hD
                try dsimp only at hK ⊢
                simp only [Act.put, List.setIfInBounds_toArray, List.set_cons_succ, List.set_cons_zero] at hK
                generalize vs 41 = vq41 at hK dq41 ⊢
                subst vq41
                have hbx := (HSd.out.at (hR)).2.2.2.2.2.2.1
                have q0 := hbx.cell 0 rfl
                have q1 := hbx.cell 1 rfl
                have q2 := hbx.cell 2 rfl
                have q3 := hbx.cell 3 rfl
                have q4 := hbx.cell 4 rfl
                have q5 := hbx.cell 5 rfl
                have q6 := hbx.cell 6 rfl
                have q7 := hbx.cell 7 rfl
                have q8 := hbx.cell 8 rfl
                go_wp2
                exact hK _ _ rfl (Mod.refl _ _)
              refine opsOkA_cons ?_ ?_
              · intro K vs W hR hD hK
                have dq41 : vs 41 = .bool true := hD 41 (by decide)
                have dq42 : vs 42 = .agg #[.int .i64 mk, .int .i64 mp, .int .i64 md, .slice a n c, .int .i64 mw, .int .i64 mc, .int .i64 me, .int .i64 mf, .int .i64 ml] := hD 42 (by decide)
                have dq43 : vs 43 = .agg #[.int .i64 yk, .int .i64 yp, .int .i64 yd, .slice a2 n2 c2, .int .i64 yw, .int .i64 yc, .int .i64 yh, .int .i64 yf, .int .i64 yl] := hD 43 (by decide)
                clear hD
                try dsimp only at hK ⊢
                simp only [Act.put, List.setIfInBounds_toArray, List.set_cons_succ, List.set_cons_zero] at hK
                generalize vs 41 = vq41 at hK dq41 ⊢
                subst vq41
                generalize vs 42 = vq42 at hK dq42 ⊢
                subst vq42
                generalize vs 43 = vq43 at hK dq43 ⊢
                subst vq43
                go_wp2_with (go_at_call 15; refine (S2.out W ((HSd.out.at (hR)).2.2.2.2.2.2.2.2.2.2.1) ((HSd.out.at (hR)).2.2.2.2.2.2.2.2.2.1)).mono ?_; rintro e' w' ⟨rfl, hm'⟩)
                exact hK _ _ rfl hm'
              refine opsOkA_cons ?_ ?_
              · intro K vs W hR hD hK
                have dq41 : vs 41 = .bool true := hD 41 (by decide)
                clear hD
                try dsimp only at hK ⊢
                simp only [Act.put, List.setIfInBounds_toArray, List.set_cons_succ, List.set_cons_zero] at hK
                generalize vs 41 = vq41 at hK dq41 ⊢
                subst vq41
                have hbx := (HSd.out.at (hR)).2.2.2.2.2.2.2.1
                have q0 := hbx.cell 0 rfl
                have q1 := hbx.cell 1 rfl
                have q2 := hbx.cell 2 rfl
                have q3 := hbx.cell 3 rfl
                have q4 := hbx.cell 4 rfl
                have q5 := hbx.cell 5 rfl
                have q6 := hbx.cell 6 rfl
                have q7 := hbx.cell 7 rfl
                have q8 := hbx.cell 8 rfl
                go_wp2
                exact hK _ _ rfl (Mod.refl _ _)
              refine opsOkA_cons ?_ ?_
              · intro K vs W hR hD hK
                have dq41 : vs 41 = .bool true := hD 41 (by decide)
                clear hD
                try dsimp only at hK ⊢
                simp only [Act.put, List.setIfInBounds_toArray, List.set_cons_succ, List.set_cons_zero] at hK
                generalize vs 41 = vq41 at hK dq41 ⊢
                subst vq41
                have hbx := (HSd.out.at (hR)).2.2.2.2.2.2.1
                have q0 := hbx.cell 0 rfl
                have q1 := hbx.cell 1 rfl
                have q2 := hbx.cell 2 rfl
                have q3 := hbx.cell 3 rfl
                have q4 := hbx.cell 4 rfl
                have q5 := hbx.cell 5 rfl
                have q6 := hbx.cell 6 rfl
                have q7 := hbx.cell 7 rfl
                have q8 := hbx.cell 8 rfl
                go_wp2
                exact hK _ _ rfl (Mod.refl _ _)
              refine opsOkA_cons ?_ ?_
              · intro K vs W hR hD hK
                have dq41 : vs 41 = .bool true := hD 41 (by decide)
                have dq45 : vs 45 = .agg #[.int .i64 mk, .int .i64 mp, .int .i64 md, .slice a n c, .int .i64 mw, .int .i64 mc, .int .i64 me, .int .i64 mf, .int .i64 ml] := hD 45 (by decide)
                have dq46 : vs 46 = .agg #[.int .i64 yk, .int .i64 yp, .int .i64 yd, .slice a2 n2 c2, .int .i64 yw, .int .i64 yc, .int .i64 yh, .int .i64 yf, .int .i64 yl] := hD 46 (by decide)
                clear hD
                try dsimp only at hK ⊢
                simp only [Act.put, List.setIfInBounds_toArray, List.set_cons_succ, List.set_cons_zero] at hK
                generalize vs 41 = vq41 at hK dq41 ⊢
                subst vq41
                generalize vs 45 = vq45 at hK dq45 ⊢
                subst vq45
                generalize vs 46 = vq46 at hK dq46 ⊢
                subst vq46
                go_wp2_with (go_at_call 14; refine (S3.out W ((HSd.out.at (hR)).2.2.2.2.2.2.2.2.2.2.1) ((HSd.out.at (hR)).2.2.2.2.2.2.2.2.2.1)).mono ?_; rintro e' w' ⟨rfl, hm'⟩)
                exact hK _ _ rfl hm'
              refine opsOkA_cons ?_ ?_
              · intro K vs W hR hD hK
                have dq41 : vs 41 = .bool true := hD 41 (by decide)
                have dq44 : vs 44 = .bool smo := hD 44 (by decide)
                have dq47 : vs 47 = .bool smo := hD 47 (by decide)
                clear hD
                try dsimp only at hK ⊢
                simp only [Act.put, List.setIfInBounds_toArray, List.set_cons_succ, List.set_cons_zero] at hK
                generalize vs 41 = vq41 at hK dq41 ⊢
                subst vq41
                generalize vs 44 = vq44 at hK dq44 ⊢
                subst vq44
                generalize vs 47 = vq47 at hK dq47 ⊢
                subst vq47
                go_wp2
                exact hK _ _ rfl (Mod.refl _ _)
              refine opsOkA_cons ?_ ?_
              · intro K vs W hR hD hK
                have dq41 : vs 41 = .bool true := hD 41 (by decide)
                have dq48 : vs 48 = .bool true := hD 48 (by decide)
                clear hD
                try dsimp only at hK ⊢
                simp only [Act.put, List.setIfInBounds_toArray, List.set_cons_succ, List.set_cons_zero] at hK
                generalize vs 41 = vq41 at hK dq41 ⊢
                subst vq41
                generalize vs 48 = vq48 at hK dq48 ⊢
                subst vq48
                go_wp2
                exact hK _ _ rfl (Mod.refl _ _)
              refine opsOkA_cons ?_ ?_
              · intro K vs W hR hD hK
                have dq49 : vs 49 = .bool true := hD 49 (by decide)
                clear hD
                try dsimp only at hK ⊢
                simp only [Act.put, List.setIfInBounds_toArray, List.set_cons_succ, List.set_cons_zero] at hK
                generalize vs 49 = vq49 at hK dq49 ⊢
                subst vq49
                go_wp2
                exact hK _ _ rfl (Mod.refl _ _)
              refine opsOkA_cons ?_ ?_
              · intro K vs W hR hD hK
                have dq50 : vs 50 = .bool true := hD 50 (by decide)
                clear hD
                try dsimp only at hK ⊢
                simp only [Act.put, List.setIfInBounds_toArray, List.set_cons_succ, List.set_cons_zero] at hK
                generalize vs 50 = vq50 at hK dq50 ⊢
                subst vq50
                have hbx := (HSd.out.at (hR)).2.2.2.2.2.2.2.1
                have q0 := hbx.cell 0 rfl
                have q1 := hbx.cell 1 rfl
                have q2 := hbx.cell 2 rfl
                have q3 := hbx.cell 3 rfl
                have q4 := hbx.cell 4 rfl
                have q5 := hbx.cell 5 rfl
                have q6 := hbx.cell 6 rfl
                have q7 := hbx.cell 7 rfl
                have q8 := hbx.cell 8 rfl
                go_wp2
                exact hK _ _ rfl (Mod.refl _ _)
              refine opsOkA_cons ?_ ?_
              · intro K vs W hR hD hK
                have dq50 : vs 50 = .bool true := hD 50 (by decide)
                clear hD
                try dsimp only at hK ⊢
                simp only [Act.put, List.setIfInBounds_toArray, List.set_cons_succ, List.set_cons_zero] at hK
                generalize vs 50 = vq50 at hK dq50 ⊢
                subst vq50
                have hbx := (HSd.out.at (hR)).2.2.2.2.2.2.2.1
                have q0 := hbx.cell 0 rfl
                have q1 := hbx.cell 1 rfl
                have q2 := hbx.cell 2 rfl
                have q3 := hbx.cell 3 rfl
                have q4 := hbx.cell 4 rfl
                have q5 := hbx.cell 5 rfl
                have q6 := hbx.cell 6 rfl
                have q7 := hbx.cell 7 rfl
                have q8 := hbx.cell 8 rfl
                go_wp2
                exact hK _ _ rfl (Mod.refl _ _)
              refine opsOkA_cons ?_ ?_
              · intro K vs W hR hD hK
                have dq50 : vs 50 = .bool true := hD 50 (by decide)
                have dq51 : vs 51 = .agg #[.int .i64 mk, .int .i64 mp, .int .i64 md, .slice a n c, .int .i64 mw, .int .i64 mc, .int .i64 me, .int .i64 mf, .int .i64 ml] := hD 51 (by decide)
                have dq52 : vs 52 = .agg #[.int .i64 mk, .int .i64 mp, .int .i64 md, .slice a n c, .int .i64 mw, .int .i64 mc, .int .i64 me, .int .i64 mf, .int .i64 ml] := hD 52 (by decide)
                clear hD
                try dsimp only at hK ⊢
                simp only [Act.put, List.setIfInBounds_toArray, List.set_cons_succ, List.set_cons_zero] at hK
                generalize vs 50 = vq50 at hK dq50 ⊢
                subst vq50
                generalize vs 51 = vq51 at hK dq51 ⊢
                subst vq51
                generalize vs 52 = vq52 at hK dq52 ⊢
                subst vq52
                go_wp2_with (go_at_call 15; refine (S4.out W ((HSd.out.at (hR)).2.2.2.2.2.2.2.2.2.2.1) ((HSd.out.at (hR)).2.2.2.2.2.2.2.2.2.2.1)).mono ?_; rintro e' w' ⟨rfl, hm'⟩)
                exact hK _ _ rfl hm'
              refine opsOkA_cons ?_ ?_
              · intro K vs W hR hD hK
                have dq50 : vs 50 = .bool true := hD 50 (by decide)
                have dq53 : vs 53 = .bool true := hD 53 (by decide)
                clear hD
                try dsimp only at hK ⊢
                simp only [Act.put, List.setIfInBounds_toArray, List.set_cons_succ, List.set_cons_zero] at hK
                generalize vs 50 = vq50 at hK dq50 ⊢
                subst vq50
                generalize vs 53 = vq53 at hK dq53 ⊢
                subst vq53
                go_wp2
                exact hK _ _ rfl (Mod.refl _ _)
              refine opsOkA_cons ?_ ?_
              · intro K vs W hR hD hK
                have dq54 : vs 54 = .bool true := hD 54 (by decide)
                clear hD
                try dsimp only at hK ⊢
                simp only [Act.put, List.setIfInBounds_toArray, List.set_cons_succ, List.set_cons_zero] at hK
                generalize vs 54 = vq54 at hK dq54 ⊢
                subst vq54
                go_wp2
                exact hK _ _ rfl (Mod.refl _ _)
              refine opsOkA_cons ?_ ?_
              · intro K vs W hR hD hK
                have dq55 : vs 55 = .bool true := hD 55 (by decide)
                clear hD
                try dsimp only at hK ⊢
                simp only [Act.put, List.setIfInBounds_toArray, List.set_cons_succ, List.set_cons_zero] at hK
                generalize vs 55 = vq55 at hK dq55 ⊢
                subst vq55
                go_wp2_with (go_at_call 9; refine (awake22_any W).mono ?_; rintro e' w' ⟨rfl, hm'⟩)
                exact hK _ _ rfl hm'
              refine opsOkA_cons ?_ ?_
              · intro K vs W hR hD hK
                have dq55 : vs 55 = .bool true := hD 55 (by decide)
                have dq56 : vs 56 = .bool true := hD 56 (by decide)
                clear hD
                try dsimp only at hK ⊢
                simp only [Act.put, List.setIfInBounds_toArray, List.set_cons_succ, List.set_cons_zero] at hK
                generalize vs 55 = vq55 at hK dq55 ⊢
                subst vq55
                generalize vs 56 = vq56 at hK dq56 ⊢
                subst vq56
                go_wp2
                exact hK _ _ rfl (Mod.refl _ _)
              refine opsOkA_cons ?_ ?_
              · intro K vs W hR hD hK
                have dq57 : vs 57 = .bool true := hD 57 (by decide)
                clear hD
                try dsimp only at hK ⊢
                simp only [Act.put, List.setIfInBounds_toArray, List.set_cons_succ, List.set_cons_zero] at hK
                generalize vs 57 = vq57 at hK dq57 ⊢
                subst vq57
                go_wp2
                exact hK _ _ rfl (Mod.refl _ _)
              exact opsOkA_nil
            · intro vs wq23 hR hF
              have dq58 : vs 58 = .bool true := hF 58 (by decide)
              clear hF
              try dsimp only
              generalize vs 58 = vq58 at dq58 ⊢
              subst dq58
              replace HS := Lib.hid (HSd.out.step hR)
              clear HSd hR
              have hbbx := (HS.out.now).2.2.2.2.2.2.2.1
              have qbx_0 := hbbx.cell 0 rfl
              have qbx_1 := hbbx.cell 1 rfl
              have qbx_2 := hbbx.cell 2 rfl
              have qbx_3 := hbbx.cell 3 rfl
              have qbx_4 := hbbx.cell 4 rfl
              have qbx_5 := hbbx.cell 5 rfl
              have qbx_6 := hbbx.cell 6 rfl
              have qbx_7 := hbbx.cell 7 rfl
              have qbx_8 := hbbx.cell 8 rfl
              have lbx := hbbx.lt
              clear hbbx
              have hbby2 := (HS.out.now).2.2.2.2.2.2.1
              have qby2_0 := hbby2.cell 0 rfl
              have qby2_1 := hbby2.cell 1 rfl
              have qby2_2 := hbby2.cell 2 rfl
              have qby2_3 := hbby2.cell 3 rfl
              have qby2_4 := hbby2.cell 4 rfl
              have qby2_5 := hbby2.cell 5 rfl
              have qby2_6 := hbby2.cell 6 rfl
              have qby2_7 := hbby2.cell 7 rfl
              have qby2_8 := hbby2.cell 8 rfl
              have lby2 := hbby2.lt
              clear hbby2
              have hbbu := (HS.out.now).2.2.1
              have qbu_0 := hbbu.cell 0 rfl
              have qbu_1 := hbbu.cell 1 rfl
              have qbu_2 := hbbu.cell 2 rfl
              have qbu_3 := hbbu.cell 3 rfl
              have qbu_4 := hbbu.cell 4 rfl
              have qbu_5 := hbbu.cell 5 rfl
              have qbu_6 := hbbu.cell 6 rfl
              have qbu_7 := hbbu.cell 7 rfl
              have qbu_8 := hbbu.cell 8 rfl
              have lbu := hbbu.lt
              clear hbbu
              have hbbv := (HS.out.now).1
              have qbv_0 := hbbv.cell 0 rfl
              have qbv_1 := hbbv.cell 1 rfl
              have qbv_2 := hbbv.cell 2 rfl
              have qbv_3 := hbbv.cell 3 rfl
              have qbv_4 := hbbv.cell 4 rfl
              have qbv_5 := hbbv.cell 5 rfl
              have qbv_6 := hbbv.cell 6 rfl
              have qbv_7 := hbbv.cell 7 rfl
              have qbv_8 := hbbv.cell 8 rfl
              have lbv := hbbv.lt
              clear hbbv
              go_wp2_with fail
              go_ret
              exact ⟨rfl, (HS.out.now).2.2.2.2.2.2.2.2.2.2.2⟩
        | some bs =>
          have HEN := Lib.hid hen
          try rw [hen] at hF
          try rw [hen]
          simp only [Option.isNone_some, Bool.false_eq_true, if_false, Option.getD_some] at hF ⊢
          obtain ⟨L, hL⟩ : ∃ x, bs.length = x := ⟨_, rfl⟩
          rw [hL] at hF ⊢
          have HL := Lib.hid hL
          have hx3 : Rd wq12 1 (.slice a3 L c3) L (bs.map (Value.int .u8)) := by have h := Rd.ofOwn hF; try rw [hL] at h; exact h
          replace HS := Lib.hid ((Ev.rd hx3).and HS.out)
          clear hF hx3 hen hL
          have C20 := rmsg_any wq12 ⟨mk, mp, md, ed, mw, mc, me, mf, ml⟩ a n c HN.out ((HS.out.now).2.2.2.2.2.1) HE.out (by omega)
          unfold msgV at C20
          simp only at C20
          have C2 := Lib.hid C20
          clear C20
          go_wp2_with fail
          refine (C2.out).mono ?_
          rintro e wq24 ⟨a4, c4, rfl, hF, hmm⟩
          replace HS := Lib.hid (HS.out.step hmm)
          clear hmm
          clear qbx_0 qbx_1 qbx_2 qbx_3 qbx_4 qbx_5 qbx_6 qbx_7 qbx_8 lbx qby2_0 qby2_1 qby2_2 qby2_3 qby2_4 qby2_5 qby2_6 qby2_7 qby2_8 lby2
          have hbbx := (HS.out.now).2.2.1
          have qbx_0 := hbbx.cell 0 rfl
          have qbx_1 := hbbx.cell 1 rfl
          have qbx_2 := hbbx.cell 2 rfl
          have qbx_3 := hbbx.cell 3 rfl
          have qbx_4 := hbbx.cell 4 rfl
          have qbx_5 := hbbx.cell 5 rfl
          have qbx_6 := hbbx.cell 6 rfl
          have qbx_7 := hbbx.cell 7 rfl
          have qbx_8 := hbbx.cell 8 rfl
          have lbx := hbbx.lt
          clear hbbx
          have hbby2 := (HS.out.now).2.1
          have qby2_0 := hbby2.cell 0 rfl
          have qby2_1 := hbby2.cell 1 rfl
          have qby2_2 := hbby2.cell 2 rfl
          have qby2_3 := hbby2.cell 3 rfl
          have qby2_4 := hbby2.cell 4 rfl
          have qby2_5 := hbby2.cell 5 rfl
          have qby2_6 := hbby2.cell 6 rfl
          have qby2_7 := hbby2.cell 7 rfl
          have qby2_8 := hbby2.cell 8 rfl
          have lby2 := hbby2.lt
          clear hbby2
          clear C2
          rw [HEN.out] at hF ⊢
          simp only [Option.isSome_some, Option.getD_some] at hF ⊢
          rw [HL.out] at hF ⊢
          have hx4 : Rd wq24 1 (.slice a4 L c4) L (bs.map (Value.int .u8)) := by have h := Rd.ofOwn hF; try rw [HL.out] at h; exact h
          replace HS := Lib.hid ((Ev.rd hx4).and HS.out)
          clear hF hx4
          rcases hcase with h0 | h0
          · subst h0
            go_wp2_with fail
            refine (mdecode_any _ ab nb cb b HNB.out ((HS.out.now).2.2.2.2.1) HGB.out (by omega)).mono ?_
            rintro e wq25 ⟨a9, c9, rfl, hF, hmm⟩
            replace HS := Lib.hid (HS.out.step hmm)
            clear hmm
            rw [HD.out] at hF ⊢
            unfold msgV
            simp only at hF ⊢
            rw [HK.out] at hF ⊢
            replace HS := Lib.hid (((Ev.rd (show Rd wq25 1 (.slice a9 uL c9) uL (ue.map (Value.int .i64)) from Rd.ofOwn hF))).and HS.out)
            clear hF
            go_upto_region 6 with fail
            clear qbx_0 qbx_1 qbx_2 qbx_3 qbx_4 qbx_5 qbx_6 qbx_7 qbx_8 lbx qby2_0 qby2_1 qby2_2 qby2_3 qby2_4 qby2_5 qby2_6 qby2_7 qby2_8 lby2
            obtain ⟨bu, hbu⟩ : ∃ b, wq25.heap.size = b := ⟨_, rfl⟩
            obtain ⟨wq26, hwq26⟩ : ∃ W, World.alloc wq25 (.cells #[.int .i64 uk, .int .i64 up, .int .i64 ud, .slice a9 uL c9, .int .i64 uw, .int .i64 uc, .int .i64 uh, .int .i64 uf, .int .i64 ul] 26) = W := ⟨_, rfl⟩
            have hBbu : Blk wq26 bu 26 [.int .i64 uk, .int .i64 up, .int .i64 ud, .slice a9 uL c9, .int .i64 uw, .int .i64 uc, .int .i64 uh, .int .i64 uf, .int .i64 ul] := by rw [← hwq26, ← hbu]; exact Blk.new _ 26 [.int .i64 uk, .int .i64 up, .int .i64 ud, .slice a9 uL c9, .int .i64 uw, .int .i64 uc, .int .i64 uh, .int .i64 uf, .int .i64 ul]
            have hzbu : wq26.heap.size = bu + 1 := by rw [← hwq26, ← hbu]; exact heap_size_alloc _ _
            replace HS := Lib.hid (HS.out.step (w' := wq26) (by rw [← hwq26]; exact Mod.alloc _ _ _))
            replace HS := Lib.hid ((Ev.blk hBbu).and HS.out)
            try rw [hwq26]
            try rw [hbu]
            clear hzbu hBbu hbu hwq26
            have hbbx := (HS.out.now).2.2.2.2.2.1
            have qbx_0 := hbbx.cell 0 rfl
            have qbx_1 := hbbx.cell 1 rfl
            have qbx_2 := hbbx.cell 2 rfl
            have qbx_3 := hbbx.cell 3 rfl
            have qbx_4 := hbbx.cell 4 rfl
            have qbx_5 := hbbx.cell 5 rfl
            have qbx_6 := hbbx.cell 6 rfl
            have qbx_7 := hbbx.cell 7 rfl
            have qbx_8 := hbbx.cell 8 rfl
            have lbx := hbbx.lt
            clear hbbx
            have hbby2 := (HS.out.now).2.2.2.2.1
            have qby2_0 := hbby2.cell 0 rfl
            have qby2_1 := hbby2.cell 1 rfl
            have qby2_2 := hbby2.cell 2 rfl
            have qby2_3 := hbby2.cell 3 rfl
            have qby2_4 := hbby2.cell 4 rfl
            have qby2_5 := hbby2.cell 5 rfl
            have qby2_6 := hbby2.cell 6 rfl
            have qby2_7 := hbby2.cell 7 rfl
            have qby2_8 := hbby2.cell 8 rfl
            have lby2 := hbby2.lt
            clear hbby2
            have hbbu := (HS.out.now).1
            have qbu_0 := hbbu.cell 0 rfl
            have qbu_1 := hbbu.cell 1 rfl
            have qbu_2 := hbbu.cell 2 rfl
            have qbu_3 := hbbu.cell 3 rfl
            have qbu_4 := hbbu.cell 4 rfl
            have qbu_5 := hbbu.cell 5 rfl
            have qbu_6 := hbbu.cell 6 rfl
            have qbu_7 := hbbu.cell 7 rfl
            have qbu_8 := hbbu.cell 8 rfl
            have lbu := hbbu.lt
            clear hbbu
            go_wp2_with fail
            refine (rreadm_any _ ab nb cb b HNB.out ((HS.out.now).2.2.2.2.2.2.1) HGB.out (by omega)).mono ?_
            rintro e wq27 ⟨a8, c8, rfl, hF, hmm⟩
            replace HS := Lib.hid (HS.out.step hmm)
            clear hmm
            rw [HD.out] at hF ⊢
            unfold msgV
            simp only at hF ⊢
            rw [HK.out] at hF ⊢
            try simp only [show decide ((2 : Int) = 0) = false from rfl, decide_true, decide_false]
            replace HS := Lib.hid (((Ev.rd (show Rd wq27 1 (.slice a8 uL c8) uL (ue.map (Value.int .i64)) from Rd.ofOwn hF))).and HS.out)
            clear hF
            go_upto_region 7 with fail
            clear qbx_0 qbx_1 qbx_2 qbx_3 qbx_4 qbx_5 qbx_6 qbx_7 qbx_8 lbx qby2_0 qby2_1 qby2_2 qby2_3 qby2_4 qby2_5 qby2_6 qby2_7 qby2_8 lby2 qbu_0 qbu_1 qbu_2 qbu_3 qbu_4 qbu_5 qbu_6 qbu_7 qbu_8 lbu
            obtain ⟨bv, hbv⟩ : ∃ b, wq27.heap.size = b := ⟨_, rfl⟩
            obtain ⟨wq28, hwq28⟩ : ∃ W, World.alloc wq27 (.cells #[.int .i64 uk, .int .i64 up, .int .i64 ud, .slice a8 uL c8, .int .i64 uw, .int .i64 uc, .int .i64 uh, .int .i64 uf, .int .i64 ul] 26) = W := ⟨_, rfl⟩
            have hBbv : Blk wq28 bv 26 [.int .i64 uk, .int .i64 up, .int .i64 ud, .slice a8 uL c8, .int .i64 uw, .int .i64 uc, .int .i64 uh, .int .i64 uf, .int .i64 ul] := by rw [← hwq28, ← hbv]; exact Blk.new _ 26 [.int .i64 uk, .int .i64 up, .int .i64 ud, .slice a8 uL c8, .int .i64 uw, .int .i64 uc, .int .i64 uh, .int .i64 uf, .int .i64 ul]
            have hzbv : wq28.heap.size = bv + 1 := by rw [← hwq28, ← hbv]; exact heap_size_alloc _ _
            replace HS := Lib.hid (HS.out.step (w' := wq28) (by rw [← hwq28]; exact Mod.alloc _ _ _))
            replace HS := Lib.hid ((Ev.blk hBbv).and HS.out)
            try rw [hwq28]
            try rw [hbv]
            clear hzbv hBbv hbv hwq28
            have hbbx := (HS.out.now).2.2.2.2.2.2.2.1
            have qbx_0 := hbbx.cell 0 rfl
            have qbx_1 := hbbx.cell 1 rfl
            have qbx_2 := hbbx.cell 2 rfl
            have qbx_3 := hbbx.cell 3 rfl
            have qbx_4 := hbbx.cell 4 rfl
            have qbx_5 := hbbx.cell 5 rfl
            have qbx_6 := hbbx.cell 6 rfl
            have qbx_7 := hbbx.cell 7 rfl
            have qbx_8 := hbbx.cell 8 rfl
            have lbx := hbbx.lt
            clear hbbx
            have hbby2 := (HS.out.now).2.2.2.2.2.2.1
            have qby2_0 := hbby2.cell 0 rfl
            have qby2_1 := hbby2.cell 1 rfl
            have qby2_2 := hbby2.cell 2 rfl
            have qby2_3 := hbby2.cell 3 rfl
            have qby2_4 := hbby2.cell 4 rfl
            have qby2_5 := hbby2.cell 5 rfl
            have qby2_6 := hbby2.cell 6 rfl
            have qby2_7 := hbby2.cell 7 rfl
            have qby2_8 := hbby2.cell 8 rfl
            have lby2 := hbby2.lt
            clear hbby2
            have hbbu := (HS.out.now).2.2.1
            have qbu_0 := hbbu.cell 0 rfl
            have qbu_1 := hbbu.cell 1 rfl
            have qbu_2 := hbbu.cell 2 rfl
            have qbu_3 := hbbu.cell 3 rfl
            have qbu_4 := hbbu.cell 4 rfl
            have qbu_5 := hbbu.cell 5 rfl
            have qbu_6 := hbbu.cell 6 rfl
            have qbu_7 := hbbu.cell 7 rfl
            have qbu_8 := hbbu.cell 8 rfl
            have lbu := hbbu.lt
            clear hbbu
            have hbbv := (HS.out.now).1
            have qbv_0 := hbbv.cell 0 rfl
            have qbv_1 := hbbv.cell 1 rfl
            have qbv_2 := hbbv.cell 2 rfl
            have qbv_3 := hbbv.cell 3 rfl
            have qbv_4 := hbbv.cell 4 rfl
            have qbv_5 := hbbv.cell 5 rfl
            have qbv_6 := hbbv.cell 6 rfl
            have qbv_7 := hbbv.cell 7 rfl
            have qbv_8 := hbbv.cell 8 rfl
            have lbv := hbbv.lt
            clear hbbv
            obtain ⟨Y, hY⟩ : ∃ x, strOf bs = x := ⟨_, rfl⟩
            have HY := Lib.hid hY
            clear hY
            have S10 := fun (W : World) r1 r2 => rsamem_any W ⟨uk, up, ud, ue, uw, uc, uh, uf, ul⟩ ⟨uk, up, ud, ue, uw, uc, uh, uf, ul⟩ true (by unfold sameM; simp) a9 uL c9 HK.out r1 a8 uL c8 HK.out r2 (by omega)
            unfold msgV at S10
            simp only at S10
            have S1 := Lib.hid S10
            clear S10
            have S20 := fun (W : World) r1 r2 => msame_any W ⟨mk, mp, md, ed, mw, mc, me, mf, ml⟩ ⟨yk, yp, yd, ye, yw, yc, yh, yf, yl⟩ smo HSMO.out a n c HN.out r1 a2 n2 c2 HN2.out r2 (by omega)
            unfold msgV at S20
            simp only at S20
            have S2 := Lib.hid S20
            clear S20
            have S30 := fun (W : World) r1 r2 => rsamem_any W ⟨mk, mp, md, ed, mw, mc, me, mf, ml⟩ ⟨yk, yp, yd, ye, yw, yc, yh, yf, yl⟩ smo HSMO.out a n c HN.out r1 a2 n2 c2 HN2.out r2 (by omega)
            unfold msgV at S30
            simp only at S30
            have S3 := Lib.hid S30
            clear S30
            have S40 := fun (W : World) r1 r2 => msame_any W ⟨mk, mp, md, ed, mw, mc, me, mf, ml⟩ ⟨mk, mp, md, ed, mw, mc, me, mf, ml⟩ true (by unfold sameM; simp) a n c HN.out r1 a n c HN.out r2 (by omega)
            unfold msgV at S40
            simp only at S40
            have S4 := Lib.hid S40
            clear S40
            clear qbx_0 qbx_1 qbx_2 qbx_3 qbx_4 qbx_5 qbx_6 qbx_7 qbx_8 lbx qby2_0 qby2_1 qby2_2 qby2_3 qby2_4 qby2_5 qby2_6 qby2_7 qby2_8 lby2 qbu_0 qbu_1 qbu_2 qbu_3 qbu_4 qbu_5 qbu_6 qbu_7 qbu_8 lbu qbv_0 qbv_1 qbv_2 qbv_3 qbv_4 qbv_5 qbv_6 qbv_7 qbv_8 lbv
            have HSd := Lib.hid HS.out.drew
            refine wp_region_inv3 (act := ?actmt_r7_2) (Mod (fun _ => False)) (fun i => (mt_r7_2_F a a2 a3 a4 a9 a8 n c n2 c2 L c3 c4 uL c9 c8 mk mp md mw mc me mf ml yk yp yd yw yc yh yf yl uk up ud uw uc uh uf ul Y smo).getD i (fun _ _ => True)) (fun i => mt_r7_2_D.getD i []) (by kernel_rfl) (by kernel_rfl) (by kernel_rfl) (by kernel_rfl) (fun _ => Mod.refl _ _)
              (fun _ _ _ h k => h.trans k (fun _ _ e => e) (fun _ _ e => e)) ?hactmt_r7_2 (stable_list ?_) ?_ ?_
            case hactmt_r7_2 => intro vs; simp only [putAll, Nat.zero_add, Nat.reduceAdd, Act.put, List.setIfInBounds_toArray, List.set_cons_succ, List.set_cons_zero]; exact rfl
            · unfold mt_r7_2_F
              exact stable_cons (stable_val _) <| stable_cons (stable_val _) <| stable_cons (stable_val _) <| stable_cons (stable_val _) <| stable_cons (stable_val _) <| stable_cons (stable_val _) <| stable_cons (stable_val _) <| stable_cons (stable_val _) <| stable_cons (stable_val _) <| stable_cons (stable_val _) <| stable_cons (stable_val _) <| stable_cons (stable_val _) <| stable_cons (stable_val _) <| stable_cons (stable_val _) <| stable_cons (stable_val _) <| stable_cons (stable_val _) <| stable_cons (stable_val _) <| stable_cons (stable_val _) <| stable_cons (stable_val _) <| stable_cons (stable_val _) <| stable_cons (stable_val _) <| stable_cons (stable_val _) <| stable_cons (stable_val _) <| stable_cons (stable_val _) <| stable_cons (stable_val _) <| stable_cons (stable_val _) <| stable_cons (stable_val _) <| stable_cons (stable_val _) <| stable_cons (stable_val _) <| stable_cons (stable_val _) <| stable_cons (stable_val _) <| stable_cons (stable_val _) <| stable_cons (stable_val _) <| stable_cons (stable_val _) <| stable_cons (stable_val _) <| stable_cons (stable_val _) <| stable_cons (stable_val _) <| stable_cons (stable_val _) <| stable_cons (stable_val _) <| stable_cons (stable_val _) <| stable_cons (stable_val _) <| stable_cons (stable_val _) <| stable_cons (stable_val _) <| stable_cons (stable_val _) <| stable_cons (stable_val _) <| stable_cons (stable_val _) <| stable_cons (stable_val _) <| stable_cons (stable_val _) <| stable_cons (stable_val _) <| stable_cons (stable_val _) <| stable_cons (stable_val _) <| stable_cons (stable_val _) <| stable_cons (stable_val _) <| stable_cons (stable_val _) <| stable_cons (stable_val _) <| stable_cons (stable_val _) <| stable_cons (stable_val _) <| stable_cons (stable_val _) <| stable_cons (stable_val _) <| stable_nil
            · refine opsOkA_cons ?_ ?_
              · intro K vs W hR hD hK
                clear hD
                try dsimp only at hK ⊢
                simp only [Act.put, List.setIfInBounds_toArray, List.set_cons_succ, List.set_cons_zero] at hK
                go_wp2
                exact hK _ _ rfl (Mod.refl _ _)
              refine opsOkA_cons ?_ ?_
              · intro K vs W hR hD hK
                have dq0 : vs 0 = .slice a3 L c3 := hD 0 (by decide)
                clear hD
                try dsimp only at hK ⊢
                simp only [Act.put, List.setIfInBounds_toArray, List.set_cons_succ, List.set_cons_zero] at hK
                generalize vs 0 = vq0 at hK dq0 ⊢
                subst vq0
                have k1 := run_strS W 27 9 5 Try.underlying27 Try.underlying5 Try.underlying9 ((HSd.out.at (hR)).2.2.2.2.2.1)
                rw [HY.out] at k1
                go_wp2
                exact hK _ _ rfl (Mod.refl _ _)
              refine opsOkA_cons ?_ ?_
              · intro K vs W hR hD hK
                clear hD
                try dsimp only at hK ⊢
                simp only [Act.put, List.setIfInBounds_toArray, List.set_cons_succ, List.set_cons_zero] at hK
                go_wp2
                exact hK _ _ rfl (Mod.refl _ _)
              refine opsOkA_cons ?_ ?_
              · intro K vs W hR hD hK
                have dq2 : vs 2 = .slice a4 L c4 := hD 2 (by decide)
                clear hD
                try dsimp only at hK ⊢
                simp only [Act.put, List.setIfInBounds_toArray, List.set_cons_succ, List.set_cons_zero] at hK
                generalize vs 2 = vq2 at hK dq2 ⊢
                subst vq2
                have k1 := run_strS W 27 9 5 Try.underlying27 Try.underlying5 Try.underlying9 ((HSd.out.at (hR)).2.2.2.2.1)
                rw [HY.out] at k1
                go_wp2
                exact hK _ _ rfl (Mod.refl _ _)
              refine opsOkA_cons ?_ ?_
              · intro K vs W hR hD hK
                have dq1 : vs 1 = .string Y := hD 1 (by decide)
                have dq3 : vs 3 = .string Y := hD 3 (by decide)
                clear hD
                try dsimp only at hK ⊢
                simp only [Act.put, List.setIfInBounds_toArray, List.set_cons_succ, List.set_cons_zero] at hK
                generalize vs 1 = vq1 at hK dq1 ⊢
                subst vq1
                generalize vs 3 = vq3 at hK dq3 ⊢
                subst vq3
                go_wp2
                exact hK _ _ rfl (Mod.refl _ _)
              refine opsOkA_cons ?_ ?_
              · intro K vs W hR hD hK
                have dq4 : vs 4 = .bool true := hD 4 (by decide)
                clear hD
                try dsimp only at hK ⊢
                simp only [Act.put, List.setIfInBounds_toArray, List.set_cons_succ, List.set_cons_zero] at hK
                generalize vs 4 = vq4 at hK dq4 ⊢
                subst vq4
                go_wp2
                exact hK _ _ rfl (Mod.refl _ _)
              refine opsOkA_cons ?_ ?_
              · intro K vs W hR hD hK
                have dq5 : vs 5 = .bool true := hD 5 (by decide)
                clear hD
                try dsimp only at hK ⊢
                simp only [Act.put, List.setIfInBounds_toArray, List.set_cons_succ, List.set_cons_zero] at hK
                generalize vs 5 = vq5 at hK dq5 ⊢
                subst vq5
                go_wp2
                exact hK _ _ rfl (Mod.refl _ _)
              refine opsOkA_cons ?_ ?_
              · intro K vs W hR hD hK
                have dq5 : vs 5 = .bool true := hD 5 (by decide)
                have dq6 : vs 6 = .int .i64 0 := hD 6 (by decide)
                clear hD
                try dsimp only at hK ⊢
                simp only [Act.put, List.setIfInBounds_toArray, List.set_cons_succ, List.set_cons_zero] at hK
                generalize vs 5 = vq5 at hK dq5 ⊢
                subst vq5
                generalize vs 6 = vq6 at hK dq6 ⊢
                subst vq6
                go_wp2
                exact hK _ _ rfl (Mod.refl _ _)
              refine opsOkA_cons ?_ ?_
              · intro K vs W hR hD hK
                have dq5 : vs 5 = .bool true := hD 5 (by decide)
                clear hD
                try dsimp only at hK ⊢
                simp only [Act.put, List.setIfInBounds_toArray, List.set_cons_succ, List.set_cons_zero] at hK
                generalize vs 5 = vq5 at hK dq5 ⊢
                subst vq5
                go_wp2
                exact hK _ _ rfl (Mod.refl _ _)
              refine opsOkA_cons ?_ ?_
              · intro K vs W hR hD hK
                have dq5 : vs 5 = .bool true := hD 5 (by decide)
                have dq7 : vs 7 = .bool true := hD 7 (by decide)
                have dq8 : vs 8 = .bool true := hD 8 (by decide)
                clear hD
                try dsimp only at hK ⊢
                simp only [Act.put, List.setIfInBounds_toArray, List.set_cons_succ, List.set_cons_zero] at hK
                generalize vs 5 = vq5 at hK dq5 ⊢
                subst vq5
                generalize vs 7 = vq7 at hK dq7 ⊢
                subst vq7
                generalize vs 8 = vq8 at hK dq8 ⊢
                subst vq8
                go_wp2
                exact hK _ _ rfl (Mod.refl _ _)
              refine opsOkA_cons ?_ ?_
              · intro K vs W hR hD hK
                have dq5 : vs 5 = .bool true := hD 5 (by decide)
                have dq9 : vs 9 = .bool true := hD 9 (by decide)
                clear hD
                try dsimp only at hK ⊢
                simp only [Act.put, List.setIfInBounds_toArray, List.set_cons_succ, List.set_cons_zero] at hK
                generalize vs 5 = vq5 at hK dq5 ⊢
                subst vq5
                generalize vs 9 = vq9 at hK dq9 ⊢
                subst vq9
                go_wp2
                exact hK _ _ rfl (Mod.refl _ _)
              refine opsOkA_cons ?_ ?_
              · intro K vs W hR hD hK
                have dq10 : vs 10 = .bool true := hD 10 (by decide)
                clear hD
                try dsimp only at hK ⊢
                simp only [Act.put, List.setIfInBounds_toArray, List.set_cons_succ, List.set_cons_zero] at hK
                generalize vs 10 = vq10 at hK dq10 ⊢
                subst vq10
                go_wp2
                exact hK _ _ rfl (Mod.refl _ _)
              refine opsOkA_cons ?_ ?_
              · intro K vs W hR hD hK
                have dq11 : vs 11 = .bool true := hD 11 (by decide)
                clear hD
                try dsimp only at hK ⊢
                simp only [Act.put, List.setIfInBounds_toArray, List.set_cons_succ, List.set_cons_zero] at hK
                generalize vs 11 = vq11 at hK dq11 ⊢
                subst vq11
                go_wp2
                exact hK _ _ rfl (Mod.refl _ _)
              refine opsOkA_cons ?_ ?_
              · intro K vs W hR hD hK
                have dq11 : vs 11 = .bool true := hD 11 (by decide)
                have dq12 : vs 12 = .bool true := hD 12 (by decide)
                clear hD
                try dsimp only at hK ⊢
                simp only [Act.put, List.setIfInBounds_toArray, List.set_cons_succ, List.set_cons_zero] at hK
                generalize vs 11 = vq11 at hK dq11 ⊢
                subst vq11
                generalize vs 12 = vq12 at hK dq12 ⊢
                subst vq12
                go_wp2
                exact hK _ _ rfl (Mod.refl _ _)
              refine opsOkA_cons ?_ ?_
              · intro K vs W hR hD hK
                have dq13 : vs 13 = .bool true := hD 13 (by decide)
                clear hD
                try dsimp only at hK ⊢
                simp only [Act.put, List.setIfInBounds_toArray, List.set_cons_succ, List.set_cons_zero] at hK
                generalize vs 13 = vq13 at hK dq13 ⊢
                subst vq13
                go_wp2
                exact hK _ _ rfl (Mod.refl _ _)
              refine opsOkA_cons ?_ ?_
              · intro K vs W hR hD hK
                have dq13 : vs 13 = .bool true := hD 13 (by decide)
                clear hD
                try dsimp only at hK ⊢
                simp only [Act.put, List.setIfInBounds_toArray, List.set_cons_succ, List.set_cons_zero] at hK
                generalize vs 13 = vq13 at hK dq13 ⊢
                subst vq13
                go_wp2
                exact hK _ _ rfl (Mod.refl _ _)
              refine opsOkA_cons ?_ ?_
              · intro K vs W hR hD hK
                have dq13 : vs 13 = .bool true := hD 13 (by decide)
                clear hD
                try dsimp only at hK ⊢
                simp only [Act.put, List.setIfInBounds_toArray, List.set_cons_succ, List.set_cons_zero] at hK
                generalize vs 13 = vq13 at hK dq13 ⊢
                subst vq13
                go_wp2
                exact hK _ _ rfl (Mod.refl _ _)
              refine opsOkA_cons ?_ ?_
              · intro K vs W hR hD hK
                have dq16 : vs 16 = undef := hD 16 (by decide)
                clear hD
                try dsimp only at hK ⊢
                simp only [Act.put, List.setIfInBounds_toArray, List.set_cons_succ, List.set_cons_zero] at hK
                generalize vs 16 = vq16 at hK dq16 ⊢
                subst vq16
                go_wp2
                exact hK _ _ rfl (Mod.refl _ _)
              refine opsOkA_cons ?_ ?_
              · intro K vs W hR hD hK
                have dq16 : vs 16 = undef := hD 16 (by decide)
                clear hD
                try dsimp only at hK ⊢
                simp only [Act.put, List.setIfInBounds_toArray, List.set_cons_succ, List.set_cons_zero] at hK
                generalize vs 16 = vq16 at hK dq16 ⊢
                subst vq16
                go_wp2_with fail
                exact hK _ _ rfl (Mod.refl _ _)
              refine opsOkA_cons ?_ ?_
              · intro K vs W hR hD hK
                have dq16 : vs 16 = undef := hD 16 (by decide)
                clear hD
                try dsimp only at hK ⊢
                simp only [Act.put, List.setIfInBounds_toArray, List.set_cons_succ, List.set_cons_zero] at hK
                generalize vs 16 = vq16 at hK dq16 ⊢
                subst vq16
                go_wp2
                exact hK _ _ rfl (Mod.refl _ _)
              refine opsOkA_cons ?_ ?_
              · intro K vs W hR hD hK
                have dq13 : vs 13 = .bool true := hD 13 (by decide)
                clear hD
                try dsimp only at hK ⊢
                simp only [Act.put, List.setIfInBounds_toArray, List.set_cons_succ, List.set_cons_zero] at hK
                generalize vs 13 = vq13 at hK dq13 ⊢
                subst vq13
                go_wp2
                exact hK _ _ rfl (Mod.refl _ _)
              refine opsOkA_cons ?_ ?_
              · intro K vs W hR hD hK
                have dq11 : vs 11 = .bool true := hD 11 (by decide)
                have dq13 : vs 13 = .bool true := hD 13 (by decide)
                have dq20 : vs 20 = undef := hD 20 (by decide)
                clear hD
                try dsimp only at hK ⊢
                simp only [Act.put, List.setIfInBounds_toArray, List.set_cons_succ, List.set_cons_zero] at hK
                generalize vs 11 = vq11 at hK dq11 ⊢
                subst vq11
                generalize vs 13 = vq13 at hK dq13 ⊢
                subst vq13
                generalize vs 20 = vq20 at hK dq20 ⊢
                subst vq20
                go_wp2
                exact hK _ _ rfl (Mod.refl _ _)
              refine opsOkA_cons ?_ ?_
              · intro K vs W hR hD hK
                have dq11 : vs 11 = .bool true := hD 11 (by decide)
                have dq21 : vs 21 = .bool true := hD 21 (by decide)
                clear hD
                try dsimp only at hK ⊢
                simp only [Act.put, List.setIfInBounds_toArray, List.set_cons_succ, List.set_cons_zero] at hK
                generalize vs 11 = vq11 at hK dq11 ⊢
                subst vq11
                generalize vs 21 = vq21 at hK dq21 ⊢
                subst vq21
                go_wp2
                exact hK _ _ rfl (Mod.refl _ _)
              refine opsOkA_cons ?_ ?_
              · intro K vs W hR hD hK
                have dq22 : vs 22 = .bool true := hD 22 (by decide)
                clear hD
                try dsimp only at hK ⊢
                simp only [Act.put, List.setIfInBounds_toArray, List.set_cons_succ, List.set_cons_zero] at hK
                generalize vs 22 = vq22 at hK dq22 ⊢
                subst vq22
                go_wp2
                exact hK _ _ rfl (Mod.refl _ _)
              refine opsOkA_cons ?_ ?_
              · intro K vs W hR hD hK
                have dq23 : vs 23 = .bool true := hD 23 (by decide)
                clear hD
                try dsimp only at hK ⊢
                simp only [Act.put, List.setIfInBounds_toArray, List.set_cons_succ, List.set_cons_zero] at hK
                generalize vs 23 = vq23 at hK dq23 ⊢
                subst vq23
                have hbx := (HSd.out.at (hR)).2.2.1
                have q0 := hbx.cell 0 rfl
                have q1 := hbx.cell 1 rfl
                have q2 := hbx.cell 2 rfl
                have q3 := hbx.cell 3 rfl
                have q4 := hbx.cell 4 rfl
                have q5 := hbx.cell 5 rfl
                have q6 := hbx.cell 6 rfl
                have q7 := hbx.cell 7 rfl
                have q8 := hbx.cell 8 rfl
                go_wp2
                exact hK _ _ rfl (Mod.refl _ _)
              refine opsOkA_cons ?_ ?_
              · intro K vs W hR hD hK
                have dq23 : vs 23 = .bool true := hD 23 (by decide)
                clear hD
                try dsimp only at hK ⊢
                simp only [Act.put, List.setIfInBounds_toArray, List.set_cons_succ, List.set_cons_zero] at hK
                generalize vs 23 = vq23 at hK dq23 ⊢
                subst vq23
                have hbx := (HSd.out.at (hR)).1
                have q0 := hbx.cell 0 rfl
                have q1 := hbx.cell 1 rfl
                have q2 := hbx.cell 2 rfl
                have q3 := hbx.cell 3 rfl
                have q4 := hbx.cell 4 rfl
                have q5 := hbx.cell 5 rfl
                have q6 := hbx.cell 6 rfl
                have q7 := hbx.cell 7 rfl
                have q8 := hbx.cell 8 rfl
                go_wp2
                exact hK _ _ rfl (Mod.refl _ _)
              refine opsOkA_cons ?_ ?_
              · intro K vs W hR hD hK
                have dq23 : vs 23 = .bool true := hD 23 (by decide)
                have dq24 : vs 24 = .agg #[.int .i64 uk, .int .i64 up, .int .i64 ud, .slice a9 uL c9, .int .i64 uw, .int .i64 uc, .int .i64 uh, .int .i64 uf, .int .i64 ul] := hD 24 (by decide)
                have dq25 : vs 25 = .agg #[.int .i64 uk, .int .i64 up, .int .i64 ud, .slice a8 uL c8, .int .i64 uw, .int .i64 uc, .int .i64 uh, .int .i64 uf, .int .i64 ul] := hD 25 (by decide)
                clear hD
                try dsimp only at hK ⊢
                simp only [Act.put, List.setIfInBounds_toArray, List.set_cons_succ, List.set_cons_zero] at hK
                generalize vs 23 = vq23 at hK dq23 ⊢
                subst vq23
                generalize vs 24 = vq24 at hK dq24 ⊢
                subst vq24
                generalize vs 25 = vq25 at hK dq25 ⊢
                subst vq25
                go_wp2_with (go_at_call 14; refine (S1.out W ((HSd.out.at (hR)).2.2.2.1) ((HSd.out.at (hR)).2.1)).mono ?_; rintro e' w' ⟨rfl, hm'⟩)
                exact hK _ _ rfl hm'
              refine opsOkA_cons ?_ ?_
              · intro K vs W hR hD hK
                have dq23 : vs 23 = .bool true := hD 23 (by decide)
                have dq26 : vs 26 = .bool true := hD 26 (by decide)
                clear hD
                try dsimp only at hK ⊢
                simp only [Act.put, List.setIfInBounds_toArray, List.set_cons_succ, List.set_cons_zero] at hK
                generalize vs 23 = vq23 at hK dq23 ⊢
                subst vq23
                generalize vs 26 = vq26 at hK dq26 ⊢
                subst vq26
                go_wp2
                exact hK _ _ rfl (Mod.refl _ _)
              refine opsOkA_cons ?_ ?_
              · intro K vs W hR hD hK
                have dq27 : vs 27 = .bool true := hD 27 (by decide)
                clear hD
                try dsimp only at hK ⊢
                simp only [Act.put, List.setIfInBounds_toArray, List.set_cons_succ, List.set_cons_zero] at hK
                generalize vs 27 = vq27 at hK dq27 ⊢
                subst vq27
                go_wp2
                exact hK _ _ rfl (Mod.refl _ _)
              refine opsOkA_cons ?_ ?_
              · intro K vs W hR hD hK
                have dq28 : vs 28 = .bool true := hD 28 (by decide)
                clear hD
                try dsimp only at hK ⊢
                simp only [Act.put, List.setIfInBounds_toArray, List.set_cons_succ, List.set_cons_zero] at hK
                generalize vs 28 = vq28 at hK dq28 ⊢
                subst vq28
                go_wp2
                exact hK _ _ rfl (Mod.refl _ _)
              refine opsOkA_cons ?_ ?_
              · intro K vs W hR hD hK
                have dq28 : vs 28 = .bool true := hD 28 (by decide)
                have dq29 : vs 29 = .int .i64 0 := hD 29 (by decide)
                clear hD
                try dsimp only at hK ⊢
                simp only [Act.put, List.setIfInBounds_toArray, List.set_cons_succ, List.set_cons_zero] at hK
                generalize vs 28 = vq28 at hK dq28 ⊢
                subst vq28
                generalize vs 29 = vq29 at hK dq29 ⊢
                subst vq29
                go_wp2
                exact hK _ _ rfl (Mod.refl _ _)
              refine opsOkA_cons ?_ ?_
              · intro K vs W hR hD hK
                have dq28 : vs 28 = .bool true := hD 28 (by decide)
                clear hD
                try dsimp only at hK ⊢
                simp only [Act.put, List.setIfInBounds_toArray, List.set_cons_succ, List.set_cons_zero] at hK
                generalize vs 28 = vq28 at hK dq28 ⊢
                subst vq28
                go_wp2
                exact hK _ _ rfl (Mod.refl _ _)
              refine opsOkA_cons ?_ ?_
              · intro K vs W hR hD hK
                have dq28 : vs 28 = .bool true := hD 28 (by decide)
                have dq30 : vs 30 = .bool true := hD 30 (by decide)
                have dq31 : vs 31 = .bool true := hD 31 (by decide)
                clear hD
                try dsimp only at hK ⊢
                simp only [Act.put, List.setIfInBounds_toArray, List.set_cons_succ, List.set_cons_zero] at hK
                generalize vs 28 = vq28 at hK dq28 ⊢
                subst vq28
                generalize vs 30 = vq30 at hK dq30 ⊢
                subst vq30
                generalize vs 31 = vq31 at hK dq31 ⊢
                subst vq31
                go_wp2
                exact hK _ _ rfl (Mod.refl _ _)
              refine opsOkA_cons ?_ ?_
              · intro K vs W hR hD hK
                have dq28 : vs 28 = .bool true := hD 28 (by decide)
                have dq32 : vs 32 = .bool true := hD 32 (by decide)
                clear hD
                try dsimp only at hK ⊢
                simp only [Act.put, List.setIfInBounds_toArray, List.set_cons_succ, List.set_cons_zero] at hK
                generalize vs 28 = vq28 at hK dq28 ⊢
                subst vq28
                generalize vs 32 = vq32 at hK dq32 ⊢
                subst vq32
                go_wp2
                exact hK _ _ rfl (Mod.refl _ _)
              refine opsOkA_cons ?_ ?_
              · intro K vs W hR hD hK
                have dq33 : vs 33 = .bool true := hD 33 (by decide)
                clear hD
                try dsimp only at hK ⊢
                simp only [Act.put, List.setIfInBounds_toArray, List.set_cons_succ, List.set_cons_zero] at hK
                generalize vs 33 = vq33 at hK dq33 ⊢
                subst vq33
                go_wp2
                exact hK _ _ rfl (Mod.refl _ _)
              refine opsOkA_cons ?_ ?_
              · intro K vs W hR hD hK
                have dq34 : vs 34 = .bool true := hD 34 (by decide)
                clear hD
                try dsimp only at hK ⊢
                simp only [Act.put, List.setIfInBounds_toArray, List.set_cons_succ, List.set_cons_zero] at hK
                generalize vs 34 = vq34 at hK dq34 ⊢
                subst vq34
                go_wp2
                exact hK _ _ rfl (Mod.refl _ _)
              refine opsOkA_cons ?_ ?_
              · intro K vs W hR hD hK
                have dq34 : vs 34 = .bool true := hD 34 (by decide)
                have dq35 : vs 35 = .bool true := hD 35 (by decide)
                clear hD
                try dsimp only at hK ⊢
                simp only [Act.put, List.setIfInBounds_toArray, List.set_cons_succ, List.set_cons_zero] at hK
                generalize vs 34 = vq34 at hK dq34 ⊢
                subst vq34
                generalize vs 35 = vq35 at hK dq35 ⊢
                subst vq35
                go_wp2
                exact hK _ _ rfl (Mod.refl _ _)
              refine opsOkA_cons ?_ ?_
              · intro K vs W hR hD hK
                have dq36 : vs 36 = .bool true := hD 36 (by decide)
                clear hD
                try dsimp only at hK ⊢
                simp only [Act.put, List.setIfInBounds_toArray, List.set_cons_succ, List.set_cons_zero] at hK
                generalize vs 36 = vq36 at hK dq36 ⊢
                subst vq36
                go_wp2
                exact hK _ _ rfl (Mod.refl _ _)
              refine opsOkA_cons ?_ ?_
              · intro K vs W hR hD hK
                have dq36 : vs 36 = .bool true := hD 36 (by decide)
                clear hD
                try dsimp only at hK ⊢
                simp only [Act.put, List.setIfInBounds_toArray, List.set_cons_succ, List.set_cons_zero] at hK
                generalize vs 36 = vq36 at hK dq36 ⊢
                subst vq36
                go_wp2
                exact hK _ _ rfl (Mod.refl _ _)
              refine opsOkA_cons ?_ ?_
              · intro K vs W hR hD hK
                have dq34 : vs 34 = .bool true := hD 34 (by decide)
                have dq36 : vs 36 = .bool true := hD 36 (by decide)
                have dq38 : vs 38 = undef := hD 38 (by decide)
                clear hD
                try dsimp only at hK ⊢
                simp only [Act.put, List.setIfInBounds_toArray, List.set_cons_succ, List.set_cons_zero] at hK
                generalize vs 34 = vq34 at hK dq34 ⊢
                subst vq34
                generalize vs 36 = vq36 at hK dq36 ⊢
                subst vq36
                generalize vs 38 = vq38 at hK dq38 ⊢
                subst vq38
                go_wp2
                exact hK _ _ rfl (Mod.refl _ _)
              refine opsOkA_cons ?_ ?_
              · intro K vs W hR hD hK
                have dq34 : vs 34 = .bool true := hD 34 (by decide)
                have dq39 : vs 39 = .bool true := hD 39 (by decide)
                clear hD
                try dsimp only at hK ⊢
                simp only [Act.put, List.setIfInBounds_toArray, List.set_cons_succ, List.set_cons_zero] at hK
                generalize vs 34 = vq34 at hK dq34 ⊢
                subst vq34
                generalize vs 39 = vq39 at hK dq39 ⊢
                subst vq39
                go_wp2
                exact hK _ _ rfl (Mod.refl _ _)
              refine opsOkA_cons ?_ ?_
              · intro K vs W hR hD hK
                have dq40 : vs 40 = .bool true := hD 40 (by decide)
                clear hD
                try dsimp only at hK ⊢
                simp only [Act.put, List.setIfInBounds_toArray, List.set_cons_succ, List.set_cons_zero] at hK
                generalize vs 40 = vq40 at hK dq40 ⊢
                subst vq40
                go_wp2
                exact hK _ _ rfl (Mod.refl _ _)
              refine opsOkA_cons ?_ ?_
              · intro K vs W hR hD hK
                have dq41 : vs 41 = .bool true := hD 41 (by decide)
                clear hD
                try dsimp only at hK ⊢
                simp only [Act.put, List.setIfInBounds_toArray, List.set_cons_succ, List.set_cons_zero] at hK
                generalize vs 41 = vq41 at hK dq41 ⊢
                subst vq41
                have hbx := (HSd.out.at (hR)).2.2.2.2.2.2.2.1
                have q0 := hbx.cell 0 rfl
                have q1 := hbx.cell 1 rfl
                have q2 := hbx.cell 2 rfl
                have q3 := hbx.cell 3 rfl
                have q4 := hbx.cell 4 rfl
                have q5 := hbx.cell 5 rfl
                have q6 := hbx.cell 6 rfl
                have q7 := hbx.cell 7 rfl
                have q8 := hbx.cell 8 rfl
                go_wp2
                exact hK _ _ rfl (Mod.refl _ _)
              refine opsOkA_cons ?_ ?_
              · intro K vs W hR hD hK
                have dq41 : vs 41 = .bool true := hD 41 (by decide)
                clear hD
                try dsimp only at hK ⊢
                simp only [Act.put, List.setIfInBounds_toArray, List.set_cons_succ, List.set_cons_zero] at hK
                generalize vs 41 = vq41 at hK dq41 ⊢
                subst vq41
                have hbx := (HSd.out.at (hR)).2.2.2.2.2.2.1
                have q0 := hbx.cell 0 rfl
                have q1 := hbx.cell 1 rfl
                have q2 := hbx.cell 2 rfl
                have q3 := hbx.cell 3 rfl
                have q4 := hbx.cell 4 rfl
                have q5 := hbx.cell 5 rfl
                have q6 := hbx.cell 6 rfl
                have q7 := hbx.cell 7 rfl
                have q8 := hbx.cell 8 rfl
                go_wp2
                exact hK _ _ rfl (Mod.refl _ _)
              refine opsOkA_cons ?_ ?_
              · intro K vs W hR hD hK
                have dq41 : vs 41 = .bool true := hD 41 (by decide)
                have dq42 : vs 42 = .agg #[.int .i64 mk, .int .i64 mp, .int .i64 md, .slice a n c, .int .i64 mw, .int .i64 mc, .int .i64 me, .int .i64 mf, .int .i64 ml] := hD 42 (by decide)
                have dq43 : vs 43 = .agg #[.int .i64 yk, .int .i64 yp, .int .i64 yd, .slice a2 n2 c2, .int .i64 yw, .int .i64 yc, .int .i64 yh, .int .i64 yf, .int .i64 yl] := hD 43 (by decide)
                clear hD
                try dsimp only at hK ⊢
                simp only [Act.put, List.setIfInBounds_toArray, List.set_cons_succ, List.set_cons_zero] at hK
                generalize vs 41 = vq41 at hK dq41 ⊢
                subst vq41
                generalize vs 42 = vq42 at hK dq42 ⊢
                subst vq42
                generalize vs 43 = vq43 at hK dq43 ⊢
                subst vq43
                go_wp2_with (go_at_call 15; refine (S2.out W ((HSd.out.at (hR)).2.2.2.2.2.2.2.2.2.2.1) ((HSd.out.at (hR)).2.2.2.2.2.2.2.2.2.1)).mono ?_; rintro e' w' ⟨rfl, hm'⟩)
                exact hK _ _ rfl hm'
              refine opsOkA_cons ?_ ?_
              · intro K vs W hR hD hK
                have dq41 : vs 41 = .bool true := hD 41 (by decide)
                clear hD
                try dsimp only at hK ⊢
                simp only [Act.put, List.setIfInBounds_toArray, List.set_cons_succ, List.set_cons_zero] at hK
                generalize vs 41 = vq41 at hK dq41 ⊢
                subst vq41
                have hbx := (HSd.out.at (hR)).2.2.2.2.2.2.2.1
                have q0 := hbx.cell 0 rfl
                have q1 := hbx.cell 1 rfl
                have q2 := hbx.cell 2 rfl
                have q3 := hbx.cell 3 rfl
                have q4 := hbx.cell 4 rfl
                have q5 := hbx.cell 5 rfl
                have q6 := hbx.cell 6 rfl
                have q7 := hbx.cell 7 rfl
                have q8 := hbx.cell 8 rfl
                go_wp2
                exact hK _ _ rfl (Mod.refl _ _)
              refine opsOkA_cons ?_ ?_
              · intro K vs W hR hD hK
                have dq41 : vs 41 = .bool true := hD 41 (by decide)
                clear hD
                try dsimp only at hK ⊢
                simp only [Act.put, List.setIfInBounds_toArray, List.set_cons_succ, List.set_cons_zero] at hK
                generalize vs 41 = vq41 at hK dq41 ⊢
                subst vq41
                have hbx := (HSd.out.at (hR)).2.2.2.2.2.2.1
                have q0 := hbx.cell 0 rfl
                have q1 := hbx.cell 1 rfl
                have q2 := hbx.cell 2 rfl
                have q3 := hbx.cell 3 rfl
                have q4 := hbx.cell 4 rfl
                have q5 := hbx.cell 5 rfl
                have q6 := hbx.cell 6 rfl
                have q7 := hbx.cell 7 rfl
                have q8 := hbx.cell 8 rfl
                go_wp2
                exact hK _ _ rfl (Mod.refl _ _)
              refine opsOkA_cons ?_ ?_
              · intro K vs W hR hD hK
                have dq41 : vs 41 = .bool true := hD 41 (by decide)
                have dq45 : vs 45 = .agg #[.int .i64 mk, .int .i64 mp, .int .i64 md, .slice a n c, .int .i64 mw, .int .i64 mc, .int .i64 me, .int .i64 mf, .int .i64 ml] := hD 45 (by decide)
                have dq46 : vs 46 = .agg #[.int .i64 yk, .int .i64 yp, .int .i64 yd, .slice a2 n2 c2, .int .i64 yw, .int .i64 yc, .int .i64 yh, .int .i64 yf, .int .i64 yl] := hD 46 (by decide)
                clear hD
                try dsimp only at hK ⊢
                simp only [Act.put, List.setIfInBounds_toArray, List.set_cons_succ, List.set_cons_zero] at hK
                generalize vs 41 = vq41 at hK dq41 ⊢
                subst vq41
                generalize vs 45 = vq45 at hK dq45 ⊢
                subst vq45
                generalize vs 46 = vq46 at hK dq46 ⊢
                subst vq46
                go_wp2_with (go_at_call 14; refine (S3.out W ((HSd.out.at (hR)).2.2.2.2.2.2.2.2.2.2.1) ((HSd.out.at (hR)).2.2.2.2.2.2.2.2.2.1)).mono ?_; rintro e' w' ⟨rfl, hm'⟩)
                exact hK _ _ rfl hm'
              refine opsOkA_cons ?_ ?_
              · intro K vs W hR hD hK
                have dq41 : vs 41 = .bool true := hD 41 (by decide)
                have dq44 : vs 44 = .bool smo := hD 44 (by decide)
                have dq47 : vs 47 = .bool smo := hD 47 (by decide)
                clear hD
                try dsimp only at hK ⊢
                simp only [Act.put, List.setIfInBounds_toArray, List.set_cons_succ, List.set_cons_zero] at hK
                generalize vs 41 = vq41 at hK dq41 ⊢
                subst vq41
                generalize vs 44 = vq44 at hK dq44 ⊢
                subst vq44
                generalize vs 47 = vq47 at hK dq47 ⊢
                subst vq47
                go_wp2
                exact hK _ _ rfl (Mod.refl _ _)
              refine opsOkA_cons ?_ ?_
              · intro K vs W hR hD hK
                have dq41 : vs 41 = .bool true := hD 41 (by decide)
                have dq48 : vs 48 = .bool true := hD 48 (by decide)
                clear hD
                try dsimp only at hK ⊢
                simp only [Act.put, List.setIfInBounds_toArray, List.set_cons_succ, List.set_cons_zero] at hK
                generalize vs 41 = vq41 at hK dq41 ⊢
                subst vq41
                generalize vs 48 = vq48 at hK dq48 ⊢
                subst vq48
                go_wp2
                exact hK _ _ rfl (Mod.refl _ _)
              refine opsOkA_cons ?_ ?_
              · intro K vs W hR hD hK
                have dq49 : vs 49 = .bool true := hD 49 (by decide)
                clear hD
                try dsimp only at hK ⊢
                simp only [Act.put, List.setIfInBounds_toArray, List.set_cons_succ, List.set_cons_zero] at hK
                generalize vs 49 = vq49 at hK dq49 ⊢
                subst vq49
                go_wp2
                exact hK _ _ rfl (Mod.refl _ _)
              refine opsOkA_cons ?_ ?_
              · intro K vs W hR hD hK
                have dq50 : vs 50 = .bool true := hD 50 (by decide)
                clear hD
                try dsimp only at hK ⊢
                simp only [Act.put, List.setIfInBounds_toArray, List.set_cons_succ, List.set_cons_zero] at hK
                generalize vs 50 = vq50 at hK dq50 ⊢
                subst vq50
                have hbx := (HSd.out.at (hR)).2.2.2.2.2.2.2.1
                have q0 := hbx.cell 0 rfl
                have q1 := hbx.cell 1 rfl
                have q2 := hbx.cell 2 rfl
                have q3 := hbx.cell 3 rfl
                have q4 := hbx.cell 4 rfl
                have q5 := hbx.cell 5 rfl
                have q6 := hbx.cell 6 rfl
                have q7 := hbx.cell 7 rfl
                have q8 := hbx.cell 8 rfl
                go_wp2
                exact hK _ _ rfl (Mod.refl _ _)
              refine opsOkA_cons ?_ ?_
              · intro K vs W hR hD hK
                have dq50 : vs 50 = .bool true := hD 50 (by decide)
                clear hD
                try dsimp only at hK ⊢
                simp only [Act.put, List.setIfInBounds_toArray, List.set_cons_succ, List.set_cons_zero] at hK
                generalize vs 50 = vq50 at hK dq50 ⊢
                subst vq50
                have hbx := (HSd.out.at (hR)).2.2.2.2.2.2.2.1
                have q0 := hbx.cell 0 rfl
                have q1 := hbx.cell 1 rfl
                have q2 := hbx.cell 2 rfl
                have q3 := hbx.cell 3 rfl
                have q4 := hbx.cell 4 rfl
                have q5 := hbx.cell 5 rfl
                have q6 := hbx.cell 6 rfl
                have q7 := hbx.cell 7 rfl
                have q8 := hbx.cell 8 rfl
                go_wp2
                exact hK _ _ rfl (Mod.refl _ _)
              refine opsOkA_cons ?_ ?_
              · intro K vs W hR hD hK
                have dq50 : vs 50 = .bool true := hD 50 (by decide)
                have dq51 : vs 51 = .agg #[.int .i64 mk, .int .i64 mp, .int .i64 md, .slice a n c, .int .i64 mw, .int .i64 mc, .int .i64 me, .int .i64 mf, .int .i64 ml] := hD 51 (by decide)
                have dq52 : vs 52 = .agg #[.int .i64 mk, .int .i64 mp, .int .i64 md, .slice a n c, .int .i64 mw, .int .i64 mc, .int .i64 me, .int .i64 mf, .int .i64 ml] := hD 52 (by decide)
                clear hD
                try dsimp only at hK ⊢
                simp only [Act.put, List.setIfInBounds_toArray, List.set_cons_succ, List.set_cons_zero] at hK
                generalize vs 50 = vq50 at hK dq50 ⊢
                subst vq50
                generalize vs 51 = vq51 at hK dq51 ⊢
                subst vq51
                generalize vs 52 = vq52 at hK dq52 ⊢
                subst vq52
                go_wp2_with (go_at_call 15; refine (S4.out W ((HSd.out.at (hR)).2.2.2.2.2.2.2.2.2.2.1) ((HSd.out.at (hR)).2.2.2.2.2.2.2.2.2.2.1)).mono ?_; rintro e' w' ⟨rfl, hm'⟩)
                exact hK _ _ rfl hm'
              refine opsOkA_cons ?_ ?_
              · intro K vs W hR hD hK
                have dq50 : vs 50 = .bool true := hD 50 (by decide)
                have dq53 : vs 53 = .bool true := hD 53 (by decide)
                clear hD
                try dsimp only at hK ⊢
                simp only [Act.put, List.setIfInBounds_toArray, List.set_cons_succ, List.set_cons_zero] at hK
                generalize vs 50 = vq50 at hK dq50 ⊢
                subst vq50
                generalize vs 53 = vq53 at hK dq53 ⊢
                subst vq53
                go_wp2
                exact hK _ _ rfl (Mod.refl _ _)
              refine opsOkA_cons ?_ ?_
              · intro K vs W hR hD hK
                have dq54 : vs 54 = .bool true := hD 54 (by decide)
                clear hD
                try dsimp only at hK ⊢
                simp only [Act.put, List.setIfInBounds_toArray, List.set_cons_succ, List.set_cons_zero] at hK
                generalize vs 54 = vq54 at hK dq54 ⊢
                subst vq54
                go_wp2
                exact hK _ _ rfl (Mod.refl _ _)
              refine opsOkA_cons ?_ ?_
              · intro K vs W hR hD hK
                have dq55 : vs 55 = .bool true := hD 55 (by decide)
                clear hD
                try dsimp only at hK ⊢
                simp only [Act.put, List.setIfInBounds_toArray, List.set_cons_succ, List.set_cons_zero] at hK
                generalize vs 55 = vq55 at hK dq55 ⊢
                subst vq55
                go_wp2_with (go_at_call 9; refine (awake22_any W).mono ?_; rintro e' w' ⟨rfl, hm'⟩)
                exact hK _ _ rfl hm'
              refine opsOkA_cons ?_ ?_
              · intro K vs W hR hD hK
                have dq55 : vs 55 = .bool true := hD 55 (by decide)
                have dq56 : vs 56 = .bool true := hD 56 (by decide)
                clear hD
                try dsimp only at hK ⊢
                simp only [Act.put, List.setIfInBounds_toArray, List.set_cons_succ, List.set_cons_zero] at hK
                generalize vs 55 = vq55 at hK dq55 ⊢
                subst vq55
                generalize vs 56 = vq56 at hK dq56 ⊢
                subst vq56
                go_wp2
                exact hK _ _ rfl (Mod.refl _ _)
              refine opsOkA_cons ?_ ?_
              · intro K vs W hR hD hK
                have dq57 : vs 57 = .bool true := hD 57 (by decide)
                clear hD
                try dsimp only at hK ⊢
                simp only [Act.put, List.setIfInBounds_toArray, List.set_cons_succ, List.set_cons_zero] at hK
                generalize vs 57 = vq57 at hK dq57 ⊢
                subst vq57
                go_wp2
                exact hK _ _ rfl (Mod.refl _ _)
              exact opsOkA_nil
            · intro vs wq29 hR hF
              have dq58 : vs 58 = .bool true := hF 58 (by decide)
              clear hF
              try dsimp only
              generalize vs 58 = vq58 at dq58 ⊢
              subst dq58
              replace HS := Lib.hid (HSd.out.step hR)
              clear HSd hR
              have hbbx := (HS.out.now).2.2.2.2.2.2.2.1
              have qbx_0 := hbbx.cell 0 rfl
              have qbx_1 := hbbx.cell 1 rfl
              have qbx_2 := hbbx.cell 2 rfl
              have qbx_3 := hbbx.cell 3 rfl
              have qbx_4 := hbbx.cell 4 rfl
              have qbx_5 := hbbx.cell 5 rfl
              have qbx_6 := hbbx.cell 6 rfl
              have qbx_7 := hbbx.cell 7 rfl
              have qbx_8 := hbbx.cell 8 rfl
              have lbx := hbbx.lt
              clear hbbx
              have hbby2 := (HS.out.now).2.2.2.2.2.2.1
              have qby2_0 := hbby2.cell 0 rfl
              have qby2_1 := hbby2.cell 1 rfl
              have qby2_2 := hbby2.cell 2 rfl
              have qby2_3 := hbby2.cell 3 rfl
              have qby2_4 := hbby2.cell 4 rfl
              have qby2_5 := hbby2.cell 5 rfl
              have qby2_6 := hbby2.cell 6 rfl
              have qby2_7 := hbby2.cell 7 rfl
              have qby2_8 := hbby2.cell 8 rfl
              have lby2 := hbby2.lt
              clear hbby2
              have hbbu := (HS.out.now).2.2.1
              have qbu_0 := hbbu.cell 0 rfl
              have qbu_1 := hbbu.cell 1 rfl
              have qbu_2 := hbbu.cell 2 rfl
              have qbu_3 := hbbu.cell 3 rfl
              have qbu_4 := hbbu.cell 4 rfl
              have qbu_5 := hbbu.cell 5 rfl
              have qbu_6 := hbbu.cell 6 rfl
              have qbu_7 := hbbu.cell 7 rfl
              have qbu_8 := hbbu.cell 8 rfl
              have lbu := hbbu.lt
              clear hbbu
              have hbbv := (HS.out.now).1
              have qbv_0 := hbbv.cell 0 rfl
              have qbv_1 := hbbv.cell 1 rfl
              have qbv_2 := hbbv.cell 2 rfl
              have qbv_3 := hbbv.cell 3 rfl
              have qbv_4 := hbbv.cell 4 rfl
              have qbv_5 := hbbv.cell 5 rfl
              have qbv_6 := hbbv.cell 6 rfl
              have qbv_7 := hbbv.cell 7 rfl
              have qbv_8 := hbbv.cell 8 rfl
              have lbv := hbbv.lt
              clear hbbv
              go_wp2_with fail
              go_ret
              exact ⟨rfl, (HS.out.now).2.2.2.2.2.2.2.2.2.2.2⟩
          · subst h0
            go_wp2_with fail
            refine (mdecode_any _ ab nb cb b HNB.out ((HS.out.now).2.2.2.2.1) HGB.out (by omega)).mono ?_
            rintro e wq30 ⟨a9, c9, rfl, hF, hmm⟩
            replace HS := Lib.hid (HS.out.step hmm)
            clear hmm
            rw [HD.out] at hF ⊢
            unfold msgV
            simp only at hF ⊢
            rw [HK.out] at hF ⊢
            replace HS := Lib.hid (((Ev.rd (show Rd wq30 1 (.slice a9 uL c9) uL (ue.map (Value.int .i64)) from Rd.ofOwn hF))).and HS.out)
            clear hF
            go_upto_region 6 with fail
            clear qbx_0 qbx_1 qbx_2 qbx_3 qbx_4 qbx_5 qbx_6 qbx_7 qbx_8 lbx qby2_0 qby2_1 qby2_2 qby2_3 qby2_4 qby2_5 qby2_6 qby2_7 qby2_8 lby2
            obtain ⟨bu, hbu⟩ : ∃ b, wq30.heap.size = b := ⟨_, rfl⟩
            obtain ⟨wq31, hwq31⟩ : ∃ W, World.alloc wq30 (.cells #[.int .i64 uk, .int .i64 up, .int .i64 ud, .slice a9 uL c9, .int .i64 uw, .int .i64 uc, .int .i64 uh, .int .i64 uf, .int .i64 ul] 26) = W := ⟨_, rfl⟩
            have hBbu : Blk wq31 bu 26 [.int .i64 uk, .int .i64 up, .int .i64 ud, .slice a9 uL c9, .int .i64 uw, .int .i64 uc, .int .i64 uh, .int .i64 uf, .int .i64 ul] := by rw [← hwq31, ← hbu]; exact Blk.new _ 26 [.int .i64 uk, .int .i64 up, .int .i64 ud, .slice a9 uL c9, .int .i64 uw, .int .i64 uc, .int .i64 uh, .int .i64 uf, .int .i64 ul]
            have hzbu : wq31.heap.size = bu + 1 := by rw [← hwq31, ← hbu]; exact heap_size_alloc _ _
            replace HS := Lib.hid (HS.out.step (w' := wq31) (by rw [← hwq31]; exact Mod.alloc _ _ _))
            replace HS := Lib.hid ((Ev.blk hBbu).and HS.out)
            try rw [hwq31]
            try rw [hbu]
            clear hzbu hBbu hbu hwq31
            have hbbx := (HS.out.now).2.2.2.2.2.1
            have qbx_0 := hbbx.cell 0 rfl
            have qbx_1 := hbbx.cell 1 rfl
            have qbx_2 := hbbx.cell 2 rfl
            have qbx_3 := hbbx.cell 3 rfl
            have qbx_4 := hbbx.cell 4 rfl
            have qbx_5 := hbbx.cell 5 rfl
            have qbx_6 := hbbx.cell 6 rfl
            have qbx_7 := hbbx.cell 7 rfl
            have qbx_8 := hbbx.cell 8 rfl
            have lbx := hbbx.lt
            clear hbbx
            have hbby2 := (HS.out.now).2.2.2.2.1
            have qby2_0 := hbby2.cell 0 rfl
            have qby2_1 := hbby2.cell 1 rfl
            have qby2_2 := hbby2.cell 2 rfl
            have qby2_3 := hbby2.cell 3 rfl
            have qby2_4 := hbby2.cell 4 rfl
            have qby2_5 := hbby2.cell 5 rfl
            have qby2_6 := hbby2.cell 6 rfl
            have qby2_7 := hbby2.cell 7 rfl
            have qby2_8 := hbby2.cell 8 rfl
            have lby2 := hbby2.lt
            clear hbby2
            have hbbu := (HS.out.now).1
            have qbu_0 := hbbu.cell 0 rfl
            have qbu_1 := hbbu.cell 1 rfl
            have qbu_2 := hbbu.cell 2 rfl
            have qbu_3 := hbbu.cell 3 rfl
            have qbu_4 := hbbu.cell 4 rfl
            have qbu_5 := hbbu.cell 5 rfl
            have qbu_6 := hbbu.cell 6 rfl
            have qbu_7 := hbbu.cell 7 rfl
            have qbu_8 := hbbu.cell 8 rfl
            have lbu := hbbu.lt
            clear hbbu
            go_wp2_with fail
            refine (rreadm_any _ ab nb cb b HNB.out ((HS.out.now).2.2.2.2.2.2.1) HGB.out (by omega)).mono ?_
            rintro e wq32 ⟨a8, c8, rfl, hF, hmm⟩
            replace HS := Lib.hid (HS.out.step hmm)
            clear hmm
            rw [HD.out] at hF ⊢
            unfold msgV
            simp only at hF ⊢
            rw [HK.out] at hF ⊢
            try simp only [show decide ((2 : Int) = 0) = false from rfl, decide_true, decide_false]
            replace HS := Lib.hid (((Ev.rd (show Rd wq32 1 (.slice a8 uL c8) uL (ue.map (Value.int .i64)) from Rd.ofOwn hF))).and HS.out)
            clear hF
            go_upto_region 7 with fail
            clear qbx_0 qbx_1 qbx_2 qbx_3 qbx_4 qbx_5 qbx_6 qbx_7 qbx_8 lbx qby2_0 qby2_1 qby2_2 qby2_3 qby2_4 qby2_5 qby2_6 qby2_7 qby2_8 lby2 qbu_0 qbu_1 qbu_2 qbu_3 qbu_4 qbu_5 qbu_6 qbu_7 qbu_8 lbu
            obtain ⟨bv, hbv⟩ : ∃ b, wq32.heap.size = b := ⟨_, rfl⟩
            obtain ⟨wq33, hwq33⟩ : ∃ W, World.alloc wq32 (.cells #[.int .i64 uk, .int .i64 up, .int .i64 ud, .slice a8 uL c8, .int .i64 uw, .int .i64 uc, .int .i64 uh, .int .i64 uf, .int .i64 ul] 26) = W := ⟨_, rfl⟩
            have hBbv : Blk wq33 bv 26 [.int .i64 uk, .int .i64 up, .int .i64 ud, .slice a8 uL c8, .int .i64 uw, .int .i64 uc, .int .i64 uh, .int .i64 uf, .int .i64 ul] := by rw [← hwq33, ← hbv]; exact Blk.new _ 26 [.int .i64 uk, .int .i64 up, .int .i64 ud, .slice a8 uL c8, .int .i64 uw, .int .i64 uc, .int .i64 uh, .int .i64 uf, .int .i64 ul]
            have hzbv : wq33.heap.size = bv + 1 := by rw [← hwq33, ← hbv]; exact heap_size_alloc _ _
            replace HS := Lib.hid (HS.out.step (w' := wq33) (by rw [← hwq33]; exact Mod.alloc _ _ _))
            replace HS := Lib.hid ((Ev.blk hBbv).and HS.out)
            try rw [hwq33]
            try rw [hbv]
            clear hzbv hBbv hbv hwq33
            have hbbx := (HS.out.now).2.2.2.2.2.2.2.1
            have qbx_0 := hbbx.cell 0 rfl
            have qbx_1 := hbbx.cell 1 rfl
            have qbx_2 := hbbx.cell 2 rfl
            have qbx_3 := hbbx.cell 3 rfl
            have qbx_4 := hbbx.cell 4 rfl
            have qbx_5 := hbbx.cell 5 rfl
            have qbx_6 := hbbx.cell 6 rfl
            have qbx_7 := hbbx.cell 7 rfl
            have qbx_8 := hbbx.cell 8 rfl
            have lbx := hbbx.lt
            clear hbbx
            have hbby2 := (HS.out.now).2.2.2.2.2.2.1
            have qby2_0 := hbby2.cell 0 rfl
            have qby2_1 := hbby2.cell 1 rfl
            have qby2_2 := hbby2.cell 2 rfl
            have qby2_3 := hbby2.cell 3 rfl
            have qby2_4 := hbby2.cell 4 rfl
            have qby2_5 := hbby2.cell 5 rfl
            have qby2_6 := hbby2.cell 6 rfl
            have qby2_7 := hbby2.cell 7 rfl
            have qby2_8 := hbby2.cell 8 rfl
            have lby2 := hbby2.lt
            clear hbby2
            have hbbu := (HS.out.now).2.2.1
            have qbu_0 := hbbu.cell 0 rfl
            have qbu_1 := hbbu.cell 1 rfl
            have qbu_2 := hbbu.cell 2 rfl
            have qbu_3 := hbbu.cell 3 rfl
            have qbu_4 := hbbu.cell 4 rfl
            have qbu_5 := hbbu.cell 5 rfl
            have qbu_6 := hbbu.cell 6 rfl
            have qbu_7 := hbbu.cell 7 rfl
            have qbu_8 := hbbu.cell 8 rfl
            have lbu := hbbu.lt
            clear hbbu
            have hbbv := (HS.out.now).1
            have qbv_0 := hbbv.cell 0 rfl
            have qbv_1 := hbbv.cell 1 rfl
            have qbv_2 := hbbv.cell 2 rfl
            have qbv_3 := hbbv.cell 3 rfl
            have qbv_4 := hbbv.cell 4 rfl
            have qbv_5 := hbbv.cell 5 rfl
            have qbv_6 := hbbv.cell 6 rfl
            have qbv_7 := hbbv.cell 7 rfl
            have qbv_8 := hbbv.cell 8 rfl
            have lbv := hbbv.lt
            clear hbbv
            obtain ⟨Y, hY⟩ : ∃ x, strOf bs = x := ⟨_, rfl⟩
            have HY := Lib.hid hY
            clear hY
            have S10 := fun (W : World) r1 r2 => rsamem_any W ⟨uk, up, ud, ue, uw, uc, uh, uf, ul⟩ ⟨uk, up, ud, ue, uw, uc, uh, uf, ul⟩ true (by unfold sameM; simp) a9 uL c9 HK.out r1 a8 uL c8 HK.out r2 (by omega)
            unfold msgV at S10
            simp only at S10
            have S1 := Lib.hid S10
            clear S10
            have S20 := fun (W : World) r1 r2 => msame_any W ⟨mk, mp, md, ed, mw, mc, me, mf, ml⟩ ⟨yk, yp, yd, ye, yw, yc, yh, yf, yl⟩ smo HSMO.out a n c HN.out r1 a2 n2 c2 HN2.out r2 (by omega)
            unfold msgV at S20
            simp only at S20
            have S2 := Lib.hid S20
            clear S20
            have S30 := fun (W : World) r1 r2 => rsamem_any W ⟨mk, mp, md, ed, mw, mc, me, mf, ml⟩ ⟨yk, yp, yd, ye, yw, yc, yh, yf, yl⟩ smo HSMO.out a n c HN.out r1 a2 n2 c2 HN2.out r2 (by omega)
            unfold msgV at S30
            simp only at S30
            have S3 := Lib.hid S30
            clear S30
            have S40 := fun (W : World) r1 r2 => msame_any W ⟨mk, mp, md, ed, mw, mc, me, mf, ml⟩ ⟨mk, mp, md, ed, mw, mc, me, mf, ml⟩ true (by unfold sameM; simp) a n c HN.out r1 a n c HN.out r2 (by omega)
            unfold msgV at S40
            simp only at S40
            have S4 := Lib.hid S40
            clear S40
            clear qbx_0 qbx_1 qbx_2 qbx_3 qbx_4 qbx_5 qbx_6 qbx_7 qbx_8 lbx qby2_0 qby2_1 qby2_2 qby2_3 qby2_4 qby2_5 qby2_6 qby2_7 qby2_8 lby2 qbu_0 qbu_1 qbu_2 qbu_3 qbu_4 qbu_5 qbu_6 qbu_7 qbu_8 lbu qbv_0 qbv_1 qbv_2 qbv_3 qbv_4 qbv_5 qbv_6 qbv_7 qbv_8 lbv
            have HSd := Lib.hid HS.out.drew
            refine wp_region_inv3 (act := ?actmt_r7_3) (Mod (fun _ => False)) (fun i => (mt_r7_3_F a a2 a3 a4 a9 a8 n c n2 c2 L c3 c4 uL c9 c8 mk mp md mw mc me mf ml yk yp yd yw yc yh yf yl uk up ud uw uc uh uf ul Y smo).getD i (fun _ _ => True)) (fun i => mt_r7_3_D.getD i []) (by kernel_rfl) (by kernel_rfl) (by kernel_rfl) (by kernel_rfl) (fun _ => Mod.refl _ _)
              (fun _ _ _ h k => h.trans k (fun _ _ e => e) (fun _ _ e => e)) ?hactmt_r7_3 (stable_list ?_) ?_ ?_
            case hactmt_r7_3 => intro vs; simp only [putAll, Nat.zero_add, Nat.reduceAdd, Act.put, List.setIfInBounds_toArray, List.set_cons_succ, List.set_cons_zero]; exact rfl
            · unfold mt_r7_3_F
              exact stable_cons (stable_val _) <| stable_cons (stable_val _) <| stable_cons (stable_val _) <| stable_cons (stable_val _) <| stable_cons (stable_val _) <| stable_cons (stable_val _) <| stable_cons (stable_val _) <| stable_cons (stable_val _) <| stable_cons (stable_val _) <| stable_cons (stable_val _) <| stable_cons (stable_val _) <| stable_cons (stable_val _) <| stable_cons (stable_val _) <| stable_cons (stable_val _) <| stable_cons (stable_val _) <| stable_cons (stable_val _) <| stable_cons (stable_val _) <| stable_cons (stable_val _) <| stable_cons (stable_val _) <| stable_cons (stable_val _) <| stable_cons (stable_val _) <| stable_cons (stable_val _) <| stable_cons (stable_val _) <| stable_cons (stable_val _) <| stable_cons (stable_val _) <| stable_cons (stable_val _) <| stable_cons (stable_val _) <| stable_cons (stable_val _) <| stable_cons (stable_val _) <| stable_cons (stable_val _) <| stable_cons (stable_val _) <| stable_cons (stable_val _) <| stable_cons (stable_val _) <| stable_cons (stable_val _) <| stable_cons (stable_val _) <| stable_cons (stable_val _) <| stable_cons (stable_val _) <| stable_cons (stable_val _) <| stable_cons (stable_val _) <| stable_cons (stable_val _) <| stable_cons (stable_val _) <| stable_cons (stable_val _) <| stable_cons (stable_val _) <| stable_cons (stable_val _) <| stable_cons (stable_val _) <| stable_cons (stable_val _) <| stable_cons (stable_val _) <| stable_cons (stable_val _) <| stable_cons (stable_val _) <| stable_cons (stable_val _) <| stable_cons (stable_val _) <| stable_cons (stable_val _) <| stable_cons (stable_val _) <| stable_cons (stable_val _) <| stable_cons (stable_val _) <| stable_cons (stable_val _) <| stable_cons (stable_val _) <| stable_cons (stable_val _) <| stable_cons (stable_val _) <| stable_nil
            · refine opsOkA_cons ?_ ?_
              · intro K vs W hR hD hK
                clear hD
                try dsimp only at hK ⊢
                simp only [Act.put, List.setIfInBounds_toArray, List.set_cons_succ, List.set_cons_zero] at hK
                go_wp2
                exact hK _ _ rfl (Mod.refl _ _)
              refine opsOkA_cons ?_ ?_
              · intro K vs W hR hD hK
                have dq0 : vs 0 = .slice a3 L c3 := hD 0 (by decide)
                clear hD
                try dsimp only at hK ⊢
                simp only [Act.put, List.setIfInBounds_toArray, List.set_cons_succ, List.set_cons_zero] at hK
                generalize vs 0 = vq0 at hK dq0 ⊢
                subst vq0
                have k1 := run_strS W 27 9 5 Try.underlying27 Try.underlying5 Try.underlying9 ((HSd.out.at (hR)).2.2.2.2.2.1)
                rw [HY.out] at k1
                go_wp2
                exact hK _ _ rfl (Mod.refl _ _)
              refine opsOkA_cons ?_ ?_
              · intro K vs W hR hD hK
                clear hD
                try dsimp only at hK ⊢
                simp only [Act.put, List.setIfInBounds_toArray, List.set_cons_succ, List.set_cons_zero] at hK
                go_wp2
                exact hK _ _ rfl (Mod.refl _ _)
              refine opsOkA_cons ?_ ?_
              · intro K vs W hR hD hK
                have dq2 : vs 2 = .slice a4 L c4 := hD 2 (by decide)
                clear hD
                try dsimp only at hK ⊢
                simp only [Act.put, List.setIfInBounds_toArray, List.set_cons_succ, List.set_cons_zero] at hK
                generalize vs 2 = vq2 at hK dq2 ⊢
                subst vq2
                have k1 := run_strS W 27 9 5 Try.underlying27 Try.underlying5 Try.underlying9 ((HSd.out.at (hR)).2.2.2.2.1)
                rw [HY.out] at k1
                go_wp2
                exact hK _ _ rfl (Mod.refl _ _)
              refine opsOkA_cons ?_ ?_
              · intro K vs W hR hD hK
                have dq1 : vs 1 = .string Y := hD 1 (by decide)
                have dq3 : vs 3 = .string Y := hD 3 (by decide)
                clear hD
                try dsimp only at hK ⊢
                simp only [Act.put, List.setIfInBounds_toArray, List.set_cons_succ, List.set_cons_zero] at hK
                generalize vs 1 = vq1 at hK dq1 ⊢
                subst vq1
                generalize vs 3 = vq3 at hK dq3 ⊢
                subst vq3
                go_wp2
                exact hK _ _ rfl (Mod.refl _ _)
              refine opsOkA_cons ?_ ?_
              · intro K vs W hR hD hK
                have dq4 : vs 4 = .bool true := hD 4 (by decide)
                clear hD
                try dsimp only at hK ⊢
                simp only [Act.put, List.setIfInBounds_toArray, List.set_cons_succ, List.set_cons_zero] at hK
                generalize vs 4 = vq4 at hK dq4 ⊢
                subst vq4
                go_wp2
                exact hK _ _ rfl (Mod.refl _ _)
              refine opsOkA_cons ?_ ?_
              · intro K vs W hR hD hK
                have dq5 : vs 5 = .bool true := hD 5 (by decide)
                clear hD
                try dsimp only at hK ⊢
                simp only [Act.put, List.setIfInBounds_toArray, List.set_cons_succ, List.set_cons_zero] at hK
                generalize vs 5 = vq5 at hK dq5 ⊢
                subst vq5
                go_wp2
                exact hK _ _ rfl (Mod.refl _ _)
              refine opsOkA_cons ?_ ?_
              · intro K vs W hR hD hK
                have dq5 : vs 5 = .bool true := hD 5 (by decide)
                have dq6 : vs 6 = .int .i64 0 := hD 6 (by decide)
                clear hD
                try dsimp only at hK ⊢
                simp only [Act.put, List.setIfInBounds_toArray, List.set_cons_succ, List.set_cons_zero] at hK
                generalize vs 5 = vq5 at hK dq5 ⊢
                subst vq5
                generalize vs 6 = vq6 at hK dq6 ⊢
                subst vq6
                go_wp2
                exact hK _ _ rfl (Mod.refl _ _)
              refine opsOkA_cons ?_ ?_
              · intro K vs W hR hD hK
                have dq5 : vs 5 = .bool true := hD 5 (by decide)
                clear hD
                try dsimp only at hK ⊢
                simp only [Act.put, List.setIfInBounds_toArray, List.set_cons_succ, List.set_cons_zero] at hK
                generalize vs 5 = vq5 at hK dq5 ⊢
                subst vq5
                go_wp2
                exact hK _ _ rfl (Mod.refl _ _)
              refine opsOkA_cons ?_ ?_
              · intro K vs W hR hD hK
                have dq5 : vs 5 = .bool true := hD 5 (by decide)
                have dq7 : vs 7 = .bool true := hD 7 (by decide)
                have dq8 : vs 8 = .bool true := hD 8 (by decide)
                clear hD
                try dsimp only at hK ⊢
                simp only [Act.put, List.setIfInBounds_toArray, List.set_cons_succ, List.set_cons_zero] at hK
                generalize vs 5 = vq5 at hK dq5 ⊢
                subst vq5
                generalize vs 7 = vq7 at hK dq7 ⊢
                subst vq7
                generalize vs 8 = vq8 at hK dq8 ⊢
                subst vq8
                go_wp2
                exact hK _ _ rfl (Mod.refl _ _)
              refine opsOkA_cons ?_ ?_
              · intro K vs W hR hD hK
                have dq5 : vs 5 = .bool true := hD 5 (by decide)
                have dq9 : vs 9 = .bool true := hD 9 (by decide)
                clear hD
                try dsimp only at hK ⊢
                simp only [Act.put, List.setIfInBounds_toArray, List.set_cons_succ, List.set_cons_zero] at hK
                generalize vs 5 = vq5 at hK dq5 ⊢
                subst vq5
                generalize vs 9 = vq9 at hK dq9 ⊢
                subst vq9
                go_wp2
                exact hK _ _ rfl (Mod.refl _ _)
              refine opsOkA_cons ?_ ?_
              · intro K vs W hR hD hK
                have dq10 : vs 10 = .bool true := hD 10 (by decide)
                clear hD
                try dsimp only at hK ⊢
                simp only [Act.put, List.setIfInBounds_toArray, List.set_cons_succ, List.set_cons_zero] at hK
                generalize vs 10 = vq10 at hK dq10 ⊢
                subst vq10
                go_wp2
                exact hK _ _ rfl (Mod.refl _ _)
              refine opsOkA_cons ?_ ?_
              · intro K vs W hR hD hK
                have dq11 : vs 11 = .bool true := hD 11 (by decide)
                clear hD
                try dsimp only at hK ⊢
                simp only [Act.put, List.setIfInBounds_toArray, List.set_cons_succ, List.set_cons_zero] at hK
                generalize vs 11 = vq11 at hK dq11 ⊢
                subst vq11
                go_wp2
                exact hK _ _ rfl (Mod.refl _ _)
              refine opsOkA_cons ?_ ?_
              · intro K vs W hR hD hK
                have dq11 : vs 11 = .bool true := hD 11 (by decide)
                have dq12 : vs 12 = .bool true := hD 12 (by decide)
                clear hD
                try dsimp only at hK ⊢
                simp only [Act.put, List.setIfInBounds_toArray, List.set_cons_succ, List.set_cons_zero] at hK
                generalize vs 11 = vq11 at hK dq11 ⊢
                subst vq11
                generalize vs 12 = vq12 at hK dq12 ⊢
                subst vq12
                go_wp2
                exact hK _ _ rfl (Mod.refl _ _)
              refine opsOkA_cons ?_ ?_
              · intro K vs W hR hD hK
                have dq13 : vs 13 = .bool true := hD 13 (by decide)
                clear hD
                try dsimp only at hK ⊢
                simp only [Act.put, List.setIfInBounds_toArray, List.set_cons_succ, List.set_cons_zero] at hK
                generalize vs 13 = vq13 at hK dq13 ⊢
                subst vq13
                go_wp2
                exact hK _ _ rfl (Mod.refl _ _)
              refine opsOkA_cons ?_ ?_
              · intro K vs W hR hD hK
                have dq13 : vs 13 = .bool true := hD 13 (by decide)
                clear hD
                try dsimp only at hK ⊢
                simp only [Act.put, List.setIfInBounds_toArray, List.set_cons_succ, List.set_cons_zero] at hK
                generalize vs 13 = vq13 at hK dq13 ⊢
                subst vq13
                go_wp2
                exact hK _ _ rfl (Mod.refl _ _)
              refine opsOkA_cons ?_ ?_
              · intro K vs W hR hD hK
                have dq13 : vs 13 = .bool true := hD 13 (by decide)
                clear hD
                try dsimp only at hK ⊢
                simp only [Act.put, List.setIfInBounds_toArray, List.set_cons_succ, List.set_cons_zero] at hK
                generalize vs 13 = vq13 at hK dq13 ⊢
                subst vq13
                go_wp2
                exact hK _ _ rfl (Mod.refl _ _)
              refine opsOkA_cons ?_ ?_
              · intro K vs W hR hD hK
                have dq16 : vs 16 = undef := hD 16 (by decide)
                clear hD
                try dsimp only at hK ⊢
                simp only [Act.put, List.setIfInBounds_toArray, List.set_cons_succ, List.set_cons_zero] at hK
                generalize vs 16 = vq16 at hK dq16 ⊢
                subst vq16
                go_wp2
                exact hK _ _ rfl (Mod.refl _ _)
              refine opsOkA_cons ?_ ?_
              · intro K vs W hR hD hK
                have dq16 : vs 16 = undef := hD 16 (by decide)
                clear hD
                try dsimp only at hK ⊢
                simp only [Act.put, List.setIfInBounds_toArray, List.set_cons_succ, List.set_cons_zero] at hK
                generalize vs 16 = vq16 at hK dq16 ⊢
                subst vq16
                go_wp2_with fail
                exact hK _ _ rfl (Mod.refl _ _)
              refine opsOkA_cons ?_ ?_
              · intro K vs W hR hD hK
                have dq16 : vs 16 = undef := hD 16 (by decide)
                clear hD
                try dsimp only at hK ⊢
                simp only [Act.put, List.setIfInBounds_toArray, List.set_cons_succ, List.set_cons_zero] at hK
                generalize vs 16 = vq16 at hK dq16 ⊢
                subst vq16
                go_wp2
                exact hK _ _ rfl (Mod.refl _ _)
              refine opsOkA_cons ?_ ?_
              · intro K vs W hR hD hK
                have dq13 : vs 13 = .bool true := hD 13 (by decide)
                clear hD
                try dsimp only at hK ⊢
                simp only [Act.put, List.setIfInBounds_toArray, List.set_cons_succ, List.set_cons_zero] at hK
                generalize vs 13 = vq13 at hK dq13 ⊢
                subst vq13
                go_wp2
                exact hK _ _ rfl (Mod.refl _ _)
              refine opsOkA_cons ?_ ?_
              · intro K vs W hR hD hK
                have dq11 : vs 11 = .bool true := hD 11 (by decide)
                have dq13 : vs 13 = .bool true := hD 13 (by decide)
                have dq20 : vs 20 = undef := hD 20 (by decide)
                clear hD
                try dsimp only at hK ⊢
                simp only [Act.put, List.setIfInBounds_toArray, List.set_cons_succ, List.set_cons_zero] at hK
                generalize vs 11 = vq11 at hK dq11 ⊢
                subst vq11
                generalize vs 13 = vq13 at hK dq13 ⊢
                subst vq13
                generalize vs 20 = vq20 at hK dq20 ⊢
                subst vq20
                go_wp2
                exact hK _ _ rfl (Mod.refl _ _)
              refine opsOkA_cons ?_ ?_
              · intro K vs W hR hD hK
                have dq11 : vs 11 = .bool true := hD 11 (by decide)
                have dq21 : vs 21 = .bool true := hD 21 (by decide)
                clear hD
                try dsimp only at hK ⊢
                simp only [Act.put, List.setIfInBounds_toArray, List.set_cons_succ, List.set_cons_zero] at hK
                generalize vs 11 = vq11 at hK dq11 ⊢
                subst vq11
                generalize vs 21 = vq21 at hK dq21 ⊢
                subst vq21
                go_wp2
                exact hK _ _ rfl (Mod.refl _ _)
              refine opsOkA_cons ?_ ?_
              · intro K vs W hR hD hK
                have dq22 : vs 22 = .bool true := hD 22 (by decide)
                clear hD
                try dsimp only at hK ⊢
                simp only [Act.put, List.setIfInBounds_toArray, List.set_cons_succ, List.set_cons_zero] at hK
                generalize vs 22 = vq22 at hK dq22 ⊢
                subst vq22
                go_wp2
                exact hK _ _ rfl (Mod.refl _ _)
              refine opsOkA_cons ?_ ?_
              · intro K vs W hR hD hK
                have dq23 : vs 23 = .bool true := hD 23 (by decide)
                clear hD
                try dsimp only at hK ⊢
                simp only [Act.put, List.setIfInBounds_toArray, List.set_cons_succ, List.set_cons_zero] at hK
                generalize vs 23 = vq23 at hK dq23 ⊢
                subst vq23
                have hbx := (HSd.out.at (hR)).2.2.1
                have q0 := hbx.cell 0 rfl
                have q1 := hbx.cell 1 rfl
                have q2 := hbx.cell 2 rfl
                have q3 := hbx.cell 3 rfl
                have q4 := hbx.cell 4 rfl
                have q5 := hbx.cell 5 rfl
                have q6 := hbx.cell 6 rfl
                have q7 := hbx.cell 7 rfl
                have q8 := hbx.cell 8 rfl
                go_wp2
                exact hK _ _ rfl (Mod.refl _ _)
              refine opsOkA_cons ?_ ?_
              · intro K vs W hR hD hK
                have dq23 : vs 23 = .bool true := hD 23 (by decide)
                clear hD
                try dsimp only at hK ⊢
                simp only [Act.put, List.setIfInBounds_toArray, List.set_cons_succ, List.set_cons_zero] at hK
                generalize vs 23 = vq23 at hK dq23 ⊢
                subst vq23
                have hbx := (HSd.out.at (hR)).1
                have q0 := hbx.cell 0 rfl
                have q1 := hbx.cell 1 rfl
                have q2 := hbx.cell 2 rfl
                have q3 := hbx.cell 3 rfl
                have q4 := hbx.cell 4 rfl
                have q5 := hbx.cell 5 rfl
                have q6 := hbx.cell 6 rfl
                have q7 := hbx.cell 7 rfl
                have q8 := hbx.cell 8 rfl
                go_wp2
                exact hK _ _ rfl (Mod.refl _ _)
              refine opsOkA_cons ?_ ?_
              · intro K vs W hR hD hK
                have dq23 : vs 23 = .bool true := hD 23 (by decide)
                have dq24 : vs 24 = .agg #[.int .i64 uk, .int .i64 up, .int .i64 ud, .slice a9 uL c9, .int .i64 uw, .int .i64 uc, .int .i64 uh, .int .i64 uf, .int .i64 ul] := hD 24 (by decide)
                have dq25 : vs 25 = .agg #[.int .i64 uk, .int .i64 up, .int .i64 ud, .slice a8 uL c8, .int .i64 uw, .int .i64 uc, .int .i64 uh, .int .i64 uf, .int .i64 ul] := hD 25 (by decide)
                clear hD
                try dsimp only at hK ⊢
                simp only [Act.put, List.setIfInBounds_toArray, List.set_cons_succ, List.set_cons_zero] at hK
                generalize vs 23 = vq23 at hK dq23 ⊢
                subst vq23
                generalize vs 24 = vq24 at hK dq24 ⊢
                subst vq24
                generalize vs 25 = vq25 at hK dq25 ⊢
                subst vq25
                go_wp2_with (go_at_call 14; refine (S1.out W ((HSd.out.at (hR)).2.2.2.1) ((HSd.out.at (hR)).2.1)).mono ?_; rintro e' w' ⟨rfl, hm'⟩)
                exact hK _ _ rfl hm'
              refine opsOkA_cons ?_ ?_
              · intro K vs W hR hD hK
                have dq23 : vs 23 = .bool true := hD 23 (by decide)
                have dq26 : vs 26 = .bool true := hD 26 (by decide)
                clear hD
                try dsimp only at hK ⊢
                simp only [Act.put, List.setIfInBounds_toArray, List.set_cons_succ, List.set_cons_zero] at hK
                generalize vs 23 = vq23 at hK dq23 ⊢
                subst vq23
                generalize vs 26 = vq26 at hK dq26 ⊢
                subst vq26
                go_wp2
                exact hK _ _ rfl (Mod.refl _ _)
              refine opsOkA_cons ?_ ?_
              · intro K vs W hR hD hK
                have dq27 : vs 27 = .bool true := hD 27 (by decide)
                clear hD
                try dsimp only at hK ⊢
                simp only [Act.put, List.setIfInBounds_toArray, List.set_cons_succ, List.set_cons_zero] at hK
                generalize vs 27 = vq27 at hK dq27 ⊢
                subst vq27
                go_wp2
                exact hK _ _ rfl (Mod.refl _ _)
              refine opsOkA_cons ?_ ?_
              · intro K vs W hR hD hK
                have dq28 : vs 28 = .bool true := hD 28 (by decide)
                clear hD
                try dsimp only at hK ⊢
                simp only [Act.put, List.setIfInBounds_toArray, List.set_cons_succ, List.set_cons_zero] at hK
                generalize vs 28 = vq28 at hK dq28 ⊢
                subst vq28
                go_wp2
                exact hK _ _ rfl (Mod.refl _ _)
              refine opsOkA_cons ?_ ?_
              · intro K vs W hR hD hK
                have dq28 : vs 28 = .bool true := hD 28 (by decide)
                have dq29 : vs 29 = .int .i64 2 := hD 29 (by decide)
                clear hD
                try dsimp only at hK ⊢
                simp only [Act.put, List.setIfInBounds_toArray, List.set_cons_succ, List.set_cons_zero] at hK
                generalize vs 28 = vq28 at hK dq28 ⊢
                subst vq28
                generalize vs 29 = vq29 at hK dq29 ⊢
                subst vq29
                go_wp2
                exact hK _ _ rfl (Mod.refl _ _)
              refine opsOkA_cons ?_ ?_
              · intro K vs W hR hD hK
                have dq28 : vs 28 = .bool true := hD 28 (by decide)
                clear hD
                try dsimp only at hK ⊢
                simp only [Act.put, List.setIfInBounds_toArray, List.set_cons_succ, List.set_cons_zero] at hK
                generalize vs 28 = vq28 at hK dq28 ⊢
                subst vq28
                go_wp2
                exact hK _ _ rfl (Mod.refl _ _)
              refine opsOkA_cons ?_ ?_
              · intro K vs W hR hD hK
                have dq28 : vs 28 = .bool true := hD 28 (by decide)
                have dq30 : vs 30 = .bool false := hD 30 (by decide)
                have dq31 : vs 31 = .bool false := hD 31 (by decide)
                clear hD
                try dsimp only at hK ⊢
                simp only [Act.put, List.setIfInBounds_toArray, List.set_cons_succ, List.set_cons_zero] at hK
                generalize vs 28 = vq28 at hK dq28 ⊢
                subst vq28
                generalize vs 30 = vq30 at hK dq30 ⊢
                subst vq30
                generalize vs 31 = vq31 at hK dq31 ⊢
                subst vq31
                go_wp2
                exact hK _ _ rfl (Mod.refl _ _)
              refine opsOkA_cons ?_ ?_
              · intro K vs W hR hD hK
                have dq28 : vs 28 = .bool true := hD 28 (by decide)
                have dq32 : vs 32 = .bool true := hD 32 (by decide)
                clear hD
                try dsimp only at hK ⊢
                simp only [Act.put, List.setIfInBounds_toArray, List.set_cons_succ, List.set_cons_zero] at hK
                generalize vs 28 = vq28 at hK dq28 ⊢
                subst vq28
                generalize vs 32 = vq32 at hK dq32 ⊢
                subst vq32
                go_wp2
                exact hK _ _ rfl (Mod.refl _ _)
              refine opsOkA_cons ?_ ?_
              · intro K vs W hR hD hK
                have dq33 : vs 33 = .bool true := hD 33 (by decide)
                clear hD
                try dsimp only at hK ⊢
                simp only [Act.put, List.setIfInBounds_toArray, List.set_cons_succ, List.set_cons_zero] at hK
                generalize vs 33 = vq33 at hK dq33 ⊢
                subst vq33
                go_wp2
                exact hK _ _ rfl (Mod.refl _ _)
              refine opsOkA_cons ?_ ?_
              · intro K vs W hR hD hK
                have dq34 : vs 34 = .bool true := hD 34 (by decide)
                clear hD
                try dsimp only at hK ⊢
                simp only [Act.put, List.setIfInBounds_toArray, List.set_cons_succ, List.set_cons_zero] at hK
                generalize vs 34 = vq34 at hK dq34 ⊢
                subst vq34
                go_wp2
                exact hK _ _ rfl (Mod.refl _ _)
              refine opsOkA_cons ?_ ?_
              · intro K vs W hR hD hK
                have dq34 : vs 34 = .bool true := hD 34 (by decide)
                have dq35 : vs 35 = .bool false := hD 35 (by decide)
                clear hD
                try dsimp only at hK ⊢
                simp only [Act.put, List.setIfInBounds_toArray, List.set_cons_succ, List.set_cons_zero] at hK
                generalize vs 34 = vq34 at hK dq34 ⊢
                subst vq34
                generalize vs 35 = vq35 at hK dq35 ⊢
                subst vq35
                go_wp2
                exact hK _ _ rfl (Mod.refl _ _)
              refine opsOkA_cons ?_ ?_
              · intro K vs W hR hD hK
                have dq36 : vs 36 = .bool false := hD 36 (by decide)
                clear hD
                try dsimp only at hK ⊢
                simp only [Act.put, List.setIfInBounds_toArray, List.set_cons_succ, List.set_cons_zero] at hK
                generalize vs 36 = vq36 at hK dq36 ⊢
                subst vq36
                go_wp2
                exact hK _ _ rfl (Mod.refl _ _)
              refine opsOkA_cons ?_ ?_
              · intro K vs W hR hD hK
                have dq36 : vs 36 = .bool false := hD 36 (by decide)
                have dq37 : vs 37 = .int .i64 2 := hD 37 (by decide)
                clear hD
                try dsimp only at hK ⊢
                simp only [Act.put, List.setIfInBounds_toArray, List.set_cons_succ, List.set_cons_zero] at hK
                generalize vs 36 = vq36 at hK dq36 ⊢
                subst vq36
                generalize vs 37 = vq37 at hK dq37 ⊢
                subst vq37
                go_wp2
                exact hK _ _ rfl (Mod.refl _ _)
              refine opsOkA_cons ?_ ?_
              · intro K vs W hR hD hK
                have dq34 : vs 34 = .bool true := hD 34 (by decide)
                have dq36 : vs 36 = .bool false := hD 36 (by decide)
                have dq38 : vs 38 = .bool true := hD 38 (by decide)
                clear hD
                try dsimp only at hK ⊢
                simp only [Act.put, List.setIfInBounds_toArray, List.set_cons_succ, List.set_cons_zero] at hK
                generalize vs 34 = vq34 at hK dq34 ⊢
                subst vq34
                generalize vs 36 = vq36 at hK dq36 ⊢
                subst vq36
                generalize vs 38 = vq38 at hK dq38 ⊢
                subst vq38
                go_wp2
                exact hK _ _ rfl (Mod.refl _ _)
              refine opsOkA_cons ?_ ?_
              · intro K vs W hR hD hK
                have dq34 : vs 34 = .bool true := hD 34 (by decide)
                have dq39 : vs 39 = .bool true := hD 39 (by decide)
                clear hD
                try dsimp only at hK ⊢
                simp only [Act.put, List.setIfInBounds_toArray, List.set_cons_succ, List.set_cons_zero] at hK
                generalize vs 34 = vq34 at hK dq34 ⊢
                subst vq34
                generalize vs 39 = vq39 at hK dq39 ⊢
                subst vq39
                go_wp2
                exact hK _ _ rfl (Mod.refl _ _)
              refine opsOkA_cons ?_ ?_
              · intro K vs W hR hD hK
                have dq40 : vs 40 = .bool true := hD 40 (by decide)
                clear hD
                try dsimp only at hK ⊢
                simp only [Act.put, List.setIfInBounds_toArray, List.set_cons_succ, List.set_cons_zero] at hK
                generalize vs 40 = vq40 at hK dq40 ⊢
                subst vq40
                go_wp2
                exact hK _ _ rfl (Mod.refl _ _)
              refine opsOkA_cons ?_ ?_
              · intro K vs W hR hD hK
                have dq41 : vs 41 = .bool true := hD 41 (by decide)
                clear hD
                try dsimp only at hK ⊢
                simp only [Act.put, List.setIfInBounds_toArray, List.set_cons_succ, List.set_cons_zero] at hK
                generalize vs 41 = vq41 at hK dq41 ⊢
                subst vq41
                have hbx := (HSd.out.at (hR)).2.2.2.2.2.2.2.1
                have q0 := hbx.cell 0 rfl
                have q1 := hbx.cell 1 rfl
                have q2 := hbx.cell 2 rfl
                have q3 := hbx.cell 3 rfl
                have q4 := hbx.cell 4 rfl
                have q5 := hbx.cell 5 rfl
                have q6 := hbx.cell 6 rfl
                have q7 := hbx.cell 7 rfl
                have q8 := hbx.cell 8 rfl
                go_wp2
                exact hK _ _ rfl (Mod.refl _ _)
              refine opsOkA_cons ?_ ?_
              · intro K vs W hR hD hK
                have dq41 : vs 41 = .bool true := hD 41 (by decide)
                clear hD
                try dsimp only at hK ⊢
                simp only [Act.put, List.setIfInBounds_toArray, List.set_cons_succ, List.set_cons_zero] at hK
                generalize vs 41 = vq41 at hK dq41 ⊢
                subst vq41
                have hbx := (HSd.out.at (hR)).2.2.2.2.2.2.1
                have q0 := hbx.cell 0 rfl
                have q1 := hbx.cell 1 rfl
                have q2 := hbx.cell 2 rfl
                have q3 := hbx.cell 3 rfl
                have q4 := hbx.cell 4 rfl
                have q5 := hbx.cell 5 rfl
                have q6 := hbx.cell 6 rfl
                have q7 := hbx.cell 7 rfl
                have q8 := hbx.cell 8 rfl
                go_wp2
                exact hK _ _ rfl (Mod.refl _ _)
              refine opsOkA_cons ?_ ?_
              · intro K vs W hR hD hK
                have dq41 : vs 41 = .bool true := hD 41 (by decide)
                have dq42 : vs 42 = .agg #[.int .i64 mk, .int .i64 mp, .int .i64 md, .slice a n c, .int .i64 mw, .int .i64 mc, .int .i64 me, .int .i64 mf, .int .i64 ml] := hD 42 (by decide)
                have dq43 : vs 43 = .agg #[.int .i64 yk, .int .i64 yp, .int .i64 yd, .slice a2 n2 c2, .int .i64 yw, .int .i64 yc, .int .i64 yh, .int .i64 yf, .int .i64 yl] := hD 43 (by decide)
                clear hD
                try dsimp only at hK ⊢
                simp only [Act.put, List.setIfInBounds_toArray, List.set_cons_succ, List.set_cons_zero] at hK
                generalize vs 41 = vq41 at hK dq41 ⊢
                subst vq41
                generalize vs 42 = vq42 at hK dq42 ⊢
                subst vq42
                generalize vs 43 = vq43 at hK dq43 ⊢
                subst vq43
                go_wp2_with (go_at_call 15; refine (S2.out W ((HSd.out.at (hR)).2.2.2.2.2.2.2.2.2.2.1) ((HSd.out.at (hR)).2.2.2.2.2.2.2.2.2.1)).mono ?_; rintro e' w' ⟨rfl, hm'⟩)
                exact hK _ _ rfl hm'
              refine opsOkA_cons ?_ ?_
              · intro K vs W hR hD hK
                have dq41 : vs 41 = .bool true := hD 41 (by decide)
                clear hD
                try dsimp only at hK ⊢
                simp only [Act.put, List.setIfInBounds_toArray, List.set_cons_succ, List.set_cons_zero] at hK
                generalize vs 41 = vq41 at hK dq41 ⊢
                subst vq41
                have hbx := (HSd.out.at (hR)).2.2.2.2.2.2.2.1
                have q0 := hbx.cell 0 rfl
                have q1 := hbx.cell 1 rfl
                have q2 := hbx.cell 2 rfl
                have q3 := hbx.cell 3 rfl
                have q4 := hbx.cell 4 rfl
                have q5 := hbx.cell 5 rfl
                have q6 := hbx.cell 6 rfl
                have q7 := hbx.cell 7 rfl
                have q8 := hbx.cell 8 rfl
                go_wp2
                exact hK _ _ rfl (Mod.refl _ _)
              refine opsOkA_cons ?_ ?_
              · intro K vs W hR hD hK
                have dq41 : vs 41 = .bool true := hD 41 (by decide)
                clear hD
                try dsimp only at hK ⊢
                simp only [Act.put, List.setIfInBounds_toArray, List.set_cons_succ, List.set_cons_zero] at hK
                generalize vs 41 = vq41 at hK dq41 ⊢
                subst vq41
                have hbx := (HSd.out.at (hR)).2.2.2.2.2.2.1
                have q0 := hbx.cell 0 rfl
                have q1 := hbx.cell 1 rfl
                have q2 := hbx.cell 2 rfl
                have q3 := hbx.cell 3 rfl
                have q4 := hbx.cell 4 rfl
                have q5 := hbx.cell 5 rfl
                have q6 := hbx.cell 6 rfl
                have q7 := hbx.cell 7 rfl
                have q8 := hbx.cell 8 rfl
                go_wp2
                exact hK _ _ rfl (Mod.refl _ _)
              refine opsOkA_cons ?_ ?_
              · intro K vs W hR hD hK
                have dq41 : vs 41 = .bool true := hD 41 (by decide)
                have dq45 : vs 45 = .agg #[.int .i64 mk, .int .i64 mp, .int .i64 md, .slice a n c, .int .i64 mw, .int .i64 mc, .int .i64 me, .int .i64 mf, .int .i64 ml] := hD 45 (by decide)
                have dq46 : vs 46 = .agg #[.int .i64 yk, .int .i64 yp, .int .i64 yd, .slice a2 n2 c2, .int .i64 yw, .int .i64 yc, .int .i64 yh, .int .i64 yf, .int .i64 yl] := hD 46 (by decide)
                clear hD
                try dsimp only at hK ⊢
                simp only [Act.put, List.setIfInBounds_toArray, List.set_cons_succ, List.set_cons_zero] at hK
                generalize vs 41 = vq41 at hK dq41 ⊢
                subst vq41
                generalize vs 45 = vq45 at hK dq45 ⊢
                subst vq45
                generalize vs 46 = vq46 at hK dq46 ⊢
                subst vq46
                go_wp2_with (go_at_call 14; refine (S3.out W ((HSd.out.at (hR)).2.2.2.2.2.2.2.2.2.2.1) ((HSd.out.at (hR)).2.2.2.2.2.2.2.2.2.1)).mono ?_; rintro e' w' ⟨rfl, hm'⟩)
                exact hK _ _ rfl hm'
              refine opsOkA_cons ?_ ?_
              · intro K vs W hR hD hK
                have dq41 : vs 41 = .bool true := hD 41 (by decide)
                have dq44 : vs 44 = .bool smo := hD 44 (by decide)
                have dq47 : vs 47 = .bool smo := hD 47 (by decide)
                clear hD
                try dsimp only at hK ⊢
                simp only [Act.put, List.setIfInBounds_toArray, List.set_cons_succ, List.set_cons_zero] at hK
                generalize vs 41 = vq41 at hK dq41 ⊢
                subst vq41
                generalize vs 44 = vq44 at hK dq44 ⊢
                subst vq44
                generalize vs 47 = vq47 at hK dq47 ⊢
                subst vq47
                go_wp2
                exact hK _ _ rfl (Mod.refl _ _)
              refine opsOkA_cons ?_ ?_
              · intro K vs W hR hD hK
                have dq41 : vs 41 = .bool true := hD 41 (by decide)
                have dq48 : vs 48 = .bool true := hD 48 (by decide)
                clear hD
                try dsimp only at hK ⊢
                simp only [Act.put, List.setIfInBounds_toArray, List.set_cons_succ, List.set_cons_zero] at hK
                generalize vs 41 = vq41 at hK dq41 ⊢
                subst vq41
                generalize vs 48 = vq48 at hK dq48 ⊢
                subst vq48
                go_wp2
                exact hK _ _ rfl (Mod.refl _ _)
              refine opsOkA_cons ?_ ?_
              · intro K vs W hR hD hK
                have dq49 : vs 49 = .bool true := hD 49 (by decide)
                clear hD
                try dsimp only at hK ⊢
                simp only [Act.put, List.setIfInBounds_toArray, List.set_cons_succ, List.set_cons_zero] at hK
                generalize vs 49 = vq49 at hK dq49 ⊢
                subst vq49
                go_wp2
                exact hK _ _ rfl (Mod.refl _ _)
              refine opsOkA_cons ?_ ?_
              · intro K vs W hR hD hK
                have dq50 : vs 50 = .bool true := hD 50 (by decide)
                clear hD
                try dsimp only at hK ⊢
                simp only [Act.put, List.setIfInBounds_toArray, List.set_cons_succ, List.set_cons_zero] at hK
                generalize vs 50 = vq50 at hK dq50 ⊢
                subst vq50
                have hbx := (HSd.out.at (hR)).2.2.2.2.2.2.2.1
                have q0 := hbx.cell 0 rfl
                have q1 := hbx.cell 1 rfl
                have q2 := hbx.cell 2 rfl
                have q3 := hbx.cell 3 rfl
                have q4 := hbx.cell 4 rfl
                have q5 := hbx.cell 5 rfl
                have q6 := hbx.cell 6 rfl
                have q7 := hbx.cell 7 rfl
                have q8 := hbx.cell 8 rfl
                go_wp2
                exact hK _ _ rfl (Mod.refl _ _)
              refine opsOkA_cons ?_ ?_
              · intro K vs W hR hD hK
                have dq50 : vs 50 = .bool true := hD 50 (by decide)
                clear hD
                try dsimp only at hK ⊢
                simp only [Act.put, List.setIfInBounds_toArray, List.set_cons_succ, List.set_cons_zero] at hK
                generalize vs 50 = vq50 at hK dq50 ⊢
                subst vq50
                have hbx := (HSd.out.at (hR)).2.2.2.2.2.2.2.1
                have q0 := hbx.cell 0 rfl
                have q1 := hbx.cell 1 rfl
                have q2 := hbx.cell 2 rfl
                have q3 := hbx.cell 3 rfl
                have q4 := hbx.cell 4 rfl
                have q5 := hbx.cell 5 rfl
                have q6 := hbx.cell 6 rfl
                have q7 := hbx.cell 7 rfl
                have q8 := hbx.cell 8 rfl
                go_wp2
                exact hK _ _ rfl (Mod.refl _ _)
              refine opsOkA_cons ?_ ?_
              · intro K vs W hR hD hK
                have dq50 : vs 50 = .bool true := hD 50 (by decide)
                have dq51 : vs 51 = .agg #[.int .i64 mk, .int .i64 mp, .int .i64 md, .slice a n c, .int .i64 mw, .int .i64 mc, .int .i64 me, .int .i64 mf, .int .i64 ml] := hD 51 (by decide)
                have dq52 : vs 52 = .agg #[.int .i64 mk, .int .i64 mp, .int .i64 md, .slice a n c, .int .i64 mw, .int .i64 mc, .int .i64 me, .int .i64 mf, .int .i64 ml] := hD 52 (by decide)
                clear hD
                try dsimp only at hK ⊢
                simp only [Act.put, List.setIfInBounds_toArray, List.set_cons_succ, List.set_cons_zero] at hK
                generalize vs 50 = vq50 at hK dq50 ⊢
                subst vq50
                generalize vs 51 = vq51 at hK dq51 ⊢
                subst vq51
                generalize vs 52 = vq52 at hK dq52 ⊢
                subst vq52
                go_wp2_with (go_at_call 15; refine (S4.out W ((HSd.out.at (hR)).2.2.2.2.2.2.2.2.2.2.1) ((HSd.out.at (hR)).2.2.2.2.2.2.2.2.2.2.1)).mono ?_; rintro e' w' ⟨rfl, hm'⟩)
                exact hK _ _ rfl hm'
              refine opsOkA_cons ?_ ?_
              · intro K vs W hR hD hK
                have dq50 : vs 50 = .bool true := hD 50 (by decide)
                have dq53 : vs 53 = .bool true := hD 53 (by decide)
                clear hD
                try dsimp only at hK ⊢
                simp only [Act.put, List.setIfInBounds_toArray, List.set_cons_succ, List.set_cons_zero] at hK
                generalize vs 50 = vq50 at hK dq50 ⊢
                subst vq50
                generalize vs 53 = vq53 at hK dq53 ⊢
                subst vq53
                go_wp2
                exact hK _ _ rfl (Mod.refl _ _)
              refine opsOkA_cons ?_ ?_
              · intro K vs W hR hD hK
                have dq54 : vs 54 = .bool true := hD 54 (by decide)
                clear hD
                try dsimp only at hK ⊢
                simp only [Act.put, List.setIfInBounds_toArray, List.set_cons_succ, List.set_cons_zero] at hK
                generalize vs 54 = vq54 at hK dq54 ⊢
                subst vq54
                go_wp2
                exact hK _ _ rfl (Mod.refl _ _)
              refine opsOkA_cons ?_ ?_
              · intro K vs W hR hD hK
                have dq55 : vs 55 = .bool true := hD 55 (by decide)
                clear hD
                try dsimp only at hK ⊢
                simp only [Act.put, List.setIfInBounds_toArray, List.set_cons_succ, List.set_cons_zero] at hK
                generalize vs 55 = vq55 at hK dq55 ⊢
                subst vq55
                go_wp2_with (go_at_call 9; refine (awake22_any W).mono ?_; rintro e' w' ⟨rfl, hm'⟩)
                exact hK _ _ rfl hm'
              refine opsOkA_cons ?_ ?_
              · intro K vs W hR hD hK
                have dq55 : vs 55 = .bool true := hD 55 (by decide)
                have dq56 : vs 56 = .bool true := hD 56 (by decide)
                clear hD
                try dsimp only at hK ⊢
                simp only [Act.put, List.setIfInBounds_toArray, List.set_cons_succ, List.set_cons_zero] at hK
                generalize vs 55 = vq55 at hK dq55 ⊢
                subst vq55
                generalize vs 56 = vq56 at hK dq56 ⊢
                subst vq56
                go_wp2
                exact hK _ _ rfl (Mod.refl _ _)
              refine opsOkA_cons ?_ ?_
              · intro K vs W hR hD hK
                have dq57 : vs 57 = .bool true := hD 57 (by decide)
                clear hD
                try dsimp only at hK ⊢
                simp only [Act.put, List.setIfInBounds_toArray, List.set_cons_succ, List.set_cons_zero] at hK
                generalize vs 57 = vq57 at hK dq57 ⊢
                subst vq57
                go_wp2
                exact hK _ _ rfl (Mod.refl _ _)
              exact opsOkA_nil
            · intro vs wq34 hR hF
              have dq58 : vs 58 = .bool true := hF 58 (by decide)
              clear hF
              try dsimp only
              generalize vs 58 = vq58 at dq58 ⊢
              subst dq58
              replace HS := Lib.hid (HSd.out.step hR)
              clear HSd hR
              have hbbx := (HS.out.now).2.2.2.2.2.2.2.1
              have qbx_0 := hbbx.cell 0 rfl
              have qbx_1 := hbbx.cell 1 rfl
              have qbx_2 := hbbx.cell 2 rfl
              have qbx_3 := hbbx.cell 3 rfl
              have qbx_4 := hbbx.cell 4 rfl
              have qbx_5 := hbbx.cell 5 rfl
              have qbx_6 := hbbx.cell 6 rfl
              have qbx_7 := hbbx.cell 7 rfl
              have qbx_8 := hbbx.cell 8 rfl
              have lbx := hbbx.lt
              clear hbbx
              have hbby2 := (HS.out.now).2.2.2.2.2.2.1
              have qby2_0 := hbby2.cell 0 rfl
              have qby2_1 := hbby2.cell 1 rfl
              have qby2_2 := hbby2.cell 2 rfl
              have qby2_3 := hbby2.cell 3 rfl
              have qby2_4 := hbby2.cell 4 rfl
              have qby2_5 := hbby2.cell 5 rfl
              have qby2_6 := hbby2.cell 6 rfl
              have qby2_7 := hbby2.cell 7 rfl
              have qby2_8 := hbby2.cell 8 rfl
              have lby2 := hbby2.lt
              clear hbby2
              have hbbu := (HS.out.now).2.2.1
              have qbu_0 := hbbu.cell 0 rfl
              have qbu_1 := hbbu.cell 1 rfl
              have qbu_2 := hbbu.cell 2 rfl
              have qbu_3 := hbbu.cell 3 rfl
              have qbu_4 := hbbu.cell 4 rfl
              have qbu_5 := hbbu.cell 5 rfl
              have qbu_6 := hbbu.cell 6 rfl
              have qbu_7 := hbbu.cell 7 rfl
              have qbu_8 := hbbu.cell 8 rfl
              have lbu := hbbu.lt
              clear hbbu
              have hbbv := (HS.out.now).1
              have qbv_0 := hbbv.cell 0 rfl
              have qbv_1 := hbbv.cell 1 rfl
              have qbv_2 := hbbv.cell 2 rfl
              have qbv_3 := hbbv.cell 3 rfl
              have qbv_4 := hbbv.cell 4 rfl
              have qbv_5 := hbbv.cell 5 rfl
              have qbv_6 := hbbv.cell 6 rfl
              have qbv_7 := hbbv.cell 7 rfl
              have qbv_8 := hbbv.cell 8 rfl
              have lbv := hbbv.lt
              clear hbbv
              go_wp2_with fail
              go_ret
              exact ⟨rfl, (HS.out.now).2.2.2.2.2.2.2.2.2.2.2⟩
theorem mtells_law (w : World) (cs : Array Value) (x : MsgD) (hcs : cs.toList = encMsg.img x) (ok : encMsg.ok w x) (cs2 : Array Value) (x2 : MsgD) (hcs2 : cs2.toList = encMsg.img x2) (ok2 : encMsg.ok w x2) (ab : Option Addr) (nb cb : Nat) (b : List Int) (okb : (encSlice (encInt .u8)).ok w (.slice ab nb cb, b)) :
    Calls Try.prog 3 #[.agg cs, .agg cs2, .slice ab nb cb] w fun e w' => e = .returned (.bool true) ∧ Below w.heap.size w w' := by
  obtain ⟨g, a, n, c, hv, hn, hr, hb⟩ := msg_in hcs ok
  obtain ⟨g2, a2, n2, c2, hv2, hn2, hr2, hb2⟩ := msg_in hcs2 ok2
  obtain ⟨hnb, hrb, hbb⟩ := ok_ints okb
  rw [hv, hv2]
  exact (mtells_all w g a n c hn hr hb g2 a2 n2 c2 hn2 hr2 ab nb cb b hnb hrb (u8_range hbb)).mono fun e w' h => ⟨h.1, h.2.below (Nat.le_refl _) (fun _ e => e.elim)⟩
end Go.Proofs.Ytabfmnlpipbegaa
