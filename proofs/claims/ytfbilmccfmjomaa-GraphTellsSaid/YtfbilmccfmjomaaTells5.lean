/- GraphTells walked. -/
import Derived.Test.YtfbilmccfmjomaaAwake5
import Derived.Test.YtfbilmccfmjomaaMay
import Derived.Test.YtfbilmccfmjomaaSame
import Derived.Test.YtfbilmccfmjomaaR4
import Derived.Test.YtfbilmccfmjomaaGr9
import Derived.Test.YtfbilmccfmjomaaRegion2
import Derived.Deep.DeepCutAuto
import Derived.Deep.CutBlock
namespace Go.Proofs.Ytfbilmccfmjomaa
open Go.RowKit Mile
/-- A value that reads as the graph. -/
def PlainV (n1 n2 n3 : Nat) (G : GD) : Value → World → Prop := fun v W => ∃ x1 z1 x2 z2 x3 z3, v = .agg #[.slice x1 n1 z1, .slice x2 n2 z2, .slice x3 n3 z3] ∧ GV W x1 n1 z1 x2 n2 z2 x3 n3 z3 G
theorem plainV_of {B n1 n2 n3 : Nat} {G : GD} {v : Value} {W : World} (h1 : G.N.length = n1) (h2 : G.E.length = n2) (h3 : G.B.length = n3) (h : NewGraph B G.N.length G.E.length G.B.length G v W) : PlainV n1 n2 n3 G v W := by
  obtain ⟨x1, z1, x2, z2, x3, z3, he, o1, o2, o3⟩ := h
  rw [h1] at he o1
  rw [h2] at he o2
  rw [h3] at he o3
  exact ⟨x1, z1, x2, z2, x3, z3, he, h1, h2, h3, Rd.ofOwn o1, Rd.ofOwn o2, Rd.ofOwn o3⟩
/-- What each operation of the statement leaves. -/
def tg6_F (p bx n1 d1 n2 d2 n3 d3 : Nat) (a1 a2 a3 : Option Addr) (G : GD) : List (Value → World → Prop) :=
  [IsV (.int .i64 0),
   IsV (.bool false),
   IsV (.bool false),
   IsV (.pointer (some ⟨p, 0, none⟩)),
   IsV (.bool false),
   IsV (.bool false),
   IsV (.bool false),
   IsV (.pointer (some ⟨p, 0, none⟩)),
   IsV (.int .i64 (n1 : Int)),
   IsV (.pointer (some ⟨bx, 0, none⟩)),
   IsV (.slice a1 n1 d1),
   IsV (.int .i64 (n1 : Int)),
   IsV (.bool false),
   IsV (.bool false),
   IsV (.bool false),
   IsV (.pointer (some ⟨p, 0, none⟩)),
   IsV (.int .i64 (n2 : Int)),
   IsV (.pointer (some ⟨bx, 1, none⟩)),
   IsV (.slice a2 n2 d2),
   IsV (.int .i64 (n2 : Int)),
   IsV (.bool false),
   IsV (.bool false),
   IsV (.bool false),
   IsV (.pointer (some ⟨p, 0, none⟩)),
   (PlainV n1 n2 n3 G),
   IsV (.agg #[.slice a1 n1 d1, .slice a2 n2 d2, .slice a3 n3 d3]),
   IsV (.bool true),
   IsV (.bool false),
   IsV (.bool false)]
def tg6_D : List (List Nat) := [[], [0], [1], [2], [2, 3], [2, 4], [5], [6], [6, 7], [6], [6, 9], [6, 10], [6, 8, 11], [6, 12], [13], [14], [14, 15], [14], [14, 17], [14, 18], [14, 16, 19], [14, 20], [21], [22], [22, 23], [22], [22, 24, 25], [22, 26], [22, 27]]
/-- What each operation of the statement leaves. -/
def tg10tt_F (p bx nb xb eb eo fb fo kn ke n1 d1 n2 d2 n3 d3 : Nat) (node edge va vb x y u v z : Int) (bb : Bool) (a1 a2 a3 : Option Addr) (G : GD) : List (Value → World → Prop) :=
  [IsV (.bool true),
   IsV (.agg #[.slice a1 n1 d1, .slice a2 n2 d2, .slice a3 n3 d3]),
   IsV (.int .i64 (kn : Int)),
   IsV (.bool true),
   IsV (.bool false),
   IsV (.bool false),
   IsV (.bool true),
   IsV (.bool true),
   IsV (.agg #[.int .i64 x, .int .i64 y]),
   IsV (.pointer (some ⟨bx, 0, none⟩)),
   IsV (.slice a1 n1 d1),
   IsV (.int .i64 (kn : Int)),
   IsV (.pointer (some ⟨eb, eo, none⟩)),
   IsV (.agg #[.int .i64 x, .int .i64 y]),
   IsV (.bool false),
   IsV (.bool false),
   IsV (.bool false),
   IsV (.bool false),
   IsV (.bool true),
   IsV (.agg #[.slice a1 n1 d1, .slice a2 n2 d2, .slice a3 n3 d3]),
   IsV (.int .i64 (ke : Int)),
   IsV (.bool true),
   IsV (.bool false),
   IsV (.bool false),
   IsV (.bool false),
   IsV (.bool true),
   IsV (.bool true),
   IsV (.agg #[.int .i64 u, .int .i64 v, .int .i64 z]),
   IsV (.pointer (some ⟨bx, 1, none⟩)),
   IsV (.slice a2 n2 d2),
   IsV (.int .i64 (ke : Int)),
   IsV (.pointer (some ⟨fb, fo, none⟩)),
   IsV (.agg #[.int .i64 u, .int .i64 v, .int .i64 z]),
   IsV (.bool false),
   IsV (.bool false),
   IsV (.bool false),
   IsV (.bool false),
   IsV (.pointer (some ⟨p, 0, none⟩)),
   IsV (.int .i64 va),
   IsV (.int .i64 vb),
   IsV (.bool bb),
   IsV (.agg #[.slice a1 n1 d1, .slice a2 n2 d2, .slice a3 n3 d3]),
   IsV (.int .i64 va),
   IsV (.int .i64 vb),
   IsV (.bool bb),
   IsV (.bool false),
   IsV (.bool false)]
def tg10tt_D : List (List Nat) := [[], [], [], [1, 2], [0, 3], [4], [5], [5, 6], [7], [7], [7, 9], [7], [7, 10, 11], [7, 12], [7, 8, 13], [5, 7, 14], [5, 15], [16], [17], [17], [17], [17, 19, 20], [17, 18, 21], [17, 22], [23], [24], [24, 25], [26], [26], [26, 28], [26], [26, 29, 30], [26, 31], [26, 27, 32], [24, 26, 33], [24, 34], [35], [36], [36], [36], [36, 37, 38, 39], [36], [36], [36], [36, 41, 42, 43], [36, 40, 44], [36, 45]]
/-- What each operation of the statement leaves. -/
def tg10tf_F (p bx nb xb eb eo fb fo kn ke n1 d1 n2 d2 n3 d3 : Nat) (node edge va vb x y u v z : Int) (bb : Bool) (a1 a2 a3 : Option Addr) (G : GD) : List (Value → World → Prop) :=
  [IsV (.bool true),
   IsV (.agg #[.slice a1 n1 d1, .slice a2 n2 d2, .slice a3 n3 d3]),
   IsV (.int .i64 (kn : Int)),
   IsV (.bool true),
   IsV (.bool false),
   IsV (.bool false),
   IsV (.bool true),
   IsV (.bool true),
   IsV (.agg #[.int .i64 x, .int .i64 y]),
   IsV (.pointer (some ⟨bx, 0, none⟩)),
   IsV (.slice a1 n1 d1),
   IsV (.int .i64 (kn : Int)),
   IsV (.pointer (some ⟨eb, eo, none⟩)),
   IsV (.agg #[.int .i64 x, .int .i64 y]),
   IsV (.bool false),
   IsV (.bool false),
   IsV (.bool false),
   IsV (.bool false),
   IsV (.bool false),
   IsV (.agg #[.slice a1 n1 d1, .slice a2 n2 d2, .slice a3 n3 d3]),
   IsV (.int .i64 edge),
   IsV (.bool false),
   IsV (.bool false),
   IsV (.bool false),
   IsV (.bool false),
   IsV (.bool false),
   IsV (.bool false),
   IsV (undef),
   IsV (undef),
   IsV (undef),
   IsV (undef),
   IsV (undef),
   IsV (undef),
   IsV (undef),
   IsV (.bool false),
   IsV (.bool false),
   IsV (.bool false),
   IsV (.pointer (some ⟨p, 0, none⟩)),
   IsV (.int .i64 va),
   IsV (.int .i64 vb),
   IsV (.bool bb),
   IsV (.agg #[.slice a1 n1 d1, .slice a2 n2 d2, .slice a3 n3 d3]),
   IsV (.int .i64 va),
   IsV (.int .i64 vb),
   IsV (.bool bb),
   IsV (.bool false),
   IsV (.bool false)]
def tg10tf_D : List (List Nat) := [[], [], [], [1, 2], [0, 3], [4], [5], [5, 6], [7], [7], [7, 9], [7], [7, 10, 11], [7, 12], [7, 8, 13], [5, 7, 14], [5, 15], [16], [17], [17], [17], [17, 19, 20], [17, 18, 21], [17, 22], [23], [24], [24, 25], [26], [26], [26], [26], [26], [26], [26], [24, 26, 33], [24, 34], [35], [36], [36], [36], [36, 37, 38, 39], [36], [36], [36], [36, 41, 42, 43], [36, 40, 44], [36, 45]]
/-- What each operation of the statement leaves. -/
def tg10ft_F (p bx nb xb eb eo fb fo kn ke n1 d1 n2 d2 n3 d3 : Nat) (node edge va vb x y u v z : Int) (bb : Bool) (a1 a2 a3 : Option Addr) (G : GD) : List (Value → World → Prop) :=
  [IsV (.bool false),
   IsV (.agg #[.slice a1 n1 d1, .slice a2 n2 d2, .slice a3 n3 d3]),
   IsV (.int .i64 node),
   IsV (.bool false),
   IsV (.bool false),
   IsV (.bool false),
   IsV (.bool false),
   IsV (.bool false),
   IsV (undef),
   IsV (undef),
   IsV (undef),
   IsV (undef),
   IsV (undef),
   IsV (undef),
   IsV (undef),
   IsV (.bool false),
   IsV (.bool false),
   IsV (.bool false),
   IsV (.bool true),
   IsV (.agg #[.slice a1 n1 d1, .slice a2 n2 d2, .slice a3 n3 d3]),
   IsV (.int .i64 (ke : Int)),
   IsV (.bool true),
   IsV (.bool false),
   IsV (.bool false),
   IsV (.bool false),
   IsV (.bool true),
   IsV (.bool true),
   IsV (.agg #[.int .i64 u, .int .i64 v, .int .i64 z]),
   IsV (.pointer (some ⟨bx, 1, none⟩)),
   IsV (.slice a2 n2 d2),
   IsV (.int .i64 (ke : Int)),
   IsV (.pointer (some ⟨fb, fo, none⟩)),
   IsV (.agg #[.int .i64 u, .int .i64 v, .int .i64 z]),
   IsV (.bool false),
   IsV (.bool false),
   IsV (.bool false),
   IsV (.bool false),
   IsV (.pointer (some ⟨p, 0, none⟩)),
   IsV (.int .i64 va),
   IsV (.int .i64 vb),
   IsV (.bool bb),
   IsV (.agg #[.slice a1 n1 d1, .slice a2 n2 d2, .slice a3 n3 d3]),
   IsV (.int .i64 va),
   IsV (.int .i64 vb),
   IsV (.bool bb),
   IsV (.bool false),
   IsV (.bool false)]
def tg10ft_D : List (List Nat) := [[], [], [], [1, 2], [0, 3], [4], [5], [5, 6], [7], [7], [7], [7], [7], [7], [7], [5, 7, 14], [5, 15], [16], [17], [17], [17], [17, 19, 20], [17, 18, 21], [17, 22], [23], [24], [24, 25], [26], [26], [26, 28], [26], [26, 29, 30], [26, 31], [26, 27, 32], [24, 26, 33], [24, 34], [35], [36], [36], [36], [36, 37, 38, 39], [36], [36], [36], [36, 41, 42, 43], [36, 40, 44], [36, 45]]
/-- What each operation of the statement leaves. -/
def tg10ff_F (p bx nb xb eb eo fb fo kn ke n1 d1 n2 d2 n3 d3 : Nat) (node edge va vb x y u v z : Int) (bb : Bool) (a1 a2 a3 : Option Addr) (G : GD) : List (Value → World → Prop) :=
  [IsV (.bool false),
   IsV (.agg #[.slice a1 n1 d1, .slice a2 n2 d2, .slice a3 n3 d3]),
   IsV (.int .i64 node),
   IsV (.bool false),
   IsV (.bool false),
   IsV (.bool false),
   IsV (.bool false),
   IsV (.bool false),
   IsV (undef),
   IsV (undef),
   IsV (undef),
   IsV (undef),
   IsV (undef),
   IsV (undef),
   IsV (undef),
   IsV (.bool false),
   IsV (.bool false),
   IsV (.bool false),
   IsV (.bool false),
   IsV (.agg #[.slice a1 n1 d1, .slice a2 n2 d2, .slice a3 n3 d3]),
   IsV (.int .i64 edge),
   IsV (.bool false),
   IsV (.bool false),
   IsV (.bool false),
   IsV (.bool false),
   IsV (.bool false),
   IsV (.bool false),
   IsV (undef),
   IsV (undef),
   IsV (undef),
   IsV (undef),
   IsV (undef),
   IsV (undef),
   IsV (undef),
   IsV (.bool false),
   IsV (.bool false),
   IsV (.bool false),
   IsV (.pointer (some ⟨p, 0, none⟩)),
   IsV (.int .i64 va),
   IsV (.int .i64 vb),
   IsV (.bool bb),
   IsV (.agg #[.slice a1 n1 d1, .slice a2 n2 d2, .slice a3 n3 d3]),
   IsV (.int .i64 va),
   IsV (.int .i64 vb),
   IsV (.bool bb),
   IsV (.bool false),
   IsV (.bool false)]
def tg10ff_D : List (List Nat) := [[], [], [], [1, 2], [0, 3], [4], [5], [5, 6], [7], [7], [7], [7], [7], [7], [7], [5, 7, 14], [5, 15], [16], [17], [17], [17], [17, 19, 20], [17, 18, 21], [17, 22], [23], [24], [24, 25], [26], [26], [26], [26], [26], [26], [26], [24, 26, 33], [24, 34], [35], [36], [36], [36], [36, 37, 38, 39], [36], [36], [36], [36, 41, 42, 43], [36, 40, 44], [36, 45]]
/-- What each operation of the statement leaves. -/
def tg15_F (p bx eb eo j n1 d1 n2 d2 n3 d3 : Nat) (x y : Int) (a1 a2 a3 : Option Addr) : List (Value → World → Prop) :=
  [IsV (.pointer (some ⟨p, 0, none⟩)),
   IsV (.pointer (some ⟨bx, 2, none⟩)),
   IsV (.slice a3 n3 d3),
   IsV (.int .i64 (j : Int)),
   IsV (.pointer (some ⟨eb, eo, none⟩)),
   IsV (.pointer (some ⟨eb, eo, none⟩)),
   IsV (.int .i64 x),
   IsV (.pointer (some ⟨bx, 2, none⟩)),
   IsV (.slice a3 n3 d3),
   IsV (.int .i64 (j : Int)),
   IsV (.pointer (some ⟨eb, eo, none⟩)),
   IsV (.pointer (some ⟨eb, eo + 1, none⟩)),
   IsV (.int .i64 y),
   IsV (.bool true),
   IsV (.bool false)]
def tg15_D : List (List Nat) := [[], [], [1], [], [2, 3], [4], [5], [], [7], [], [8, 9], [10], [11], [0, 6, 12], [13]]

set_option maxHeartbeats 64000000 in
set_option maxRecDepth 100000 in
theorem gtells_all (w : World) (G : GD) (a1 : Option Addr) (n1 d1 : Nat) (a2 : Option Addr) (n2 d2 : Nat) (a3 : Option Addr) (n3 d3 : Nat) (h : GV w a1 n1 d1 a2 n2 d2 a3 n3 d3 G) (node edge va vb : Int) :
    Calls Try.prog 3 #[.agg #[.slice a1 n1 d1, .slice a2 n2 d2, .slice a3 n3 d3], .int .i64 node, .int .i64 edge, .int .i64 va, .int .i64 vb] w fun e w' => e = .returned (.bool true) ∧ Mod (fun _ => False) w w' := by
  obtain ⟨iN, hiN, hzN, hsN, hbN⟩ := info_parts GR.infoN
  obtain ⟨iE, hiE, hzE, hsE, hbE⟩ := info_parts GR.infoE
  obtain ⟨iB, hiB, hzB, hsB, hbB⟩ := info_parts GR.infoB
  obtain ⟨bx, hbx⟩ : ∃ bx, w.heap.size = bx := ⟨_, rfl⟩
  obtain ⟨W0, hW0⟩ : ∃ W0, w.alloc (.cells #[.slice a1 n1 d1, .slice a2 n2 d2, .slice a3 n3 d3] 26) = W0 := ⟨_, rfl⟩
  have hM0 : Mod (fun _ => False) w W0 := by rw [← hW0]; exact Mod.alloc _ _ _
  have hB0 : Blk W0 bx 26 [.slice a1 n1 d1, .slice a2 n2 d2, .slice a3 n3 d3] := by rw [← hW0, ← hbx]; exact Blk.new w 26 [.slice a1 n1 d1, .slice a2 n2 d2, .slice a3 n3 d3]
  have HV0 : Hid (∀ W, Mod (fun _ => False) W0 W → GV W a1 n1 d1 a2 n2 d2 a3 n3 d3 G) := Lib.hid fun W hm => h.keep (hM0.trans hm (fun _ _ e => e) (fun _ _ e => e))
  have HB0 : Hid (∀ W, Mod (fun _ => False) W0 W → Blk W bx 26 [.slice a1 n1 d1, .slice a2 n2 d2, .slice a3 n3 d3]) := Lib.hid fun W hm => hB0.keep hm (fun e => e)
  have HM0 := Lib.hid hM0
  have HN := Lib.hid h.n
  have HE := Lib.hid h.e
  have HB := Lib.hid h.b
  have q0 := hB0.cell 0 rfl
  have q1 := hB0.cell 1 rfl
  have q2 := hB0.cell 2 rfl
  clear h hM0 hB0
  by_cases hf : n1 ≤ 20 ∧ n2 ≤ 50 ∧ n3 ≤ 80
  case neg =>
    have hd : decide (n1 ≤ 20 ∧ n2 ≤ 50 ∧ n3 ≤ 80) = false := decide_eq_false hf
    have HD := Lib.hid hd
    clear hf hd
    go_enter Try.func3, Try.ntmps3
    go_wp2_with fail
    refine (few_any _ a1 n1 d1 a2 n2 d2 a3 n3 d3).mono ?_
    rintro e w1 ⟨rfl, hm⟩
    rw [HD.out]
    have HM1 : Hid (Mod (fun _ => False) w w1) := Lib.hid (by first | exact HM0.out.trans hm (fun _ _ e => e) (fun _ _ e => e) | (rw [hW0] at hm; exact HM0.out.trans hm (fun _ _ e => e) (fun _ _ e => e)))
    clear hm q0 q1 q2
    go_wp2_with fail
    refine (awake_any w1).mono ?_
    rintro e w2 ⟨rfl, hm⟩
    have HM2 : Hid (Mod (fun _ => False) w w2) := Lib.hid (HM1.out.trans hm (fun _ _ e => e) (fun _ _ e => e))
    clear hm HM1
    go_wp2_with fail
    go_ret
    exact ⟨rfl, HM2.out⟩
  have hd : decide (n1 ≤ 20 ∧ n2 ≤ 50 ∧ n3 ≤ 80) = true := decide_eq_true hf
  have HD := Lib.hid hd
  obtain ⟨f1, f2, f3⟩ := hf
  clear hd
  go_enter Try.func3, Try.ntmps3
  go_wp2_with fail
  refine (few_any _ a1 n1 d1 a2 n2 d2 a3 n3 d3).mono ?_
  rintro e w1 ⟨rfl, hm⟩
  rw [HD.out]
  have HM1 : Hid (Mod (fun _ => False) W0 w1) := Lib.hid (by first | exact hm | (rw [hW0] at hm; exact hm))
  clear hm q0 q1 q2 hW0 hbx
  have hb1 := HB0.out w1 HM1.out
  have q0 := hb1.cell 0 rfl
  have q1 := hb1.cell 1 rfl
  have q2 := hb1.cell 2 rfl
  clear hb1
  go_wp2_with fail
  refine (new_any G w1 a1 n1 d1 a2 n2 d2 a3 n3 d3 (HV0.out w1 HM1.out)).mono ?_
  rintro e w2 (⟨hmay, p, rfl, hG, hm⟩ | ⟨hno, rfl, hm⟩)
  case inr =>
    have HM2 : Hid (Mod (fun _ => False) W0 w2) := Lib.hid (HM1.out.trans hm (fun _ _ e => e) (fun _ _ e => e))
    have HNO := Lib.hid hno
    clear hm q0 q1 q2 hno
    have hb1 := HB0.out w2 HM2.out
    have q0 := hb1.cell 0 rfl
    have q1 := hb1.cell 1 rfl
    have q2 := hb1.cell 2 rfl
    clear hb1
    go_wp2_with fail
    refine (rmay_any G w2 a1 n1 d1 a2 n2 d2 a3 n3 d3 (HV0.out w2 HM2.out) (by omega) (by omega) (by omega)).mono ?_
    rintro e w3 ⟨r, rfl, hr, hm⟩
    obtain rfl : r = false := by cases r with | false => rfl | true => exact absurd (hr.1 rfl) HNO.out
    have HM3 : Hid (Mod (fun _ => False) W0 w3) := Lib.hid (HM2.out.trans hm (fun _ _ e => e) (fun _ _ e => e))
    clear hm q0 q1 q2 hr
    go_wp2_with fail
    refine (awake_any w3).mono ?_
    rintro e w4 ⟨rfl, hm⟩
    have HM4 : Hid (Mod (fun _ => False) w w4) := Lib.hid (HM0.out.trans (HM3.out.trans hm (H := fun _ => False) (fun _ _ e => e) (fun _ _ e => e)) (fun _ _ e => e) (fun _ _ e => e))
    clear hm HM3
    go_wp2_with fail
    go_ret
    exact ⟨rfl, HM4.out⟩
  have HM2 : Hid (Mod (fun _ => False) W0 w2) := Lib.hid (HM1.out.trans hm (fun _ _ e => e) (fun _ _ e => e))
  have HMAY := Lib.hid hmay
  obtain ⟨B, C, hG⟩ : ∃ B C, GO w2 p B C G := ⟨_, _, hG⟩
  have HG0 : Hid (∀ W, Mod (fun _ => False) w2 W → GO W p B C G) := Lib.hid fun W h => hG.keep h (fun _ _ _ e => e)
  have hb1 := HB0.out w2 HM2.out
  clear q0 q1 q2
  have q0 := hb1.cell 0 rfl
  have q1 := hb1.cell 1 rfl
  have q2 := hb1.cell 2 rfl
  clear hm hmay hG hb1
  go_wp2_with fail
  refine (rmay_any G w2 a1 n1 d1 a2 n2 d2 a3 n3 d3 (HV0.out w2 HM2.out) (by omega) (by omega) (by omega)).mono ?_
  rintro e w3 ⟨r, rfl, hr, hm⟩
  obtain rfl : r = true := hr.2 HMAY.out
  have HM23 := Lib.hid hm
  have HM03 : Hid (Mod (fun _ => False) W0 w3) := Lib.hid (HM2.out.trans hm (fun _ _ e => e) (fun _ _ e => e))
  clear hm hr q0 q1 q2
  go_upto_region 6 with fail
  have HG : Hid (∀ W, Mod (fun _ => False) (World.drew w3) W → GO W p B C G) := Lib.hid fun W h => HG0.out W (HM23.out.thenDrew.trans h (fun _ _ e => e) (fun _ _ e => e))
  have HV : Hid (∀ W, Mod (fun _ => False) (World.drew w3) W → GV W a1 n1 d1 a2 n2 d2 a3 n3 d3 G) := Lib.hid fun W h => HV0.out W (HM03.out.thenDrew.trans h (fun _ _ e => e) (fun _ _ e => e))
  have HBX : Hid (∀ W, Mod (fun _ => False) (World.drew w3) W → Blk W bx 26 [.slice a1 n1 d1, .slice a2 n2 d2, .slice a3 n3 d3]) := Lib.hid fun W h => HB0.out W (HM03.out.thenDrew.trans h (fun _ _ e => e) (fun _ _ e => e))
  go_cut [67] (fun c wx => c = .bool false ∧ Mod (fun _ => False) w3 wx)
  case first =>
    refine wp_region_inv3 (act := ?acttg6) (Mod (fun _ => False)) (fun i => (tg6_F p bx n1 d1 n2 d2 n3 d3 a1 a2 a3 G).getD i (fun _ _ => True)) (fun i => tg6_D.getD i []) (by kernel_rfl) (by kernel_rfl) (by kernel_rfl) (by kernel_rfl) (fun _ => Mod.refl _ _)
      (fun _ _ _ h k => h.trans k (fun _ _ e => e) (fun _ _ e => e)) ?hacttg6 (stable_list ?_) ?_ ?_
    case hacttg6 => intro vs; simp only [putAll, Nat.zero_add, Nat.reduceAdd, Act.put, List.setIfInBounds_toArray, List.set_cons_succ, List.set_cons_zero]; exact rfl
    · unfold tg6_F
      exact stable_cons (stable_val _) <| stable_cons (stable_val _) <| stable_cons (stable_val _) <| stable_cons (stable_val _) <| stable_cons (stable_val _) <| stable_cons (stable_val _) <| stable_cons (stable_val _) <| stable_cons (stable_val _) <| stable_cons (stable_val _) <| stable_cons (stable_val _) <| stable_cons (stable_val _) <| stable_cons (stable_val _) <| stable_cons (stable_val _) <| stable_cons (stable_val _) <| stable_cons (stable_val _) <| stable_cons (stable_val _) <| stable_cons (stable_val _) <| stable_cons (stable_val _) <| stable_cons (stable_val _) <| stable_cons (stable_val _) <| stable_cons (stable_val _) <| stable_cons (stable_val _) <| stable_cons (stable_val _) <| stable_cons (stable_val _) <| stable_cons ((fun _ _ _ ⟨x1, z1, x2, z2, x3, z3, h, hv⟩ hm => ⟨x1, z1, x2, z2, x3, z3, h, hv.keep hm⟩)) <| stable_cons (stable_val _) <| stable_cons (stable_val _) <| stable_cons (stable_val _) <| stable_cons (stable_val _) <| stable_nil
    · refine opsOkA_cons ?_ ?_
      · intro K vs W hR hD hK
        clear hD
        try dsimp only at hK ⊢
        simp only [Act.put, List.setIfInBounds_toArray, List.set_cons_succ, List.set_cons_zero] at hK
        go_wp2
        exact hK _ _ rfl (Mod.refl _ _)
      refine opsOkA_cons ?_ ?_
      · intro K vs W hR hD hK
        have d0 : vs 0 = .int .i64 0 := hD 0 (by decide)
        clear hD
        try dsimp only at hK ⊢
        simp only [Act.put, List.setIfInBounds_toArray, List.set_cons_succ, List.set_cons_zero] at hK
        generalize vs 0 = v0 at hK d0 ⊢
        subst v0
        go_wp2
        exact hK _ _ rfl (Mod.refl _ _)
      refine opsOkA_cons ?_ ?_
      · intro K vs W hR hD hK
        have d1 : vs 1 = .bool false := hD 1 (by decide)
        clear hD
        try dsimp only at hK ⊢
        simp only [Act.put, List.setIfInBounds_toArray, List.set_cons_succ, List.set_cons_zero] at hK
        generalize vs 1 = v1 at hK d1 ⊢
        subst v1
        go_wp2
        exact hK _ _ rfl (Mod.refl _ _)
      refine opsOkA_cons ?_ ?_
      · intro K vs W hR hD hK
        have d2 : vs 2 = .bool false := hD 2 (by decide)
        clear hD
        try dsimp only at hK ⊢
        simp only [Act.put, List.setIfInBounds_toArray, List.set_cons_succ, List.set_cons_zero] at hK
        generalize vs 2 = v2 at hK d2 ⊢
        subst v2
        go_wp2
        exact hK _ _ rfl (Mod.refl _ _)
      refine opsOkA_cons ?_ ?_
      · intro K vs W hR hD hK
        have d2 : vs 2 = .bool false := hD 2 (by decide)
        have d3 : vs 3 = .pointer (some ⟨p, 0, none⟩) := hD 3 (by decide)
        clear hD
        try dsimp only at hK ⊢
        simp only [Act.put, List.setIfInBounds_toArray, List.set_cons_succ, List.set_cons_zero] at hK
        generalize vs 2 = v2 at hK d2 ⊢
        subst v2
        generalize vs 3 = v3 at hK d3 ⊢
        subst v3
        go_wp2
        exact hK _ _ rfl (Mod.refl _ _)
      refine opsOkA_cons ?_ ?_
      · intro K vs W hR hD hK
        have d2 : vs 2 = .bool false := hD 2 (by decide)
        have d4 : vs 4 = .bool false := hD 4 (by decide)
        clear hD
        try dsimp only at hK ⊢
        simp only [Act.put, List.setIfInBounds_toArray, List.set_cons_succ, List.set_cons_zero] at hK
        generalize vs 2 = v2 at hK d2 ⊢
        subst v2
        generalize vs 4 = v4 at hK d4 ⊢
        subst v4
        go_wp2
        exact hK _ _ rfl (Mod.refl _ _)
      refine opsOkA_cons ?_ ?_
      · intro K vs W hR hD hK
        have d5 : vs 5 = .bool false := hD 5 (by decide)
        clear hD
        try dsimp only at hK ⊢
        simp only [Act.put, List.setIfInBounds_toArray, List.set_cons_succ, List.set_cons_zero] at hK
        generalize vs 5 = v5 at hK d5 ⊢
        subst v5
        go_wp2
        exact hK _ _ rfl (Mod.refl _ _)
      refine opsOkA_cons ?_ ?_
      · intro K vs W hR hD hK
        have d6 : vs 6 = .bool false := hD 6 (by decide)
        clear hD
        try dsimp only at hK ⊢
        simp only [Act.put, List.setIfInBounds_toArray, List.set_cons_succ, List.set_cons_zero] at hK
        generalize vs 6 = v6 at hK d6 ⊢
        subst v6
        go_wp2
        exact hK _ _ rfl (Mod.refl _ _)
      refine opsOkA_cons ?_ ?_
      · intro K vs W hR hD hK
        have d6 : vs 6 = .bool false := hD 6 (by decide)
        have d7 : vs 7 = .pointer (some ⟨p, 0, none⟩) := hD 7 (by decide)
        clear hD
        try dsimp only at hK ⊢
        simp only [Act.put, List.setIfInBounds_toArray, List.set_cons_succ, List.set_cons_zero] at hK
        generalize vs 6 = v6 at hK d6 ⊢
        subst v6
        generalize vs 7 = v7 at hK d7 ⊢
        subst v7
        go_wp2_with (go_at_call 12; refine (nodes_any p B C W G (HG.out W hR)).mono ?_; rintro e' w' ⟨rfl, rfl⟩; rw [HN.out])
        exact hK _ _ rfl (Mod.refl _ _)
      refine opsOkA_cons ?_ ?_
      · intro K vs W hR hD hK
        have d6 : vs 6 = .bool false := hD 6 (by decide)
        clear hD
        try dsimp only at hK ⊢
        simp only [Act.put, List.setIfInBounds_toArray, List.set_cons_succ, List.set_cons_zero] at hK
        generalize vs 6 = v6 at hK d6 ⊢
        subst v6
        go_wp2
        exact hK _ _ rfl (Mod.refl _ _)
      refine opsOkA_cons ?_ ?_
      · intro K vs W hR hD hK
        have d6 : vs 6 = .bool false := hD 6 (by decide)
        have d9 : vs 9 = .pointer (some ⟨bx, 0, none⟩) := hD 9 (by decide)
        clear hD
        try dsimp only at hK ⊢
        simp only [Act.put, List.setIfInBounds_toArray, List.set_cons_succ, List.set_cons_zero] at hK
        generalize vs 6 = v6 at hK d6 ⊢
        subst v6
        generalize vs 9 = v9 at hK d9 ⊢
        subst v9
        have hbx := HBX.out W hR
        have q0 := hbx.cell 0 rfl
        have q1 := hbx.cell 1 rfl
        have q2 := hbx.cell 2 rfl
        go_wp2
        exact hK _ _ rfl (Mod.refl _ _)
      refine opsOkA_cons ?_ ?_
      · intro K vs W hR hD hK
        have d6 : vs 6 = .bool false := hD 6 (by decide)
        have d10 : vs 10 = .slice a1 n1 d1 := hD 10 (by decide)
        clear hD
        try dsimp only at hK ⊢
        simp only [Act.put, List.setIfInBounds_toArray, List.set_cons_succ, List.set_cons_zero] at hK
        generalize vs 6 = v6 at hK d6 ⊢
        subst v6
        generalize vs 10 = v10 at hK d10 ⊢
        subst v10
        go_wp2_with fail
        exact hK _ _ rfl (Mod.refl _ _)
      refine opsOkA_cons ?_ ?_
      · intro K vs W hR hD hK
        have d6 : vs 6 = .bool false := hD 6 (by decide)
        have d8 : vs 8 = .int .i64 (n1 : Int) := hD 8 (by decide)
        have d11 : vs 11 = .int .i64 (n1 : Int) := hD 11 (by decide)
        clear hD
        try dsimp only at hK ⊢
        simp only [Act.put, List.setIfInBounds_toArray, List.set_cons_succ, List.set_cons_zero] at hK
        generalize vs 6 = v6 at hK d6 ⊢
        subst v6
        generalize vs 8 = v8 at hK d8 ⊢
        subst v8
        generalize vs 11 = v11 at hK d11 ⊢
        subst v11
        go_wp2
        exact hK _ _ rfl (Mod.refl _ _)
      refine opsOkA_cons ?_ ?_
      · intro K vs W hR hD hK
        have d6 : vs 6 = .bool false := hD 6 (by decide)
        have d12 : vs 12 = .bool false := hD 12 (by decide)
        clear hD
        try dsimp only at hK ⊢
        simp only [Act.put, List.setIfInBounds_toArray, List.set_cons_succ, List.set_cons_zero] at hK
        generalize vs 6 = v6 at hK d6 ⊢
        subst v6
        generalize vs 12 = v12 at hK d12 ⊢
        subst v12
        go_wp2
        exact hK _ _ rfl (Mod.refl _ _)
      refine opsOkA_cons ?_ ?_
      · intro K vs W hR hD hK
        have d13 : vs 13 = .bool false := hD 13 (by decide)
        clear hD
        try dsimp only at hK ⊢
        simp only [Act.put, List.setIfInBounds_toArray, List.set_cons_succ, List.set_cons_zero] at hK
        generalize vs 13 = v13 at hK d13 ⊢
        subst v13
        go_wp2
        exact hK _ _ rfl (Mod.refl _ _)
      refine opsOkA_cons ?_ ?_
      · intro K vs W hR hD hK
        have d14 : vs 14 = .bool false := hD 14 (by decide)
        clear hD
        try dsimp only at hK ⊢
        simp only [Act.put, List.setIfInBounds_toArray, List.set_cons_succ, List.set_cons_zero] at hK
        generalize vs 14 = v14 at hK d14 ⊢
        subst v14
        go_wp2
        exact hK _ _ rfl (Mod.refl _ _)
      refine opsOkA_cons ?_ ?_
      · intro K vs W hR hD hK
        have d14 : vs 14 = .bool false := hD 14 (by decide)
        have d15 : vs 15 = .pointer (some ⟨p, 0, none⟩) := hD 15 (by decide)
        clear hD
        try dsimp only at hK ⊢
        simp only [Act.put, List.setIfInBounds_toArray, List.set_cons_succ, List.set_cons_zero] at hK
        generalize vs 14 = v14 at hK d14 ⊢
        subst v14
        generalize vs 15 = v15 at hK d15 ⊢
        subst v15
        go_wp2_with (go_at_call 13; refine (edges_any p B C W G (HG.out W hR)).mono ?_; rintro e' w' ⟨rfl, rfl⟩; rw [HE.out])
        exact hK _ _ rfl (Mod.refl _ _)
      refine opsOkA_cons ?_ ?_
      · intro K vs W hR hD hK
        have d14 : vs 14 = .bool false := hD 14 (by decide)
        clear hD
        try dsimp only at hK ⊢
        simp only [Act.put, List.setIfInBounds_toArray, List.set_cons_succ, List.set_cons_zero] at hK
        generalize vs 14 = v14 at hK d14 ⊢
        subst v14
        go_wp2
        exact hK _ _ rfl (Mod.refl _ _)
      refine opsOkA_cons ?_ ?_
      · intro K vs W hR hD hK
        have d14 : vs 14 = .bool false := hD 14 (by decide)
        have d17 : vs 17 = .pointer (some ⟨bx, 1, none⟩) := hD 17 (by decide)
        clear hD
        try dsimp only at hK ⊢
        simp only [Act.put, List.setIfInBounds_toArray, List.set_cons_succ, List.set_cons_zero] at hK
        generalize vs 14 = v14 at hK d14 ⊢
        subst v14
        generalize vs 17 = v17 at hK d17 ⊢
        subst v17
        have hbx := HBX.out W hR
        have q0 := hbx.cell 0 rfl
        have q1 := hbx.cell 1 rfl
        have q2 := hbx.cell 2 rfl
        go_wp2
        exact hK _ _ rfl (Mod.refl _ _)
      refine opsOkA_cons ?_ ?_
      · intro K vs W hR hD hK
        have d14 : vs 14 = .bool false := hD 14 (by decide)
        have d18 : vs 18 = .slice a2 n2 d2 := hD 18 (by decide)
        clear hD
        try dsimp only at hK ⊢
        simp only [Act.put, List.setIfInBounds_toArray, List.set_cons_succ, List.set_cons_zero] at hK
        generalize vs 14 = v14 at hK d14 ⊢
        subst v14
        generalize vs 18 = v18 at hK d18 ⊢
        subst v18
        go_wp2_with fail
        exact hK _ _ rfl (Mod.refl _ _)
      refine opsOkA_cons ?_ ?_
      · intro K vs W hR hD hK
        have d14 : vs 14 = .bool false := hD 14 (by decide)
        have d16 : vs 16 = .int .i64 (n2 : Int) := hD 16 (by decide)
        have d19 : vs 19 = .int .i64 (n2 : Int) := hD 19 (by decide)
        clear hD
        try dsimp only at hK ⊢
        simp only [Act.put, List.setIfInBounds_toArray, List.set_cons_succ, List.set_cons_zero] at hK
        generalize vs 14 = v14 at hK d14 ⊢
        subst v14
        generalize vs 16 = v16 at hK d16 ⊢
        subst v16
        generalize vs 19 = v19 at hK d19 ⊢
        subst v19
        go_wp2
        exact hK _ _ rfl (Mod.refl _ _)
      refine opsOkA_cons ?_ ?_
      · intro K vs W hR hD hK
        have d14 : vs 14 = .bool false := hD 14 (by decide)
        have d20 : vs 20 = .bool false := hD 20 (by decide)
        clear hD
        try dsimp only at hK ⊢
        simp only [Act.put, List.setIfInBounds_toArray, List.set_cons_succ, List.set_cons_zero] at hK
        generalize vs 14 = v14 at hK d14 ⊢
        subst v14
        generalize vs 20 = v20 at hK d20 ⊢
        subst v20
        go_wp2
        exact hK _ _ rfl (Mod.refl _ _)
      refine opsOkA_cons ?_ ?_
      · intro K vs W hR hD hK
        have d21 : vs 21 = .bool false := hD 21 (by decide)
        clear hD
        try dsimp only at hK ⊢
        simp only [Act.put, List.setIfInBounds_toArray, List.set_cons_succ, List.set_cons_zero] at hK
        generalize vs 21 = v21 at hK d21 ⊢
        subst v21
        go_wp2
        exact hK _ _ rfl (Mod.refl _ _)
      refine opsOkA_cons ?_ ?_
      · intro K vs W hR hD hK
        have d22 : vs 22 = .bool false := hD 22 (by decide)
        clear hD
        try dsimp only at hK ⊢
        simp only [Act.put, List.setIfInBounds_toArray, List.set_cons_succ, List.set_cons_zero] at hK
        generalize vs 22 = v22 at hK d22 ⊢
        subst v22
        go_wp2
        exact hK _ _ rfl (Mod.refl _ _)
      refine opsOkA_cons ?_ ?_
      · intro K vs W hR hD hK
        have d22 : vs 22 = .bool false := hD 22 (by decide)
        have d23 : vs 23 = .pointer (some ⟨p, 0, none⟩) := hD 23 (by decide)
        clear hD
        try dsimp only at hK ⊢
        simp only [Act.put, List.setIfInBounds_toArray, List.set_cons_succ, List.set_cons_zero] at hK
        generalize vs 22 = v22 at hK d22 ⊢
        subst v22
        generalize vs 23 = v23 at hK d23 ⊢
        subst v23
        go_wp2_with (go_at_call 15; refine (plain_any p B C W G (HG.out W hR)).mono ?_; rintro e' w' ⟨v', rfl, hp', hm'⟩)
        exact hK _ _ (plainV_of HN.out HE.out HB.out hp') hm'
      refine opsOkA_cons ?_ ?_
      · intro K vs W hR hD hK
        have d22 : vs 22 = .bool false := hD 22 (by decide)
        clear hD
        try dsimp only at hK ⊢
        simp only [Act.put, List.setIfInBounds_toArray, List.set_cons_succ, List.set_cons_zero] at hK
        generalize vs 22 = v22 at hK d22 ⊢
        subst v22
        have hbx := HBX.out W hR
        have q0 := hbx.cell 0 rfl
        have q1 := hbx.cell 1 rfl
        have q2 := hbx.cell 2 rfl
        go_wp2
        exact hK _ _ rfl (Mod.refl _ _)
      refine opsOkA_cons ?_ ?_
      · intro K vs W hR hD hK
        have d22 : vs 22 = .bool false := hD 22 (by decide)
        have d24 : (PlainV n1 n2 n3 G) (vs 24) W := hD 24 (by decide)
        have d25 : vs 25 = .agg #[.slice a1 n1 d1, .slice a2 n2 d2, .slice a3 n3 d3] := hD 25 (by decide)
        clear hD
        try dsimp only at hK ⊢
        simp only [Act.put, List.setIfInBounds_toArray, List.set_cons_succ, List.set_cons_zero] at hK
        generalize vs 22 = v22 at hK d22 ⊢
        subst v22
        generalize vs 24 = v24 at hK d24 ⊢
        generalize vs 25 = v25 at hK d25 ⊢
        subst v25
        obtain ⟨x1, z1, x2, z2, x3, z3, rfl, hv'⟩ := d24
        go_wp2_with (go_at_call 14; refine (same_any G W x1 n1 z1 x2 n2 z2 x3 n3 z3 hv' a1 d1 a2 d2 a3 d3 (HV.out W hR) (by omega) (by omega) (by omega)).mono ?_; rintro e' w' ⟨rfl, hm'⟩)
        exact hK _ _ rfl hm'
      refine opsOkA_cons ?_ ?_
      · intro K vs W hR hD hK
        have d22 : vs 22 = .bool false := hD 22 (by decide)
        have d26 : vs 26 = .bool true := hD 26 (by decide)
        clear hD
        try dsimp only at hK ⊢
        simp only [Act.put, List.setIfInBounds_toArray, List.set_cons_succ, List.set_cons_zero] at hK
        generalize vs 22 = v22 at hK d22 ⊢
        subst v22
        generalize vs 26 = v26 at hK d26 ⊢
        subst v26
        go_wp2
        exact hK _ _ rfl (Mod.refl _ _)
      refine opsOkA_cons ?_ ?_
      · intro K vs W hR hD hK
        have d22 : vs 22 = .bool false := hD 22 (by decide)
        have d27 : vs 27 = .bool false := hD 27 (by decide)
        clear hD
        try dsimp only at hK ⊢
        simp only [Act.put, List.setIfInBounds_toArray, List.set_cons_succ, List.set_cons_zero] at hK
        generalize vs 22 = v22 at hK d22 ⊢
        subst v22
        generalize vs 27 = v27 at hK d27 ⊢
        subst v27
        go_wp2
        exact hK _ _ rfl (Mod.refl _ _)
      exact opsOkA_nil
    · intro vs W hR hF
      have d28 : vs 28 = .bool false := hF 28 (by decide)
      clear hF
      try dsimp only
      generalize vs 28 = v28 at d28 ⊢
      subst d28
      go_wp2_with fail
      go_meet
      exact ⟨rfl, (Mod.drew _ _).trans hR (fun _ _ e => e) (fun _ _ e => e)⟩
  case rest =>
    obtain ⟨rfl, hm⟩ := hcut
    have HM2c : Hid (Mod (fun _ => False) w2 wc) := Lib.hid (HM23.out.trans hm (fun _ _ e => e) (fun _ _ e => e))
    have HM0c : Hid (Mod (fun _ => False) W0 wc) := Lib.hid (HM03.out.trans hm (fun _ _ e => e) (fun _ _ e => e))
    clear hm HG HV HBX HM23 HM03
    go_wp2_with fail
    refine (node_any p B C wc G (HG0.out wc HM2c.out) node).mono ?_
    rintro e w4 ⟨rfl, hm4⟩
    obtain ⟨x, hx⟩ : ∃ x, (if 0 ≤ node ∧ node < (G.N.length : Int) then nAt G node else (0, 0)).1 = x := ⟨_, rfl⟩
    obtain ⟨y, hy⟩ : ∃ y, (if 0 ≤ node ∧ node < (G.N.length : Int) then nAt G node else (0, 0)).2 = y := ⟨_, rfl⟩
    obtain ⟨okn, hokn⟩ : ∃ b, decide (0 ≤ node ∧ node < (G.N.length : Int)) = b := ⟨_, rfl⟩
    rw [hx, hy, hokn]
    have HX := Lib.hid hx
    have HY := Lib.hid hy
    have HON := Lib.hid hokn
    have HM24 : Hid (Mod (fun _ => False) w2 w4) := Lib.hid (HM2c.out.trans hm4 (fun _ _ e => e) (fun _ _ e => e))
    have HM04 : Hid (Mod (fun _ => False) W0 w4) := Lib.hid (HM0c.out.trans hm4 (fun _ _ e => e) (fun _ _ e => e))
    clear hm4 HM2c HM0c hx hy hokn
    go_wp2_with fail
    obtain ⟨nb, hnb⟩ : ∃ nb, w4.heap.size = nb := ⟨_, rfl⟩
    obtain ⟨W5, hW5⟩ : ∃ W, w4.alloc (.cells #[.int .i64 x, .int .i64 y] 37) = W := ⟨_, rfl⟩
    have hB1 : Blk W5 nb 37 [.int .i64 x, .int .i64 y] := by rw [← hW5, ← hnb]; exact Blk.new w4 37 [.int .i64 x, .int .i64 y]
    have HNB0 : Hid (∀ W, Mod (fun _ => False) W5 W → Blk W nb 37 [.int .i64 x, .int .i64 y]) := Lib.hid fun W h => hB1.keep h (fun e => e)
    have HM25 : Hid (Mod (fun _ => False) w2 W5) := Lib.hid (by rw [← hW5]; exact HM24.out.thenAlloc _)
    have HM05 : Hid (Mod (fun _ => False) W0 W5) := Lib.hid (by rw [← hW5]; exact HM04.out.thenAlloc _)
    rw [hW5, hnb]
    clear hW5 hnb hB1 HM24 HM04
    refine (edge_any p B C W5 G (HG0.out W5 HM25.out) edge).mono ?_
    rintro e w6 ⟨rfl, hm4⟩
    obtain ⟨u, hu⟩ : ∃ x, (if 0 ≤ edge ∧ edge < (G.E.length : Int) then eAt G edge else (0, 0, 0)).1 = x := ⟨_, rfl⟩
    obtain ⟨v, hv⟩ : ∃ x, (if 0 ≤ edge ∧ edge < (G.E.length : Int) then eAt G edge else (0, 0, 0)).2.1 = x := ⟨_, rfl⟩
    obtain ⟨z, hz⟩ : ∃ x, (if 0 ≤ edge ∧ edge < (G.E.length : Int) then eAt G edge else (0, 0, 0)).2.2 = x := ⟨_, rfl⟩
    obtain ⟨oke, hoke⟩ : ∃ b, decide (0 ≤ edge ∧ edge < (G.E.length : Int)) = b := ⟨_, rfl⟩
    rw [hu, hv, hz, hoke]
    have HU := Lib.hid hu
    have HVV := Lib.hid hv
    have HZ := Lib.hid hz
    have HOE := Lib.hid hoke
    have HM26 : Hid (Mod (fun _ => False) w2 w6) := Lib.hid (HM25.out.trans hm4 (fun _ _ e => e) (fun _ _ e => e))
    have HM06 : Hid (Mod (fun _ => False) W0 w6) := Lib.hid (HM05.out.trans hm4 (fun _ _ e => e) (fun _ _ e => e))
    have HM56 : Hid (Mod (fun _ => False) W5 w6) := Lib.hid hm4
    clear hm4 HM25 HM05 hu hv hz hoke
    go_wp2_with fail
    obtain ⟨xb, hxb⟩ : ∃ xb, w6.heap.size = xb := ⟨_, rfl⟩
    obtain ⟨W7, hW7⟩ : ∃ W, w6.alloc (.cells #[.int .i64 u, .int .i64 v, .int .i64 z] 41) = W := ⟨_, rfl⟩
    have hB1 : Blk W7 xb 41 [.int .i64 u, .int .i64 v, .int .i64 z] := by rw [← hW7, ← hxb]; exact Blk.new w6 41 [.int .i64 u, .int .i64 v, .int .i64 z]
    have HM27 : Hid (Mod (fun _ => False) w2 W7) := Lib.hid (by rw [← hW7]; exact HM26.out.thenAlloc _)
    have HM07 : Hid (Mod (fun _ => False) W0 W7) := Lib.hid (by rw [← hW7]; exact HM06.out.thenAlloc _)
    have HM57 : Hid (Mod (fun _ => False) W5 W7) := Lib.hid (by rw [← hW7]; exact HM56.out.thenAlloc _)
    have HG : Hid (∀ W, Mod (fun _ => False) (World.drew W7) W → GO W p B C G) := Lib.hid fun W h => HG0.out W (HM27.out.thenDrew.trans h (fun _ _ e => e) (fun _ _ e => e))
    have HV : Hid (∀ W, Mod (fun _ => False) (World.drew W7) W → GV W a1 n1 d1 a2 n2 d2 a3 n3 d3 G) := Lib.hid fun W h => HV0.out W (HM07.out.thenDrew.trans h (fun _ _ e => e) (fun _ _ e => e))
    have HBX : Hid (∀ W, Mod (fun _ => False) (World.drew W7) W → Blk W bx 26 [.slice a1 n1 d1, .slice a2 n2 d2, .slice a3 n3 d3]) := Lib.hid fun W h => HB0.out W (HM07.out.thenDrew.trans h (fun _ _ e => e) (fun _ _ e => e))
    have HNB : Hid (∀ W, Mod (fun _ => False) (World.drew W7) W → Blk W nb 37 [.int .i64 x, .int .i64 y]) := Lib.hid fun W h => HNB0.out W (HM57.out.thenDrew.trans h (fun _ _ e => e) (fun _ _ e => e))
    have HXB : Hid (∀ W, Mod (fun _ => False) (World.drew W7) W → Blk W xb 41 [.int .i64 u, .int .i64 v, .int .i64 z]) := Lib.hid fun W h => hB1.drew.keep h (fun e => e)
    obtain ⟨bb, hbb⟩ : ∃ b, decide ((va, vb) ∈ G.B) = b := ⟨_, rfl⟩
    have HBB := Lib.hid hbb
    rw [hW7, hxb]
    clear hW7 hxb hB1 HM26 HM06 HM56 HNB0 hbb
    go_upto_region 10 with fail
    go_cut [126] (fun c wx => c = .bool false ∧ Mod (fun _ => False) W7 wx)
    case first =>
      have hvv := HV.out (World.drew W7) (Mod.refl _ _)
      cases okn with
      | true =>
        have hk := of_decide_eq_true HON.out
        obtain ⟨kn, rfl⟩ := Int.eq_ofNat_of_zero_le hk.1
        have hkl : kn < G.N.length := by omega
        have hxx := HX.out
        have hyy := HY.out
        rw [if_pos hk, nAt_eq G kn hkl] at hxx hyy
        obtain ⟨eb, eo, hpl, e1, e2⟩ := rd2 hvv.rn kn hkl
        rw [hxx] at e1
        rw [hyy] at e2
        have hixn := fun wx => run_indexS (P := Try.prog) wx 22 37 iN 2 Try.underlying22 hiN hsN a1 n1 d1 kn (by rw [← HN.out]; exact hkl) (hvv.rn.some_ (by rw [← HN.out]; omega))
        rw [hpl] at hixn
        have HIN := Lib.hid hixn
        have HEN : Hid (∀ W, Mod (fun _ => False) (World.drew W7) W → W.cell? ⟨eb, eo, none⟩ = some (.int .i64 x) ∧ W.cell? ⟨eb, eo + 1, none⟩ = some (.int .i64 y)) := Lib.hid fun W hm => ⟨hm.cell e1 (fun e => e), hm.cell e2 (fun e => e)⟩
        clear hk hkl hxx hyy hpl e1 e2 hixn
        cases oke with
        | true =>
          have hk := of_decide_eq_true HOE.out
          obtain ⟨ke, rfl⟩ := Int.eq_ofNat_of_zero_le hk.1
          have hkl : ke < G.E.length := by omega
          have huu := HU.out
          have hvv2 := HVV.out
          have hzz := HZ.out
          rw [if_pos hk, eAt_eq G ke hkl] at huu hvv2 hzz
          obtain ⟨fb, fo, hpl, e1, e2, e3⟩ := rd3 hvv.re ke hkl
          rw [huu] at e1
          rw [hvv2] at e2
          rw [hzz] at e3
          have hixe := fun wx => run_indexS (P := Try.prog) wx 23 41 iE 3 Try.underlying23 hiE hsE a2 n2 d2 ke (by rw [← HE.out]; exact hkl) (hvv.re.some_ (by rw [← HE.out]; omega))
          rw [hpl] at hixe
          have HIE := Lib.hid hixe
          have HEE : Hid (∀ W, Mod (fun _ => False) (World.drew W7) W → W.cell? ⟨fb, fo, none⟩ = some (.int .i64 u) ∧ W.cell? ⟨fb, fo + 1, none⟩ = some (.int .i64 v) ∧ W.cell? ⟨fb, fo + 2, none⟩ = some (.int .i64 z)) := Lib.hid fun W hm => ⟨hm.cell e1 (fun e => e), hm.cell e2 (fun e => e), hm.cell e3 (fun e => e)⟩
          clear hk hkl huu hvv2 hzz hpl e1 e2 e3 hixe hvv
          refine wp_region_inv3 (act := ?acttg10tt) (Mod (fun _ => False)) (fun i => (tg10tt_F p bx nb xb eb eo fb fo kn ke n1 d1 n2 d2 n3 d3 0 0 va vb x y u v z bb a1 a2 a3 G).getD i (fun _ _ => True)) (fun i => tg10tt_D.getD i []) (by kernel_rfl) (by kernel_rfl) (by kernel_rfl) (by kernel_rfl) (fun _ => Mod.refl _ _)
            (fun _ _ _ h k => h.trans k (fun _ _ e => e) (fun _ _ e => e)) ?hacttg10tt (stable_list ?_) ?_ ?_
          case hacttg10tt => intro vs; simp only [putAll, Nat.zero_add, Nat.reduceAdd, Act.put, List.setIfInBounds_toArray, List.set_cons_succ, List.set_cons_zero]; exact rfl
          · unfold tg10tt_F
            exact stable_cons (stable_val _) <| stable_cons (stable_val _) <| stable_cons (stable_val _) <| stable_cons (stable_val _) <| stable_cons (stable_val _) <| stable_cons (stable_val _) <| stable_cons (stable_val _) <| stable_cons (stable_val _) <| stable_cons (stable_val _) <| stable_cons (stable_val _) <| stable_cons (stable_val _) <| stable_cons (stable_val _) <| stable_cons (stable_val _) <| stable_cons (stable_val _) <| stable_cons (stable_val _) <| stable_cons (stable_val _) <| stable_cons (stable_val _) <| stable_cons (stable_val _) <| stable_cons (stable_val _) <| stable_cons (stable_val _) <| stable_cons (stable_val _) <| stable_cons (stable_val _) <| stable_cons (stable_val _) <| stable_cons (stable_val _) <| stable_cons (stable_val _) <| stable_cons (stable_val _) <| stable_cons (stable_val _) <| stable_cons (stable_val _) <| stable_cons (stable_val _) <| stable_cons (stable_val _) <| stable_cons (stable_val _) <| stable_cons (stable_val _) <| stable_cons (stable_val _) <| stable_cons (stable_val _) <| stable_cons (stable_val _) <| stable_cons (stable_val _) <| stable_cons (stable_val _) <| stable_cons (stable_val _) <| stable_cons (stable_val _) <| stable_cons (stable_val _) <| stable_cons (stable_val _) <| stable_cons (stable_val _) <| stable_cons (stable_val _) <| stable_cons (stable_val _) <| stable_cons (stable_val _) <| stable_cons (stable_val _) <| stable_cons (stable_val _) <| stable_nil
          · refine opsOkA_cons ?_ ?_
            · intro K vs W hR hD hK
              clear hD
              try dsimp only at hK ⊢
              simp only [Act.put, List.setIfInBounds_toArray, List.set_cons_succ, List.set_cons_zero] at hK
              go_wp2
              exact hK _ _ rfl (Mod.refl _ _)
            refine opsOkA_cons ?_ ?_
            · intro K vs W hR hD hK
              clear hD
              try dsimp only at hK ⊢
              simp only [Act.put, List.setIfInBounds_toArray, List.set_cons_succ, List.set_cons_zero] at hK
              have hbx := HBX.out W hR
              have q0 := hbx.cell 0 rfl
              have q1 := hbx.cell 1 rfl
              have q2 := hbx.cell 2 rfl
              go_wp2
              exact hK _ _ rfl (Mod.refl _ _)
            refine opsOkA_cons ?_ ?_
            · intro K vs W hR hD hK
              clear hD
              try dsimp only at hK ⊢
              simp only [Act.put, List.setIfInBounds_toArray, List.set_cons_succ, List.set_cons_zero] at hK
              go_wp2
              exact hK _ _ rfl (Mod.refl _ _)
            refine opsOkA_cons ?_ ?_
            · intro K vs W hR hD hK
              have d1 : vs 1 = .agg #[.slice a1 n1 d1, .slice a2 n2 d2, .slice a3 n3 d3] := hD 1 (by decide)
              have d2 : vs 2 = .int .i64 (kn : Int) := hD 2 (by decide)
              clear hD
              try dsimp only at hK ⊢
              simp only [Act.put, List.setIfInBounds_toArray, List.set_cons_succ, List.set_cons_zero] at hK
              generalize vs 1 = v1 at hK d1 ⊢
              subst v1
              generalize vs 2 = v2 at hK d2 ⊢
              subst v2
              go_wp2_with (go_at_call 18; refine (r4node_any G W a1 n1 d1 a2 n2 d2 a3 n3 d3 (HV.out W hR) (by omega) (kn : Int)).mono ?_; rintro e' w' ⟨rfl, hm'⟩; rw [HON.out])
              exact hK _ _ rfl hm'
            refine opsOkA_cons ?_ ?_
            · intro K vs W hR hD hK
              have d0 : vs 0 = .bool true := hD 0 (by decide)
              have d3 : vs 3 = .bool true := hD 3 (by decide)
              clear hD
              try dsimp only at hK ⊢
              simp only [Act.put, List.setIfInBounds_toArray, List.set_cons_succ, List.set_cons_zero] at hK
              generalize vs 0 = v0 at hK d0 ⊢
              subst v0
              generalize vs 3 = v3 at hK d3 ⊢
              subst v3
              go_wp2
              exact hK _ _ rfl (Mod.refl _ _)
            refine opsOkA_cons ?_ ?_
            · intro K vs W hR hD hK
              have d4 : vs 4 = .bool false := hD 4 (by decide)
              clear hD
              try dsimp only at hK ⊢
              simp only [Act.put, List.setIfInBounds_toArray, List.set_cons_succ, List.set_cons_zero] at hK
              generalize vs 4 = v4 at hK d4 ⊢
              subst v4
              go_wp2
              exact hK _ _ rfl (Mod.refl _ _)
            refine opsOkA_cons ?_ ?_
            · intro K vs W hR hD hK
              have d5 : vs 5 = .bool false := hD 5 (by decide)
              clear hD
              try dsimp only at hK ⊢
              simp only [Act.put, List.setIfInBounds_toArray, List.set_cons_succ, List.set_cons_zero] at hK
              generalize vs 5 = v5 at hK d5 ⊢
              subst v5
              go_wp2
              exact hK _ _ rfl (Mod.refl _ _)
            refine opsOkA_cons ?_ ?_
            · intro K vs W hR hD hK
              have d5 : vs 5 = .bool false := hD 5 (by decide)
              have d6 : vs 6 = .bool true := hD 6 (by decide)
              clear hD
              try dsimp only at hK ⊢
              simp only [Act.put, List.setIfInBounds_toArray, List.set_cons_succ, List.set_cons_zero] at hK
              generalize vs 5 = v5 at hK d5 ⊢
              subst v5
              generalize vs 6 = v6 at hK d6 ⊢
              subst v6
              go_wp2
              exact hK _ _ rfl (Mod.refl _ _)
            refine opsOkA_cons ?_ ?_
            · intro K vs W hR hD hK
              have d7 : vs 7 = .bool true := hD 7 (by decide)
              clear hD
              try dsimp only at hK ⊢
              simp only [Act.put, List.setIfInBounds_toArray, List.set_cons_succ, List.set_cons_zero] at hK
              generalize vs 7 = v7 at hK d7 ⊢
              subst v7
              have hnb := HNB.out W hR
              have q0 := hnb.cell 0 rfl
              have q1 := hnb.cell 1 rfl
              go_wp2
              exact hK _ _ rfl (Mod.refl _ _)
            refine opsOkA_cons ?_ ?_
            · intro K vs W hR hD hK
              have d7 : vs 7 = .bool true := hD 7 (by decide)
              clear hD
              try dsimp only at hK ⊢
              simp only [Act.put, List.setIfInBounds_toArray, List.set_cons_succ, List.set_cons_zero] at hK
              generalize vs 7 = v7 at hK d7 ⊢
              subst v7
              go_wp2
              exact hK _ _ rfl (Mod.refl _ _)
            refine opsOkA_cons ?_ ?_
            · intro K vs W hR hD hK
              have d7 : vs 7 = .bool true := hD 7 (by decide)
              have d9 : vs 9 = .pointer (some ⟨bx, 0, none⟩) := hD 9 (by decide)
              clear hD
              try dsimp only at hK ⊢
              simp only [Act.put, List.setIfInBounds_toArray, List.set_cons_succ, List.set_cons_zero] at hK
              generalize vs 7 = v7 at hK d7 ⊢
              subst v7
              generalize vs 9 = v9 at hK d9 ⊢
              subst v9
              have hbx := HBX.out W hR
              have q0 := hbx.cell 0 rfl
              have q1 := hbx.cell 1 rfl
              have q2 := hbx.cell 2 rfl
              go_wp2
              exact hK _ _ rfl (Mod.refl _ _)
            refine opsOkA_cons ?_ ?_
            · intro K vs W hR hD hK
              have d7 : vs 7 = .bool true := hD 7 (by decide)
              clear hD
              try dsimp only at hK ⊢
              simp only [Act.put, List.setIfInBounds_toArray, List.set_cons_succ, List.set_cons_zero] at hK
              generalize vs 7 = v7 at hK d7 ⊢
              subst v7
              go_wp2
              exact hK _ _ rfl (Mod.refl _ _)
            refine opsOkA_cons ?_ ?_
            · intro K vs W hR hD hK
              have d7 : vs 7 = .bool true := hD 7 (by decide)
              have d10 : vs 10 = .slice a1 n1 d1 := hD 10 (by decide)
              have d11 : vs 11 = .int .i64 (kn : Int) := hD 11 (by decide)
              clear hD
              try dsimp only at hK ⊢
              simp only [Act.put, List.setIfInBounds_toArray, List.set_cons_succ, List.set_cons_zero] at hK
              generalize vs 7 = v7 at hK d7 ⊢
              subst v7
              generalize vs 10 = v10 at hK d10 ⊢
              subst v10
              generalize vs 11 = v11 at hK d11 ⊢
              subst v11
              have hixn := HIN.out
              go_wp2_with fail
              exact hK _ _ rfl (Mod.refl _ _)
            refine opsOkA_cons ?_ ?_
            · intro K vs W hR hD hK
              have d7 : vs 7 = .bool true := hD 7 (by decide)
              have d12 : vs 12 = .pointer (some ⟨eb, eo, none⟩) := hD 12 (by decide)
              clear hD
              try dsimp only at hK ⊢
              simp only [Act.put, List.setIfInBounds_toArray, List.set_cons_succ, List.set_cons_zero] at hK
              generalize vs 7 = v7 at hK d7 ⊢
              subst v7
              generalize vs 12 = v12 at hK d12 ⊢
              subst v12
              obtain ⟨q0, q1⟩ := HEN.out W hR
              go_wp2
              exact hK _ _ rfl (Mod.refl _ _)
            refine opsOkA_cons ?_ ?_
            · intro K vs W hR hD hK
              have d7 : vs 7 = .bool true := hD 7 (by decide)
              have d8 : vs 8 = .agg #[.int .i64 x, .int .i64 y] := hD 8 (by decide)
              have d13 : vs 13 = .agg #[.int .i64 x, .int .i64 y] := hD 13 (by decide)
              clear hD
              try dsimp only at hK ⊢
              simp only [Act.put, List.setIfInBounds_toArray, List.set_cons_succ, List.set_cons_zero] at hK
              generalize vs 7 = v7 at hK d7 ⊢
              subst v7
              generalize vs 8 = v8 at hK d8 ⊢
              subst v8
              generalize vs 13 = v13 at hK d13 ⊢
              subst v13
              go_wp2
              exact hK _ _ rfl (Mod.refl _ _)
            refine opsOkA_cons ?_ ?_
            · intro K vs W hR hD hK
              have d5 : vs 5 = .bool false := hD 5 (by decide)
              have d7 : vs 7 = .bool true := hD 7 (by decide)
              have d14 : vs 14 = .bool false := hD 14 (by decide)
              clear hD
              try dsimp only at hK ⊢
              simp only [Act.put, List.setIfInBounds_toArray, List.set_cons_succ, List.set_cons_zero] at hK
              generalize vs 5 = v5 at hK d5 ⊢
              subst v5
              generalize vs 7 = v7 at hK d7 ⊢
              subst v7
              generalize vs 14 = v14 at hK d14 ⊢
              subst v14
              go_wp2
              exact hK _ _ rfl (Mod.refl _ _)
            refine opsOkA_cons ?_ ?_
            · intro K vs W hR hD hK
              have d5 : vs 5 = .bool false := hD 5 (by decide)
              have d15 : vs 15 = .bool false := hD 15 (by decide)
              clear hD
              try dsimp only at hK ⊢
              simp only [Act.put, List.setIfInBounds_toArray, List.set_cons_succ, List.set_cons_zero] at hK
              generalize vs 5 = v5 at hK d5 ⊢
              subst v5
              generalize vs 15 = v15 at hK d15 ⊢
              subst v15
              go_wp2
              exact hK _ _ rfl (Mod.refl _ _)
            refine opsOkA_cons ?_ ?_
            · intro K vs W hR hD hK
              have d16 : vs 16 = .bool false := hD 16 (by decide)
              clear hD
              try dsimp only at hK ⊢
              simp only [Act.put, List.setIfInBounds_toArray, List.set_cons_succ, List.set_cons_zero] at hK
              generalize vs 16 = v16 at hK d16 ⊢
              subst v16
              go_wp2
              exact hK _ _ rfl (Mod.refl _ _)
            refine opsOkA_cons ?_ ?_
            · intro K vs W hR hD hK
              have d17 : vs 17 = .bool false := hD 17 (by decide)
              clear hD
              try dsimp only at hK ⊢
              simp only [Act.put, List.setIfInBounds_toArray, List.set_cons_succ, List.set_cons_zero] at hK
              generalize vs 17 = v17 at hK d17 ⊢
              subst v17
              go_wp2
              exact hK _ _ rfl (Mod.refl _ _)
            refine opsOkA_cons ?_ ?_
            · intro K vs W hR hD hK
              have d17 : vs 17 = .bool false := hD 17 (by decide)
              clear hD
              try dsimp only at hK ⊢
              simp only [Act.put, List.setIfInBounds_toArray, List.set_cons_succ, List.set_cons_zero] at hK
              generalize vs 17 = v17 at hK d17 ⊢
              subst v17
              have hbx := HBX.out W hR
              have q0 := hbx.cell 0 rfl
              have q1 := hbx.cell 1 rfl
              have q2 := hbx.cell 2 rfl
              go_wp2
              exact hK _ _ rfl (Mod.refl _ _)
            refine opsOkA_cons ?_ ?_
            · intro K vs W hR hD hK
              have d17 : vs 17 = .bool false := hD 17 (by decide)
              clear hD
              try dsimp only at hK ⊢
              simp only [Act.put, List.setIfInBounds_toArray, List.set_cons_succ, List.set_cons_zero] at hK
              generalize vs 17 = v17 at hK d17 ⊢
              subst v17
              go_wp2
              exact hK _ _ rfl (Mod.refl _ _)
            refine opsOkA_cons ?_ ?_
            · intro K vs W hR hD hK
              have d17 : vs 17 = .bool false := hD 17 (by decide)
              have d19 : vs 19 = .agg #[.slice a1 n1 d1, .slice a2 n2 d2, .slice a3 n3 d3] := hD 19 (by decide)
              have d20 : vs 20 = .int .i64 (ke : Int) := hD 20 (by decide)
              clear hD
              try dsimp only at hK ⊢
              simp only [Act.put, List.setIfInBounds_toArray, List.set_cons_succ, List.set_cons_zero] at hK
              generalize vs 17 = v17 at hK d17 ⊢
              subst v17
              generalize vs 19 = v19 at hK d19 ⊢
              subst v19
              generalize vs 20 = v20 at hK d20 ⊢
              subst v20
              go_wp2_with (go_at_call 19; refine (r4edge_any G W a1 n1 d1 a2 n2 d2 a3 n3 d3 (HV.out W hR) (by omega) (ke : Int)).mono ?_; rintro e' w' ⟨rfl, hm'⟩; rw [HOE.out])
              exact hK _ _ rfl hm'
            refine opsOkA_cons ?_ ?_
            · intro K vs W hR hD hK
              have d17 : vs 17 = .bool false := hD 17 (by decide)
              have d18 : vs 18 = .bool true := hD 18 (by decide)
              have d21 : vs 21 = .bool true := hD 21 (by decide)
              clear hD
              try dsimp only at hK ⊢
              simp only [Act.put, List.setIfInBounds_toArray, List.set_cons_succ, List.set_cons_zero] at hK
              generalize vs 17 = v17 at hK d17 ⊢
              subst v17
              generalize vs 18 = v18 at hK d18 ⊢
              subst v18
              generalize vs 21 = v21 at hK d21 ⊢
              subst v21
              go_wp2
              exact hK _ _ rfl (Mod.refl _ _)
            refine opsOkA_cons ?_ ?_
            · intro K vs W hR hD hK
              have d17 : vs 17 = .bool false := hD 17 (by decide)
              have d22 : vs 22 = .bool false := hD 22 (by decide)
              clear hD
              try dsimp only at hK ⊢
              simp only [Act.put, List.setIfInBounds_toArray, List.set_cons_succ, List.set_cons_zero] at hK
              generalize vs 17 = v17 at hK d17 ⊢
              subst v17
              generalize vs 22 = v22 at hK d22 ⊢
              subst v22
              go_wp2
              exact hK _ _ rfl (Mod.refl _ _)
            refine opsOkA_cons ?_ ?_
            · intro K vs W hR hD hK
              have d23 : vs 23 = .bool false := hD 23 (by decide)
              clear hD
              try dsimp only at hK ⊢
              simp only [Act.put, List.setIfInBounds_toArray, List.set_cons_succ, List.set_cons_zero] at hK
              generalize vs 23 = v23 at hK d23 ⊢
              subst v23
              go_wp2
              exact hK _ _ rfl (Mod.refl _ _)
            refine opsOkA_cons ?_ ?_
            · intro K vs W hR hD hK
              have d24 : vs 24 = .bool false := hD 24 (by decide)
              clear hD
              try dsimp only at hK ⊢
              simp only [Act.put, List.setIfInBounds_toArray, List.set_cons_succ, List.set_cons_zero] at hK
              generalize vs 24 = v24 at hK d24 ⊢
              subst v24
              go_wp2
              exact hK _ _ rfl (Mod.refl _ _)
            refine opsOkA_cons ?_ ?_
            · intro K vs W hR hD hK
              have d24 : vs 24 = .bool false := hD 24 (by decide)
              have d25 : vs 25 = .bool true := hD 25 (by decide)
              clear hD
              try dsimp only at hK ⊢
              simp only [Act.put, List.setIfInBounds_toArray, List.set_cons_succ, List.set_cons_zero] at hK
              generalize vs 24 = v24 at hK d24 ⊢
              subst v24
              generalize vs 25 = v25 at hK d25 ⊢
              subst v25
              go_wp2
              exact hK _ _ rfl (Mod.refl _ _)
            refine opsOkA_cons ?_ ?_
            · intro K vs W hR hD hK
              have d26 : vs 26 = .bool true := hD 26 (by decide)
              clear hD
              try dsimp only at hK ⊢
              simp only [Act.put, List.setIfInBounds_toArray, List.set_cons_succ, List.set_cons_zero] at hK
              generalize vs 26 = v26 at hK d26 ⊢
              subst v26
              have hxb := HXB.out W hR
              have q0 := hxb.cell 0 rfl
              have q1 := hxb.cell 1 rfl
              have q2 := hxb.cell 2 rfl
              go_wp2
              exact hK _ _ rfl (Mod.refl _ _)
            refine opsOkA_cons ?_ ?_
            · intro K vs W hR hD hK
              have d26 : vs 26 = .bool true := hD 26 (by decide)
              clear hD
              try dsimp only at hK ⊢
              simp only [Act.put, List.setIfInBounds_toArray, List.set_cons_succ, List.set_cons_zero] at hK
              generalize vs 26 = v26 at hK d26 ⊢
              subst v26
              go_wp2
              exact hK _ _ rfl (Mod.refl _ _)
            refine opsOkA_cons ?_ ?_
            · intro K vs W hR hD hK
              have d26 : vs 26 = .bool true := hD 26 (by decide)
              have d28 : vs 28 = .pointer (some ⟨bx, 1, none⟩) := hD 28 (by decide)
              clear hD
              try dsimp only at hK ⊢
              simp only [Act.put, List.setIfInBounds_toArray, List.set_cons_succ, List.set_cons_zero] at hK
              generalize vs 26 = v26 at hK d26 ⊢
              subst v26
              generalize vs 28 = v28 at hK d28 ⊢
              subst v28
              have hbx := HBX.out W hR
              have q0 := hbx.cell 0 rfl
              have q1 := hbx.cell 1 rfl
              have q2 := hbx.cell 2 rfl
              go_wp2
              exact hK _ _ rfl (Mod.refl _ _)
            refine opsOkA_cons ?_ ?_
            · intro K vs W hR hD hK
              have d26 : vs 26 = .bool true := hD 26 (by decide)
              clear hD
              try dsimp only at hK ⊢
              simp only [Act.put, List.setIfInBounds_toArray, List.set_cons_succ, List.set_cons_zero] at hK
              generalize vs 26 = v26 at hK d26 ⊢
              subst v26
              go_wp2
              exact hK _ _ rfl (Mod.refl _ _)
            refine opsOkA_cons ?_ ?_
            · intro K vs W hR hD hK
              have d26 : vs 26 = .bool true := hD 26 (by decide)
              have d29 : vs 29 = .slice a2 n2 d2 := hD 29 (by decide)
              have d30 : vs 30 = .int .i64 (ke : Int) := hD 30 (by decide)
              clear hD
              try dsimp only at hK ⊢
              simp only [Act.put, List.setIfInBounds_toArray, List.set_cons_succ, List.set_cons_zero] at hK
              generalize vs 26 = v26 at hK d26 ⊢
              subst v26
              generalize vs 29 = v29 at hK d29 ⊢
              subst v29
              generalize vs 30 = v30 at hK d30 ⊢
              subst v30
              have hixe := HIE.out
              go_wp2_with fail
              exact hK _ _ rfl (Mod.refl _ _)
            refine opsOkA_cons ?_ ?_
            · intro K vs W hR hD hK
              have d26 : vs 26 = .bool true := hD 26 (by decide)
              have d31 : vs 31 = .pointer (some ⟨fb, fo, none⟩) := hD 31 (by decide)
              clear hD
              try dsimp only at hK ⊢
              simp only [Act.put, List.setIfInBounds_toArray, List.set_cons_succ, List.set_cons_zero] at hK
              generalize vs 26 = v26 at hK d26 ⊢
              subst v26
              generalize vs 31 = v31 at hK d31 ⊢
              subst v31
              obtain ⟨q0, q1, q2⟩ := HEE.out W hR
              go_wp2
              exact hK _ _ rfl (Mod.refl _ _)
            refine opsOkA_cons ?_ ?_
            · intro K vs W hR hD hK
              have d26 : vs 26 = .bool true := hD 26 (by decide)
              have d27 : vs 27 = .agg #[.int .i64 u, .int .i64 v, .int .i64 z] := hD 27 (by decide)
              have d32 : vs 32 = .agg #[.int .i64 u, .int .i64 v, .int .i64 z] := hD 32 (by decide)
              clear hD
              try dsimp only at hK ⊢
              simp only [Act.put, List.setIfInBounds_toArray, List.set_cons_succ, List.set_cons_zero] at hK
              generalize vs 26 = v26 at hK d26 ⊢
              subst v26
              generalize vs 27 = v27 at hK d27 ⊢
              subst v27
              generalize vs 32 = v32 at hK d32 ⊢
              subst v32
              go_wp2
              exact hK _ _ rfl (Mod.refl _ _)
            refine opsOkA_cons ?_ ?_
            · intro K vs W hR hD hK
              have d24 : vs 24 = .bool false := hD 24 (by decide)
              have d26 : vs 26 = .bool true := hD 26 (by decide)
              have d33 : vs 33 = .bool false := hD 33 (by decide)
              clear hD
              try dsimp only at hK ⊢
              simp only [Act.put, List.setIfInBounds_toArray, List.set_cons_succ, List.set_cons_zero] at hK
              generalize vs 24 = v24 at hK d24 ⊢
              subst v24
              generalize vs 26 = v26 at hK d26 ⊢
              subst v26
              generalize vs 33 = v33 at hK d33 ⊢
              subst v33
              go_wp2
              exact hK _ _ rfl (Mod.refl _ _)
            refine opsOkA_cons ?_ ?_
            · intro K vs W hR hD hK
              have d24 : vs 24 = .bool false := hD 24 (by decide)
              have d34 : vs 34 = .bool false := hD 34 (by decide)
              clear hD
              try dsimp only at hK ⊢
              simp only [Act.put, List.setIfInBounds_toArray, List.set_cons_succ, List.set_cons_zero] at hK
              generalize vs 24 = v24 at hK d24 ⊢
              subst v24
              generalize vs 34 = v34 at hK d34 ⊢
              subst v34
              go_wp2
              exact hK _ _ rfl (Mod.refl _ _)
            refine opsOkA_cons ?_ ?_
            · intro K vs W hR hD hK
              have d35 : vs 35 = .bool false := hD 35 (by decide)
              clear hD
              try dsimp only at hK ⊢
              simp only [Act.put, List.setIfInBounds_toArray, List.set_cons_succ, List.set_cons_zero] at hK
              generalize vs 35 = v35 at hK d35 ⊢
              subst v35
              go_wp2
              exact hK _ _ rfl (Mod.refl _ _)
            refine opsOkA_cons ?_ ?_
            · intro K vs W hR hD hK
              have d36 : vs 36 = .bool false := hD 36 (by decide)
              clear hD
              try dsimp only at hK ⊢
              simp only [Act.put, List.setIfInBounds_toArray, List.set_cons_succ, List.set_cons_zero] at hK
              generalize vs 36 = v36 at hK d36 ⊢
              subst v36
              go_wp2
              exact hK _ _ rfl (Mod.refl _ _)
            refine opsOkA_cons ?_ ?_
            · intro K vs W hR hD hK
              have d36 : vs 36 = .bool false := hD 36 (by decide)
              clear hD
              try dsimp only at hK ⊢
              simp only [Act.put, List.setIfInBounds_toArray, List.set_cons_succ, List.set_cons_zero] at hK
              generalize vs 36 = v36 at hK d36 ⊢
              subst v36
              go_wp2
              exact hK _ _ rfl (Mod.refl _ _)
            refine opsOkA_cons ?_ ?_
            · intro K vs W hR hD hK
              have d36 : vs 36 = .bool false := hD 36 (by decide)
              clear hD
              try dsimp only at hK ⊢
              simp only [Act.put, List.setIfInBounds_toArray, List.set_cons_succ, List.set_cons_zero] at hK
              generalize vs 36 = v36 at hK d36 ⊢
              subst v36
              go_wp2
              exact hK _ _ rfl (Mod.refl _ _)
            refine opsOkA_cons ?_ ?_
            · intro K vs W hR hD hK
              have d36 : vs 36 = .bool false := hD 36 (by decide)
              have d37 : vs 37 = .pointer (some ⟨p, 0, none⟩) := hD 37 (by decide)
              have d38 : vs 38 = .int .i64 va := hD 38 (by decide)
              have d39 : vs 39 = .int .i64 vb := hD 39 (by decide)
              clear hD
              try dsimp only at hK ⊢
              simp only [Act.put, List.setIfInBounds_toArray, List.set_cons_succ, List.set_cons_zero] at hK
              generalize vs 36 = v36 at hK d36 ⊢
              subst v36
              generalize vs 37 = v37 at hK d37 ⊢
              subst v37
              generalize vs 38 = v38 at hK d38 ⊢
              subst v38
              generalize vs 39 = v39 at hK d39 ⊢
              subst v39
              go_wp2_with (go_at_call 20; refine (banned_any p B C W G (HG.out W hR) va vb).mono ?_; rintro e' w' ⟨rfl, hm'⟩; rw [HBB.out])
              exact hK _ _ rfl hm'
            refine opsOkA_cons ?_ ?_
            · intro K vs W hR hD hK
              have d36 : vs 36 = .bool false := hD 36 (by decide)
              clear hD
              try dsimp only at hK ⊢
              simp only [Act.put, List.setIfInBounds_toArray, List.set_cons_succ, List.set_cons_zero] at hK
              generalize vs 36 = v36 at hK d36 ⊢
              subst v36
              have hbx := HBX.out W hR
              have q0 := hbx.cell 0 rfl
              have q1 := hbx.cell 1 rfl
              have q2 := hbx.cell 2 rfl
              go_wp2
              exact hK _ _ rfl (Mod.refl _ _)
            refine opsOkA_cons ?_ ?_
            · intro K vs W hR hD hK
              have d36 : vs 36 = .bool false := hD 36 (by decide)
              clear hD
              try dsimp only at hK ⊢
              simp only [Act.put, List.setIfInBounds_toArray, List.set_cons_succ, List.set_cons_zero] at hK
              generalize vs 36 = v36 at hK d36 ⊢
              subst v36
              go_wp2
              exact hK _ _ rfl (Mod.refl _ _)
            refine opsOkA_cons ?_ ?_
            · intro K vs W hR hD hK
              have d36 : vs 36 = .bool false := hD 36 (by decide)
              clear hD
              try dsimp only at hK ⊢
              simp only [Act.put, List.setIfInBounds_toArray, List.set_cons_succ, List.set_cons_zero] at hK
              generalize vs 36 = v36 at hK d36 ⊢
              subst v36
              go_wp2
              exact hK _ _ rfl (Mod.refl _ _)
            refine opsOkA_cons ?_ ?_
            · intro K vs W hR hD hK
              have d36 : vs 36 = .bool false := hD 36 (by decide)
              have d41 : vs 41 = .agg #[.slice a1 n1 d1, .slice a2 n2 d2, .slice a3 n3 d3] := hD 41 (by decide)
              have d42 : vs 42 = .int .i64 va := hD 42 (by decide)
              have d43 : vs 43 = .int .i64 vb := hD 43 (by decide)
              clear hD
              try dsimp only at hK ⊢
              simp only [Act.put, List.setIfInBounds_toArray, List.set_cons_succ, List.set_cons_zero] at hK
              generalize vs 36 = v36 at hK d36 ⊢
              subst v36
              generalize vs 41 = v41 at hK d41 ⊢
              subst v41
              generalize vs 42 = v42 at hK d42 ⊢
              subst v42
              generalize vs 43 = v43 at hK d43 ⊢
              subst v43
              go_wp2_with (go_at_call 21; refine (r4banned_any G W a1 n1 d1 a2 n2 d2 a3 n3 d3 (HV.out W hR) (by omega) va vb).mono ?_; rintro e' w' ⟨rfl, hm'⟩; rw [HBB.out])
              exact hK _ _ rfl hm'
            refine opsOkA_cons ?_ ?_
            · intro K vs W hR hD hK
              have d36 : vs 36 = .bool false := hD 36 (by decide)
              have d40 : vs 40 = .bool bb := hD 40 (by decide)
              have d44 : vs 44 = .bool bb := hD 44 (by decide)
              clear hD
              try dsimp only at hK ⊢
              simp only [Act.put, List.setIfInBounds_toArray, List.set_cons_succ, List.set_cons_zero] at hK
              generalize vs 36 = v36 at hK d36 ⊢
              subst v36
              generalize vs 40 = v40 at hK d40 ⊢
              subst v40
              generalize vs 44 = v44 at hK d44 ⊢
              subst v44
              go_wp2
              exact hK _ _ rfl (Mod.refl _ _)
            refine opsOkA_cons ?_ ?_
            · intro K vs W hR hD hK
              have d36 : vs 36 = .bool false := hD 36 (by decide)
              have d45 : vs 45 = .bool false := hD 45 (by decide)
              clear hD
              try dsimp only at hK ⊢
              simp only [Act.put, List.setIfInBounds_toArray, List.set_cons_succ, List.set_cons_zero] at hK
              generalize vs 36 = v36 at hK d36 ⊢
              subst v36
              generalize vs 45 = v45 at hK d45 ⊢
              subst v45
              go_wp2
              exact hK _ _ rfl (Mod.refl _ _)
            exact opsOkA_nil
          · intro vs W hR hF
            have d46 : vs 46 = .bool false := hF 46 (by decide)
            clear hF
            try dsimp only
            generalize vs 46 = v46 at d46 ⊢
            subst d46
            go_wp2_with fail
            go_meet
            exact ⟨by simp, (Mod.drew _ _).trans hR (fun _ _ e => e) (fun _ _ e => e)⟩
        | false =>
          clear hvv
          refine wp_region_inv3 (act := ?acttg10tf) (Mod (fun _ => False)) (fun i => (tg10tf_F p bx nb xb eb eo 0 0 kn 0 n1 d1 n2 d2 n3 d3 0 edge va vb x y 0 0 0 bb a1 a2 a3 G).getD i (fun _ _ => True)) (fun i => tg10tf_D.getD i []) (by kernel_rfl) (by kernel_rfl) (by kernel_rfl) (by kernel_rfl) (fun _ => Mod.refl _ _)
            (fun _ _ _ h k => h.trans k (fun _ _ e => e) (fun _ _ e => e)) ?hacttg10tf (stable_list ?_) ?_ ?_
          case hacttg10tf => intro vs; simp only [putAll, Nat.zero_add, Nat.reduceAdd, Act.put, List.setIfInBounds_toArray, List.set_cons_succ, List.set_cons_zero]; exact rfl
          · unfold tg10tf_F
            exact stable_cons (stable_val _) <| stable_cons (stable_val _) <| stable_cons (stable_val _) <| stable_cons (stable_val _) <| stable_cons (stable_val _) <| stable_cons (stable_val _) <| stable_cons (stable_val _) <| stable_cons (stable_val _) <| stable_cons (stable_val _) <| stable_cons (stable_val _) <| stable_cons (stable_val _) <| stable_cons (stable_val _) <| stable_cons (stable_val _) <| stable_cons (stable_val _) <| stable_cons (stable_val _) <| stable_cons (stable_val _) <| stable_cons (stable_val _) <| stable_cons (stable_val _) <| stable_cons (stable_val _) <| stable_cons (stable_val _) <| stable_cons (stable_val _) <| stable_cons (stable_val _) <| stable_cons (stable_val _) <| stable_cons (stable_val _) <| stable_cons (stable_val _) <| stable_cons (stable_val _) <| stable_cons (stable_val _) <| stable_cons (stable_val _) <| stable_cons (stable_val _) <| stable_cons (stable_val _) <| stable_cons (stable_val _) <| stable_cons (stable_val _) <| stable_cons (stable_val _) <| stable_cons (stable_val _) <| stable_cons (stable_val _) <| stable_cons (stable_val _) <| stable_cons (stable_val _) <| stable_cons (stable_val _) <| stable_cons (stable_val _) <| stable_cons (stable_val _) <| stable_cons (stable_val _) <| stable_cons (stable_val _) <| stable_cons (stable_val _) <| stable_cons (stable_val _) <| stable_cons (stable_val _) <| stable_cons (stable_val _) <| stable_cons (stable_val _) <| stable_nil
          · refine opsOkA_cons ?_ ?_
            · intro K vs W hR hD hK
              clear hD
              try dsimp only at hK ⊢
              simp only [Act.put, List.setIfInBounds_toArray, List.set_cons_succ, List.set_cons_zero] at hK
              go_wp2
              exact hK _ _ rfl (Mod.refl _ _)
            refine opsOkA_cons ?_ ?_
            · intro K vs W hR hD hK
              clear hD
              try dsimp only at hK ⊢
              simp only [Act.put, List.setIfInBounds_toArray, List.set_cons_succ, List.set_cons_zero] at hK
              have hbx := HBX.out W hR
              have q0 := hbx.cell 0 rfl
              have q1 := hbx.cell 1 rfl
              have q2 := hbx.cell 2 rfl
              go_wp2
              exact hK _ _ rfl (Mod.refl _ _)
            refine opsOkA_cons ?_ ?_
            · intro K vs W hR hD hK
              clear hD
              try dsimp only at hK ⊢
              simp only [Act.put, List.setIfInBounds_toArray, List.set_cons_succ, List.set_cons_zero] at hK
              go_wp2
              exact hK _ _ rfl (Mod.refl _ _)
            refine opsOkA_cons ?_ ?_
            · intro K vs W hR hD hK
              have d1 : vs 1 = .agg #[.slice a1 n1 d1, .slice a2 n2 d2, .slice a3 n3 d3] := hD 1 (by decide)
              have d2 : vs 2 = .int .i64 (kn : Int) := hD 2 (by decide)
              clear hD
              try dsimp only at hK ⊢
              simp only [Act.put, List.setIfInBounds_toArray, List.set_cons_succ, List.set_cons_zero] at hK
              generalize vs 1 = v1 at hK d1 ⊢
              subst v1
              generalize vs 2 = v2 at hK d2 ⊢
              subst v2
              go_wp2_with (go_at_call 18; refine (r4node_any G W a1 n1 d1 a2 n2 d2 a3 n3 d3 (HV.out W hR) (by omega) (kn : Int)).mono ?_; rintro e' w' ⟨rfl, hm'⟩; rw [HON.out])
              exact hK _ _ rfl hm'
            refine opsOkA_cons ?_ ?_
            · intro K vs W hR hD hK
              have d0 : vs 0 = .bool true := hD 0 (by decide)
              have d3 : vs 3 = .bool true := hD 3 (by decide)
              clear hD
              try dsimp only at hK ⊢
              simp only [Act.put, List.setIfInBounds_toArray, List.set_cons_succ, List.set_cons_zero] at hK
              generalize vs 0 = v0 at hK d0 ⊢
              subst v0
              generalize vs 3 = v3 at hK d3 ⊢
              subst v3
              go_wp2
              exact hK _ _ rfl (Mod.refl _ _)
            refine opsOkA_cons ?_ ?_
            · intro K vs W hR hD hK
              have d4 : vs 4 = .bool false := hD 4 (by decide)
              clear hD
              try dsimp only at hK ⊢
              simp only [Act.put, List.setIfInBounds_toArray, List.set_cons_succ, List.set_cons_zero] at hK
              generalize vs 4 = v4 at hK d4 ⊢
              subst v4
              go_wp2
              exact hK _ _ rfl (Mod.refl _ _)
            refine opsOkA_cons ?_ ?_
            · intro K vs W hR hD hK
              have d5 : vs 5 = .bool false := hD 5 (by decide)
              clear hD
              try dsimp only at hK ⊢
              simp only [Act.put, List.setIfInBounds_toArray, List.set_cons_succ, List.set_cons_zero] at hK
              generalize vs 5 = v5 at hK d5 ⊢
              subst v5
              go_wp2
              exact hK _ _ rfl (Mod.refl _ _)
            refine opsOkA_cons ?_ ?_
            · intro K vs W hR hD hK
              have d5 : vs 5 = .bool false := hD 5 (by decide)
              have d6 : vs 6 = .bool true := hD 6 (by decide)
              clear hD
              try dsimp only at hK ⊢
              simp only [Act.put, List.setIfInBounds_toArray, List.set_cons_succ, List.set_cons_zero] at hK
              generalize vs 5 = v5 at hK d5 ⊢
              subst v5
              generalize vs 6 = v6 at hK d6 ⊢
              subst v6
              go_wp2
              exact hK _ _ rfl (Mod.refl _ _)
            refine opsOkA_cons ?_ ?_
            · intro K vs W hR hD hK
              have d7 : vs 7 = .bool true := hD 7 (by decide)
              clear hD
              try dsimp only at hK ⊢
              simp only [Act.put, List.setIfInBounds_toArray, List.set_cons_succ, List.set_cons_zero] at hK
              generalize vs 7 = v7 at hK d7 ⊢
              subst v7
              have hnb := HNB.out W hR
              have q0 := hnb.cell 0 rfl
              have q1 := hnb.cell 1 rfl
              go_wp2
              exact hK _ _ rfl (Mod.refl _ _)
            refine opsOkA_cons ?_ ?_
            · intro K vs W hR hD hK
              have d7 : vs 7 = .bool true := hD 7 (by decide)
              clear hD
              try dsimp only at hK ⊢
              simp only [Act.put, List.setIfInBounds_toArray, List.set_cons_succ, List.set_cons_zero] at hK
              generalize vs 7 = v7 at hK d7 ⊢
              subst v7
              go_wp2
              exact hK _ _ rfl (Mod.refl _ _)
            refine opsOkA_cons ?_ ?_
            · intro K vs W hR hD hK
              have d7 : vs 7 = .bool true := hD 7 (by decide)
              have d9 : vs 9 = .pointer (some ⟨bx, 0, none⟩) := hD 9 (by decide)
              clear hD
              try dsimp only at hK ⊢
              simp only [Act.put, List.setIfInBounds_toArray, List.set_cons_succ, List.set_cons_zero] at hK
              generalize vs 7 = v7 at hK d7 ⊢
              subst v7
              generalize vs 9 = v9 at hK d9 ⊢
              subst v9
              have hbx := HBX.out W hR
              have q0 := hbx.cell 0 rfl
              have q1 := hbx.cell 1 rfl
              have q2 := hbx.cell 2 rfl
              go_wp2
              exact hK _ _ rfl (Mod.refl _ _)
            refine opsOkA_cons ?_ ?_
            · intro K vs W hR hD hK
              have d7 : vs 7 = .bool true := hD 7 (by decide)
              clear hD
              try dsimp only at hK ⊢
              simp only [Act.put, List.setIfInBounds_toArray, List.set_cons_succ, List.set_cons_zero] at hK
              generalize vs 7 = v7 at hK d7 ⊢
              subst v7
              go_wp2
              exact hK _ _ rfl (Mod.refl _ _)
            refine opsOkA_cons ?_ ?_
            · intro K vs W hR hD hK
              have d7 : vs 7 = .bool true := hD 7 (by decide)
              have d10 : vs 10 = .slice a1 n1 d1 := hD 10 (by decide)
              have d11 : vs 11 = .int .i64 (kn : Int) := hD 11 (by decide)
              clear hD
              try dsimp only at hK ⊢
              simp only [Act.put, List.setIfInBounds_toArray, List.set_cons_succ, List.set_cons_zero] at hK
              generalize vs 7 = v7 at hK d7 ⊢
              subst v7
              generalize vs 10 = v10 at hK d10 ⊢
              subst v10
              generalize vs 11 = v11 at hK d11 ⊢
              subst v11
              have hixn := HIN.out
              go_wp2_with fail
              exact hK _ _ rfl (Mod.refl _ _)
            refine opsOkA_cons ?_ ?_
            · intro K vs W hR hD hK
              have d7 : vs 7 = .bool true := hD 7 (by decide)
              have d12 : vs 12 = .pointer (some ⟨eb, eo, none⟩) := hD 12 (by decide)
              clear hD
              try dsimp only at hK ⊢
              simp only [Act.put, List.setIfInBounds_toArray, List.set_cons_succ, List.set_cons_zero] at hK
              generalize vs 7 = v7 at hK d7 ⊢
              subst v7
              generalize vs 12 = v12 at hK d12 ⊢
              subst v12
              obtain ⟨q0, q1⟩ := HEN.out W hR
              go_wp2
              exact hK _ _ rfl (Mod.refl _ _)
            refine opsOkA_cons ?_ ?_
            · intro K vs W hR hD hK
              have d7 : vs 7 = .bool true := hD 7 (by decide)
              have d8 : vs 8 = .agg #[.int .i64 x, .int .i64 y] := hD 8 (by decide)
              have d13 : vs 13 = .agg #[.int .i64 x, .int .i64 y] := hD 13 (by decide)
              clear hD
              try dsimp only at hK ⊢
              simp only [Act.put, List.setIfInBounds_toArray, List.set_cons_succ, List.set_cons_zero] at hK
              generalize vs 7 = v7 at hK d7 ⊢
              subst v7
              generalize vs 8 = v8 at hK d8 ⊢
              subst v8
              generalize vs 13 = v13 at hK d13 ⊢
              subst v13
              go_wp2
              exact hK _ _ rfl (Mod.refl _ _)
            refine opsOkA_cons ?_ ?_
            · intro K vs W hR hD hK
              have d5 : vs 5 = .bool false := hD 5 (by decide)
              have d7 : vs 7 = .bool true := hD 7 (by decide)
              have d14 : vs 14 = .bool false := hD 14 (by decide)
              clear hD
              try dsimp only at hK ⊢
              simp only [Act.put, List.setIfInBounds_toArray, List.set_cons_succ, List.set_cons_zero] at hK
              generalize vs 5 = v5 at hK d5 ⊢
              subst v5
              generalize vs 7 = v7 at hK d7 ⊢
              subst v7
              generalize vs 14 = v14 at hK d14 ⊢
              subst v14
              go_wp2
              exact hK _ _ rfl (Mod.refl _ _)
            refine opsOkA_cons ?_ ?_
            · intro K vs W hR hD hK
              have d5 : vs 5 = .bool false := hD 5 (by decide)
              have d15 : vs 15 = .bool false := hD 15 (by decide)
              clear hD
              try dsimp only at hK ⊢
              simp only [Act.put, List.setIfInBounds_toArray, List.set_cons_succ, List.set_cons_zero] at hK
              generalize vs 5 = v5 at hK d5 ⊢
              subst v5
              generalize vs 15 = v15 at hK d15 ⊢
              subst v15
              go_wp2
              exact hK _ _ rfl (Mod.refl _ _)
            refine opsOkA_cons ?_ ?_
            · intro K vs W hR hD hK
              have d16 : vs 16 = .bool false := hD 16 (by decide)
              clear hD
              try dsimp only at hK ⊢
              simp only [Act.put, List.setIfInBounds_toArray, List.set_cons_succ, List.set_cons_zero] at hK
              generalize vs 16 = v16 at hK d16 ⊢
              subst v16
              go_wp2
              exact hK _ _ rfl (Mod.refl _ _)
            refine opsOkA_cons ?_ ?_
            · intro K vs W hR hD hK
              have d17 : vs 17 = .bool false := hD 17 (by decide)
              clear hD
              try dsimp only at hK ⊢
              simp only [Act.put, List.setIfInBounds_toArray, List.set_cons_succ, List.set_cons_zero] at hK
              generalize vs 17 = v17 at hK d17 ⊢
              subst v17
              go_wp2
              exact hK _ _ rfl (Mod.refl _ _)
            refine opsOkA_cons ?_ ?_
            · intro K vs W hR hD hK
              have d17 : vs 17 = .bool false := hD 17 (by decide)
              clear hD
              try dsimp only at hK ⊢
              simp only [Act.put, List.setIfInBounds_toArray, List.set_cons_succ, List.set_cons_zero] at hK
              generalize vs 17 = v17 at hK d17 ⊢
              subst v17
              have hbx := HBX.out W hR
              have q0 := hbx.cell 0 rfl
              have q1 := hbx.cell 1 rfl
              have q2 := hbx.cell 2 rfl
              go_wp2
              exact hK _ _ rfl (Mod.refl _ _)
            refine opsOkA_cons ?_ ?_
            · intro K vs W hR hD hK
              have d17 : vs 17 = .bool false := hD 17 (by decide)
              clear hD
              try dsimp only at hK ⊢
              simp only [Act.put, List.setIfInBounds_toArray, List.set_cons_succ, List.set_cons_zero] at hK
              generalize vs 17 = v17 at hK d17 ⊢
              subst v17
              go_wp2
              exact hK _ _ rfl (Mod.refl _ _)
            refine opsOkA_cons ?_ ?_
            · intro K vs W hR hD hK
              have d17 : vs 17 = .bool false := hD 17 (by decide)
              have d19 : vs 19 = .agg #[.slice a1 n1 d1, .slice a2 n2 d2, .slice a3 n3 d3] := hD 19 (by decide)
              have d20 : vs 20 = .int .i64 edge := hD 20 (by decide)
              clear hD
              try dsimp only at hK ⊢
              simp only [Act.put, List.setIfInBounds_toArray, List.set_cons_succ, List.set_cons_zero] at hK
              generalize vs 17 = v17 at hK d17 ⊢
              subst v17
              generalize vs 19 = v19 at hK d19 ⊢
              subst v19
              generalize vs 20 = v20 at hK d20 ⊢
              subst v20
              go_wp2_with (go_at_call 19; refine (r4edge_any G W a1 n1 d1 a2 n2 d2 a3 n3 d3 (HV.out W hR) (by omega) edge).mono ?_; rintro e' w' ⟨rfl, hm'⟩; rw [HOE.out])
              exact hK _ _ rfl hm'
            refine opsOkA_cons ?_ ?_
            · intro K vs W hR hD hK
              have d17 : vs 17 = .bool false := hD 17 (by decide)
              have d18 : vs 18 = .bool false := hD 18 (by decide)
              have d21 : vs 21 = .bool false := hD 21 (by decide)
              clear hD
              try dsimp only at hK ⊢
              simp only [Act.put, List.setIfInBounds_toArray, List.set_cons_succ, List.set_cons_zero] at hK
              generalize vs 17 = v17 at hK d17 ⊢
              subst v17
              generalize vs 18 = v18 at hK d18 ⊢
              subst v18
              generalize vs 21 = v21 at hK d21 ⊢
              subst v21
              go_wp2
              exact hK _ _ rfl (Mod.refl _ _)
            refine opsOkA_cons ?_ ?_
            · intro K vs W hR hD hK
              have d17 : vs 17 = .bool false := hD 17 (by decide)
              have d22 : vs 22 = .bool false := hD 22 (by decide)
              clear hD
              try dsimp only at hK ⊢
              simp only [Act.put, List.setIfInBounds_toArray, List.set_cons_succ, List.set_cons_zero] at hK
              generalize vs 17 = v17 at hK d17 ⊢
              subst v17
              generalize vs 22 = v22 at hK d22 ⊢
              subst v22
              go_wp2
              exact hK _ _ rfl (Mod.refl _ _)
            refine opsOkA_cons ?_ ?_
            · intro K vs W hR hD hK
              have d23 : vs 23 = .bool false := hD 23 (by decide)
              clear hD
              try dsimp only at hK ⊢
              simp only [Act.put, List.setIfInBounds_toArray, List.set_cons_succ, List.set_cons_zero] at hK
              generalize vs 23 = v23 at hK d23 ⊢
              subst v23
              go_wp2
              exact hK _ _ rfl (Mod.refl _ _)
            refine opsOkA_cons ?_ ?_
            · intro K vs W hR hD hK
              have d24 : vs 24 = .bool false := hD 24 (by decide)
              clear hD
              try dsimp only at hK ⊢
              simp only [Act.put, List.setIfInBounds_toArray, List.set_cons_succ, List.set_cons_zero] at hK
              generalize vs 24 = v24 at hK d24 ⊢
              subst v24
              go_wp2
              exact hK _ _ rfl (Mod.refl _ _)
            refine opsOkA_cons ?_ ?_
            · intro K vs W hR hD hK
              have d24 : vs 24 = .bool false := hD 24 (by decide)
              have d25 : vs 25 = .bool false := hD 25 (by decide)
              clear hD
              try dsimp only at hK ⊢
              simp only [Act.put, List.setIfInBounds_toArray, List.set_cons_succ, List.set_cons_zero] at hK
              generalize vs 24 = v24 at hK d24 ⊢
              subst v24
              generalize vs 25 = v25 at hK d25 ⊢
              subst v25
              go_wp2
              exact hK _ _ rfl (Mod.refl _ _)
            refine opsOkA_cons ?_ ?_
            · intro K vs W hR hD hK
              have d26 : vs 26 = .bool false := hD 26 (by decide)
              clear hD
              try dsimp only at hK ⊢
              simp only [Act.put, List.setIfInBounds_toArray, List.set_cons_succ, List.set_cons_zero] at hK
              generalize vs 26 = v26 at hK d26 ⊢
              subst v26
              go_wp2
              exact hK _ _ rfl (Mod.refl _ _)
            refine opsOkA_cons ?_ ?_
            · intro K vs W hR hD hK
              have d26 : vs 26 = .bool false := hD 26 (by decide)
              clear hD
              try dsimp only at hK ⊢
              simp only [Act.put, List.setIfInBounds_toArray, List.set_cons_succ, List.set_cons_zero] at hK
              generalize vs 26 = v26 at hK d26 ⊢
              subst v26
              go_wp2
              exact hK _ _ rfl (Mod.refl _ _)
            refine opsOkA_cons ?_ ?_
            · intro K vs W hR hD hK
              have d26 : vs 26 = .bool false := hD 26 (by decide)
              clear hD
              try dsimp only at hK ⊢
              simp only [Act.put, List.setIfInBounds_toArray, List.set_cons_succ, List.set_cons_zero] at hK
              generalize vs 26 = v26 at hK d26 ⊢
              subst v26
              go_wp2
              exact hK _ _ rfl (Mod.refl _ _)
            refine opsOkA_cons ?_ ?_
            · intro K vs W hR hD hK
              have d26 : vs 26 = .bool false := hD 26 (by decide)
              clear hD
              try dsimp only at hK ⊢
              simp only [Act.put, List.setIfInBounds_toArray, List.set_cons_succ, List.set_cons_zero] at hK
              generalize vs 26 = v26 at hK d26 ⊢
              subst v26
              go_wp2
              exact hK _ _ rfl (Mod.refl _ _)
            refine opsOkA_cons ?_ ?_
            · intro K vs W hR hD hK
              have d26 : vs 26 = .bool false := hD 26 (by decide)
              clear hD
              try dsimp only at hK ⊢
              simp only [Act.put, List.setIfInBounds_toArray, List.set_cons_succ, List.set_cons_zero] at hK
              generalize vs 26 = v26 at hK d26 ⊢
              subst v26
              go_wp2_with fail
              exact hK _ _ rfl (Mod.refl _ _)
            refine opsOkA_cons ?_ ?_
            · intro K vs W hR hD hK
              have d26 : vs 26 = .bool false := hD 26 (by decide)
              clear hD
              try dsimp only at hK ⊢
              simp only [Act.put, List.setIfInBounds_toArray, List.set_cons_succ, List.set_cons_zero] at hK
              generalize vs 26 = v26 at hK d26 ⊢
              subst v26
              go_wp2
              exact hK _ _ rfl (Mod.refl _ _)
            refine opsOkA_cons ?_ ?_
            · intro K vs W hR hD hK
              have d26 : vs 26 = .bool false := hD 26 (by decide)
              clear hD
              try dsimp only at hK ⊢
              simp only [Act.put, List.setIfInBounds_toArray, List.set_cons_succ, List.set_cons_zero] at hK
              generalize vs 26 = v26 at hK d26 ⊢
              subst v26
              go_wp2
              exact hK _ _ rfl (Mod.refl _ _)
            refine opsOkA_cons ?_ ?_
            · intro K vs W hR hD hK
              have d24 : vs 24 = .bool false := hD 24 (by decide)
              have d26 : vs 26 = .bool false := hD 26 (by decide)
              have d33 : vs 33 = undef := hD 33 (by decide)
              clear hD
              try dsimp only at hK ⊢
              simp only [Act.put, List.setIfInBounds_toArray, List.set_cons_succ, List.set_cons_zero] at hK
              generalize vs 24 = v24 at hK d24 ⊢
              subst v24
              generalize vs 26 = v26 at hK d26 ⊢
              subst v26
              generalize vs 33 = v33 at hK d33 ⊢
              subst v33
              go_wp2
              exact hK _ _ rfl (Mod.refl _ _)
            refine opsOkA_cons ?_ ?_
            · intro K vs W hR hD hK
              have d24 : vs 24 = .bool false := hD 24 (by decide)
              have d34 : vs 34 = .bool false := hD 34 (by decide)
              clear hD
              try dsimp only at hK ⊢
              simp only [Act.put, List.setIfInBounds_toArray, List.set_cons_succ, List.set_cons_zero] at hK
              generalize vs 24 = v24 at hK d24 ⊢
              subst v24
              generalize vs 34 = v34 at hK d34 ⊢
              subst v34
              go_wp2
              exact hK _ _ rfl (Mod.refl _ _)
            refine opsOkA_cons ?_ ?_
            · intro K vs W hR hD hK
              have d35 : vs 35 = .bool false := hD 35 (by decide)
              clear hD
              try dsimp only at hK ⊢
              simp only [Act.put, List.setIfInBounds_toArray, List.set_cons_succ, List.set_cons_zero] at hK
              generalize vs 35 = v35 at hK d35 ⊢
              subst v35
              go_wp2
              exact hK _ _ rfl (Mod.refl _ _)
            refine opsOkA_cons ?_ ?_
            · intro K vs W hR hD hK
              have d36 : vs 36 = .bool false := hD 36 (by decide)
              clear hD
              try dsimp only at hK ⊢
              simp only [Act.put, List.setIfInBounds_toArray, List.set_cons_succ, List.set_cons_zero] at hK
              generalize vs 36 = v36 at hK d36 ⊢
              subst v36
              go_wp2
              exact hK _ _ rfl (Mod.refl _ _)
            refine opsOkA_cons ?_ ?_
            · intro K vs W hR hD hK
              have d36 : vs 36 = .bool false := hD 36 (by decide)
              clear hD
              try dsimp only at hK ⊢
              simp only [Act.put, List.setIfInBounds_toArray, List.set_cons_succ, List.set_cons_zero] at hK
              generalize vs 36 = v36 at hK d36 ⊢
              subst v36
              go_wp2
              exact hK _ _ rfl (Mod.refl _ _)
            refine opsOkA_cons ?_ ?_
            · intro K vs W hR hD hK
              have d36 : vs 36 = .bool false := hD 36 (by decide)
              clear hD
              try dsimp only at hK ⊢
              simp only [Act.put, List.setIfInBounds_toArray, List.set_cons_succ, List.set_cons_zero] at hK
              generalize vs 36 = v36 at hK d36 ⊢
              subst v36
              go_wp2
              exact hK _ _ rfl (Mod.refl _ _)
            refine opsOkA_cons ?_ ?_
            · intro K vs W hR hD hK
              have d36 : vs 36 = .bool false := hD 36 (by decide)
              have d37 : vs 37 = .pointer (some ⟨p, 0, none⟩) := hD 37 (by decide)
              have d38 : vs 38 = .int .i64 va := hD 38 (by decide)
              have d39 : vs 39 = .int .i64 vb := hD 39 (by decide)
              clear hD
              try dsimp only at hK ⊢
              simp only [Act.put, List.setIfInBounds_toArray, List.set_cons_succ, List.set_cons_zero] at hK
              generalize vs 36 = v36 at hK d36 ⊢
              subst v36
              generalize vs 37 = v37 at hK d37 ⊢
              subst v37
              generalize vs 38 = v38 at hK d38 ⊢
              subst v38
              generalize vs 39 = v39 at hK d39 ⊢
              subst v39
              go_wp2_with (go_at_call 20; refine (banned_any p B C W G (HG.out W hR) va vb).mono ?_; rintro e' w' ⟨rfl, hm'⟩; rw [HBB.out])
              exact hK _ _ rfl hm'
            refine opsOkA_cons ?_ ?_
            · intro K vs W hR hD hK
              have d36 : vs 36 = .bool false := hD 36 (by decide)
              clear hD
              try dsimp only at hK ⊢
              simp only [Act.put, List.setIfInBounds_toArray, List.set_cons_succ, List.set_cons_zero] at hK
              generalize vs 36 = v36 at hK d36 ⊢
              subst v36
              have hbx := HBX.out W hR
              have q0 := hbx.cell 0 rfl
              have q1 := hbx.cell 1 rfl
              have q2 := hbx.cell 2 rfl
              go_wp2
              exact hK _ _ rfl (Mod.refl _ _)
            refine opsOkA_cons ?_ ?_
            · intro K vs W hR hD hK
              have d36 : vs 36 = .bool false := hD 36 (by decide)
              clear hD
              try dsimp only at hK ⊢
              simp only [Act.put, List.setIfInBounds_toArray, List.set_cons_succ, List.set_cons_zero] at hK
              generalize vs 36 = v36 at hK d36 ⊢
              subst v36
              go_wp2
              exact hK _ _ rfl (Mod.refl _ _)
            refine opsOkA_cons ?_ ?_
            · intro K vs W hR hD hK
              have d36 : vs 36 = .bool false := hD 36 (by decide)
              clear hD
              try dsimp only at hK ⊢
              simp only [Act.put, List.setIfInBounds_toArray, List.set_cons_succ, List.set_cons_zero] at hK
              generalize vs 36 = v36 at hK d36 ⊢
              subst v36
              go_wp2
              exact hK _ _ rfl (Mod.refl _ _)
            refine opsOkA_cons ?_ ?_
            · intro K vs W hR hD hK
              have d36 : vs 36 = .bool false := hD 36 (by decide)
              have d41 : vs 41 = .agg #[.slice a1 n1 d1, .slice a2 n2 d2, .slice a3 n3 d3] := hD 41 (by decide)
              have d42 : vs 42 = .int .i64 va := hD 42 (by decide)
              have d43 : vs 43 = .int .i64 vb := hD 43 (by decide)
              clear hD
              try dsimp only at hK ⊢
              simp only [Act.put, List.setIfInBounds_toArray, List.set_cons_succ, List.set_cons_zero] at hK
              generalize vs 36 = v36 at hK d36 ⊢
              subst v36
              generalize vs 41 = v41 at hK d41 ⊢
              subst v41
              generalize vs 42 = v42 at hK d42 ⊢
              subst v42
              generalize vs 43 = v43 at hK d43 ⊢
              subst v43
              go_wp2_with (go_at_call 21; refine (r4banned_any G W a1 n1 d1 a2 n2 d2 a3 n3 d3 (HV.out W hR) (by omega) va vb).mono ?_; rintro e' w' ⟨rfl, hm'⟩; rw [HBB.out])
              exact hK _ _ rfl hm'
            refine opsOkA_cons ?_ ?_
            · intro K vs W hR hD hK
              have d36 : vs 36 = .bool false := hD 36 (by decide)
              have d40 : vs 40 = .bool bb := hD 40 (by decide)
              have d44 : vs 44 = .bool bb := hD 44 (by decide)
              clear hD
              try dsimp only at hK ⊢
              simp only [Act.put, List.setIfInBounds_toArray, List.set_cons_succ, List.set_cons_zero] at hK
              generalize vs 36 = v36 at hK d36 ⊢
              subst v36
              generalize vs 40 = v40 at hK d40 ⊢
              subst v40
              generalize vs 44 = v44 at hK d44 ⊢
              subst v44
              go_wp2
              exact hK _ _ rfl (Mod.refl _ _)
            refine opsOkA_cons ?_ ?_
            · intro K vs W hR hD hK
              have d36 : vs 36 = .bool false := hD 36 (by decide)
              have d45 : vs 45 = .bool false := hD 45 (by decide)
              clear hD
              try dsimp only at hK ⊢
              simp only [Act.put, List.setIfInBounds_toArray, List.set_cons_succ, List.set_cons_zero] at hK
              generalize vs 36 = v36 at hK d36 ⊢
              subst v36
              generalize vs 45 = v45 at hK d45 ⊢
              subst v45
              go_wp2
              exact hK _ _ rfl (Mod.refl _ _)
            exact opsOkA_nil
          · intro vs W hR hF
            have d46 : vs 46 = .bool false := hF 46 (by decide)
            clear hF
            try dsimp only
            generalize vs 46 = v46 at d46 ⊢
            subst d46
            go_wp2_with fail
            go_meet
            exact ⟨by simp, (Mod.drew _ _).trans hR (fun _ _ e => e) (fun _ _ e => e)⟩
      | false =>
        cases oke with
        | true =>
          have hk := of_decide_eq_true HOE.out
          obtain ⟨ke, rfl⟩ := Int.eq_ofNat_of_zero_le hk.1
          have hkl : ke < G.E.length := by omega
          have huu := HU.out
          have hvv2 := HVV.out
          have hzz := HZ.out
          rw [if_pos hk, eAt_eq G ke hkl] at huu hvv2 hzz
          obtain ⟨fb, fo, hpl, e1, e2, e3⟩ := rd3 hvv.re ke hkl
          rw [huu] at e1
          rw [hvv2] at e2
          rw [hzz] at e3
          have hixe := fun wx => run_indexS (P := Try.prog) wx 23 41 iE 3 Try.underlying23 hiE hsE a2 n2 d2 ke (by rw [← HE.out]; exact hkl) (hvv.re.some_ (by rw [← HE.out]; omega))
          rw [hpl] at hixe
          have HIE := Lib.hid hixe
          have HEE : Hid (∀ W, Mod (fun _ => False) (World.drew W7) W → W.cell? ⟨fb, fo, none⟩ = some (.int .i64 u) ∧ W.cell? ⟨fb, fo + 1, none⟩ = some (.int .i64 v) ∧ W.cell? ⟨fb, fo + 2, none⟩ = some (.int .i64 z)) := Lib.hid fun W hm => ⟨hm.cell e1 (fun e => e), hm.cell e2 (fun e => e), hm.cell e3 (fun e => e)⟩
          clear hk hkl huu hvv2 hzz hpl e1 e2 e3 hixe hvv
          refine wp_region_inv3 (act := ?acttg10ft) (Mod (fun _ => False)) (fun i => (tg10ft_F p bx nb xb 0 0 fb fo 0 ke n1 d1 n2 d2 n3 d3 node 0 va vb 0 0 u v z bb a1 a2 a3 G).getD i (fun _ _ => True)) (fun i => tg10ft_D.getD i []) (by kernel_rfl) (by kernel_rfl) (by kernel_rfl) (by kernel_rfl) (fun _ => Mod.refl _ _)
            (fun _ _ _ h k => h.trans k (fun _ _ e => e) (fun _ _ e => e)) ?hacttg10ft (stable_list ?_) ?_ ?_
          case hacttg10ft => intro vs; simp only [putAll, Nat.zero_add, Nat.reduceAdd, Act.put, List.setIfInBounds_toArray, List.set_cons_succ, List.set_cons_zero]; exact rfl
          · unfold tg10ft_F
            exact stable_cons (stable_val _) <| stable_cons (stable_val _) <| stable_cons (stable_val _) <| stable_cons (stable_val _) <| stable_cons (stable_val _) <| stable_cons (stable_val _) <| stable_cons (stable_val _) <| stable_cons (stable_val _) <| stable_cons (stable_val _) <| stable_cons (stable_val _) <| stable_cons (stable_val _) <| stable_cons (stable_val _) <| stable_cons (stable_val _) <| stable_cons (stable_val _) <| stable_cons (stable_val _) <| stable_cons (stable_val _) <| stable_cons (stable_val _) <| stable_cons (stable_val _) <| stable_cons (stable_val _) <| stable_cons (stable_val _) <| stable_cons (stable_val _) <| stable_cons (stable_val _) <| stable_cons (stable_val _) <| stable_cons (stable_val _) <| stable_cons (stable_val _) <| stable_cons (stable_val _) <| stable_cons (stable_val _) <| stable_cons (stable_val _) <| stable_cons (stable_val _) <| stable_cons (stable_val _) <| stable_cons (stable_val _) <| stable_cons (stable_val _) <| stable_cons (stable_val _) <| stable_cons (stable_val _) <| stable_cons (stable_val _) <| stable_cons (stable_val _) <| stable_cons (stable_val _) <| stable_cons (stable_val _) <| stable_cons (stable_val _) <| stable_cons (stable_val _) <| stable_cons (stable_val _) <| stable_cons (stable_val _) <| stable_cons (stable_val _) <| stable_cons (stable_val _) <| stable_cons (stable_val _) <| stable_cons (stable_val _) <| stable_cons (stable_val _) <| stable_nil
          · refine opsOkA_cons ?_ ?_
            · intro K vs W hR hD hK
              clear hD
              try dsimp only at hK ⊢
              simp only [Act.put, List.setIfInBounds_toArray, List.set_cons_succ, List.set_cons_zero] at hK
              go_wp2
              exact hK _ _ rfl (Mod.refl _ _)
            refine opsOkA_cons ?_ ?_
            · intro K vs W hR hD hK
              clear hD
              try dsimp only at hK ⊢
              simp only [Act.put, List.setIfInBounds_toArray, List.set_cons_succ, List.set_cons_zero] at hK
              have hbx := HBX.out W hR
              have q0 := hbx.cell 0 rfl
              have q1 := hbx.cell 1 rfl
              have q2 := hbx.cell 2 rfl
              go_wp2
              exact hK _ _ rfl (Mod.refl _ _)
            refine opsOkA_cons ?_ ?_
            · intro K vs W hR hD hK
              clear hD
              try dsimp only at hK ⊢
              simp only [Act.put, List.setIfInBounds_toArray, List.set_cons_succ, List.set_cons_zero] at hK
              go_wp2
              exact hK _ _ rfl (Mod.refl _ _)
            refine opsOkA_cons ?_ ?_
            · intro K vs W hR hD hK
              have d1 : vs 1 = .agg #[.slice a1 n1 d1, .slice a2 n2 d2, .slice a3 n3 d3] := hD 1 (by decide)
              have d2 : vs 2 = .int .i64 node := hD 2 (by decide)
              clear hD
              try dsimp only at hK ⊢
              simp only [Act.put, List.setIfInBounds_toArray, List.set_cons_succ, List.set_cons_zero] at hK
              generalize vs 1 = v1 at hK d1 ⊢
              subst v1
              generalize vs 2 = v2 at hK d2 ⊢
              subst v2
              go_wp2_with (go_at_call 18; refine (r4node_any G W a1 n1 d1 a2 n2 d2 a3 n3 d3 (HV.out W hR) (by omega) node).mono ?_; rintro e' w' ⟨rfl, hm'⟩; rw [HON.out])
              exact hK _ _ rfl hm'
            refine opsOkA_cons ?_ ?_
            · intro K vs W hR hD hK
              have d0 : vs 0 = .bool false := hD 0 (by decide)
              have d3 : vs 3 = .bool false := hD 3 (by decide)
              clear hD
              try dsimp only at hK ⊢
              simp only [Act.put, List.setIfInBounds_toArray, List.set_cons_succ, List.set_cons_zero] at hK
              generalize vs 0 = v0 at hK d0 ⊢
              subst v0
              generalize vs 3 = v3 at hK d3 ⊢
              subst v3
              go_wp2
              exact hK _ _ rfl (Mod.refl _ _)
            refine opsOkA_cons ?_ ?_
            · intro K vs W hR hD hK
              have d4 : vs 4 = .bool false := hD 4 (by decide)
              clear hD
              try dsimp only at hK ⊢
              simp only [Act.put, List.setIfInBounds_toArray, List.set_cons_succ, List.set_cons_zero] at hK
              generalize vs 4 = v4 at hK d4 ⊢
              subst v4
              go_wp2
              exact hK _ _ rfl (Mod.refl _ _)
            refine opsOkA_cons ?_ ?_
            · intro K vs W hR hD hK
              have d5 : vs 5 = .bool false := hD 5 (by decide)
              clear hD
              try dsimp only at hK ⊢
              simp only [Act.put, List.setIfInBounds_toArray, List.set_cons_succ, List.set_cons_zero] at hK
              generalize vs 5 = v5 at hK d5 ⊢
              subst v5
              go_wp2
              exact hK _ _ rfl (Mod.refl _ _)
            refine opsOkA_cons ?_ ?_
            · intro K vs W hR hD hK
              have d5 : vs 5 = .bool false := hD 5 (by decide)
              have d6 : vs 6 = .bool false := hD 6 (by decide)
              clear hD
              try dsimp only at hK ⊢
              simp only [Act.put, List.setIfInBounds_toArray, List.set_cons_succ, List.set_cons_zero] at hK
              generalize vs 5 = v5 at hK d5 ⊢
              subst v5
              generalize vs 6 = v6 at hK d6 ⊢
              subst v6
              go_wp2
              exact hK _ _ rfl (Mod.refl _ _)
            refine opsOkA_cons ?_ ?_
            · intro K vs W hR hD hK
              have d7 : vs 7 = .bool false := hD 7 (by decide)
              clear hD
              try dsimp only at hK ⊢
              simp only [Act.put, List.setIfInBounds_toArray, List.set_cons_succ, List.set_cons_zero] at hK
              generalize vs 7 = v7 at hK d7 ⊢
              subst v7
              go_wp2
              exact hK _ _ rfl (Mod.refl _ _)
            refine opsOkA_cons ?_ ?_
            · intro K vs W hR hD hK
              have d7 : vs 7 = .bool false := hD 7 (by decide)
              clear hD
              try dsimp only at hK ⊢
              simp only [Act.put, List.setIfInBounds_toArray, List.set_cons_succ, List.set_cons_zero] at hK
              generalize vs 7 = v7 at hK d7 ⊢
              subst v7
              go_wp2
              exact hK _ _ rfl (Mod.refl _ _)
            refine opsOkA_cons ?_ ?_
            · intro K vs W hR hD hK
              have d7 : vs 7 = .bool false := hD 7 (by decide)
              clear hD
              try dsimp only at hK ⊢
              simp only [Act.put, List.setIfInBounds_toArray, List.set_cons_succ, List.set_cons_zero] at hK
              generalize vs 7 = v7 at hK d7 ⊢
              subst v7
              go_wp2
              exact hK _ _ rfl (Mod.refl _ _)
            refine opsOkA_cons ?_ ?_
            · intro K vs W hR hD hK
              have d7 : vs 7 = .bool false := hD 7 (by decide)
              clear hD
              try dsimp only at hK ⊢
              simp only [Act.put, List.setIfInBounds_toArray, List.set_cons_succ, List.set_cons_zero] at hK
              generalize vs 7 = v7 at hK d7 ⊢
              subst v7
              go_wp2
              exact hK _ _ rfl (Mod.refl _ _)
            refine opsOkA_cons ?_ ?_
            · intro K vs W hR hD hK
              have d7 : vs 7 = .bool false := hD 7 (by decide)
              clear hD
              try dsimp only at hK ⊢
              simp only [Act.put, List.setIfInBounds_toArray, List.set_cons_succ, List.set_cons_zero] at hK
              generalize vs 7 = v7 at hK d7 ⊢
              subst v7
              go_wp2_with fail
              exact hK _ _ rfl (Mod.refl _ _)
            refine opsOkA_cons ?_ ?_
            · intro K vs W hR hD hK
              have d7 : vs 7 = .bool false := hD 7 (by decide)
              clear hD
              try dsimp only at hK ⊢
              simp only [Act.put, List.setIfInBounds_toArray, List.set_cons_succ, List.set_cons_zero] at hK
              generalize vs 7 = v7 at hK d7 ⊢
              subst v7
              go_wp2
              exact hK _ _ rfl (Mod.refl _ _)
            refine opsOkA_cons ?_ ?_
            · intro K vs W hR hD hK
              have d7 : vs 7 = .bool false := hD 7 (by decide)
              clear hD
              try dsimp only at hK ⊢
              simp only [Act.put, List.setIfInBounds_toArray, List.set_cons_succ, List.set_cons_zero] at hK
              generalize vs 7 = v7 at hK d7 ⊢
              subst v7
              go_wp2
              exact hK _ _ rfl (Mod.refl _ _)
            refine opsOkA_cons ?_ ?_
            · intro K vs W hR hD hK
              have d5 : vs 5 = .bool false := hD 5 (by decide)
              have d7 : vs 7 = .bool false := hD 7 (by decide)
              have d14 : vs 14 = undef := hD 14 (by decide)
              clear hD
              try dsimp only at hK ⊢
              simp only [Act.put, List.setIfInBounds_toArray, List.set_cons_succ, List.set_cons_zero] at hK
              generalize vs 5 = v5 at hK d5 ⊢
              subst v5
              generalize vs 7 = v7 at hK d7 ⊢
              subst v7
              generalize vs 14 = v14 at hK d14 ⊢
              subst v14
              go_wp2
              exact hK _ _ rfl (Mod.refl _ _)
            refine opsOkA_cons ?_ ?_
            · intro K vs W hR hD hK
              have d5 : vs 5 = .bool false := hD 5 (by decide)
              have d15 : vs 15 = .bool false := hD 15 (by decide)
              clear hD
              try dsimp only at hK ⊢
              simp only [Act.put, List.setIfInBounds_toArray, List.set_cons_succ, List.set_cons_zero] at hK
              generalize vs 5 = v5 at hK d5 ⊢
              subst v5
              generalize vs 15 = v15 at hK d15 ⊢
              subst v15
              go_wp2
              exact hK _ _ rfl (Mod.refl _ _)
            refine opsOkA_cons ?_ ?_
            · intro K vs W hR hD hK
              have d16 : vs 16 = .bool false := hD 16 (by decide)
              clear hD
              try dsimp only at hK ⊢
              simp only [Act.put, List.setIfInBounds_toArray, List.set_cons_succ, List.set_cons_zero] at hK
              generalize vs 16 = v16 at hK d16 ⊢
              subst v16
              go_wp2
              exact hK _ _ rfl (Mod.refl _ _)
            refine opsOkA_cons ?_ ?_
            · intro K vs W hR hD hK
              have d17 : vs 17 = .bool false := hD 17 (by decide)
              clear hD
              try dsimp only at hK ⊢
              simp only [Act.put, List.setIfInBounds_toArray, List.set_cons_succ, List.set_cons_zero] at hK
              generalize vs 17 = v17 at hK d17 ⊢
              subst v17
              go_wp2
              exact hK _ _ rfl (Mod.refl _ _)
            refine opsOkA_cons ?_ ?_
            · intro K vs W hR hD hK
              have d17 : vs 17 = .bool false := hD 17 (by decide)
              clear hD
              try dsimp only at hK ⊢
              simp only [Act.put, List.setIfInBounds_toArray, List.set_cons_succ, List.set_cons_zero] at hK
              generalize vs 17 = v17 at hK d17 ⊢
              subst v17
              have hbx := HBX.out W hR
              have q0 := hbx.cell 0 rfl
              have q1 := hbx.cell 1 rfl
              have q2 := hbx.cell 2 rfl
              go_wp2
              exact hK _ _ rfl (Mod.refl _ _)
            refine opsOkA_cons ?_ ?_
            · intro K vs W hR hD hK
              have d17 : vs 17 = .bool false := hD 17 (by decide)
              clear hD
              try dsimp only at hK ⊢
              simp only [Act.put, List.setIfInBounds_toArray, List.set_cons_succ, List.set_cons_zero] at hK
              generalize vs 17 = v17 at hK d17 ⊢
              subst v17
              go_wp2
              exact hK _ _ rfl (Mod.refl _ _)
            refine opsOkA_cons ?_ ?_
            · intro K vs W hR hD hK
              have d17 : vs 17 = .bool false := hD 17 (by decide)
              have d19 : vs 19 = .agg #[.slice a1 n1 d1, .slice a2 n2 d2, .slice a3 n3 d3] := hD 19 (by decide)
              have d20 : vs 20 = .int .i64 (ke : Int) := hD 20 (by decide)
              clear hD
              try dsimp only at hK ⊢
              simp only [Act.put, List.setIfInBounds_toArray, List.set_cons_succ, List.set_cons_zero] at hK
              generalize vs 17 = v17 at hK d17 ⊢
              subst v17
              generalize vs 19 = v19 at hK d19 ⊢
              subst v19
              generalize vs 20 = v20 at hK d20 ⊢
              subst v20
              go_wp2_with (go_at_call 19; refine (r4edge_any G W a1 n1 d1 a2 n2 d2 a3 n3 d3 (HV.out W hR) (by omega) (ke : Int)).mono ?_; rintro e' w' ⟨rfl, hm'⟩; rw [HOE.out])
              exact hK _ _ rfl hm'
            refine opsOkA_cons ?_ ?_
            · intro K vs W hR hD hK
              have d17 : vs 17 = .bool false := hD 17 (by decide)
              have d18 : vs 18 = .bool true := hD 18 (by decide)
              have d21 : vs 21 = .bool true := hD 21 (by decide)
              clear hD
              try dsimp only at hK ⊢
              simp only [Act.put, List.setIfInBounds_toArray, List.set_cons_succ, List.set_cons_zero] at hK
              generalize vs 17 = v17 at hK d17 ⊢
              subst v17
              generalize vs 18 = v18 at hK d18 ⊢
              subst v18
              generalize vs 21 = v21 at hK d21 ⊢
              subst v21
              go_wp2
              exact hK _ _ rfl (Mod.refl _ _)
            refine opsOkA_cons ?_ ?_
            · intro K vs W hR hD hK
              have d17 : vs 17 = .bool false := hD 17 (by decide)
              have d22 : vs 22 = .bool false := hD 22 (by decide)
              clear hD
              try dsimp only at hK ⊢
              simp only [Act.put, List.setIfInBounds_toArray, List.set_cons_succ, List.set_cons_zero] at hK
              generalize vs 17 = v17 at hK d17 ⊢
              subst v17
              generalize vs 22 = v22 at hK d22 ⊢
              subst v22
              go_wp2
              exact hK _ _ rfl (Mod.refl _ _)
            refine opsOkA_cons ?_ ?_
            · intro K vs W hR hD hK
              have d23 : vs 23 = .bool false := hD 23 (by decide)
              clear hD
              try dsimp only at hK ⊢
              simp only [Act.put, List.setIfInBounds_toArray, List.set_cons_succ, List.set_cons_zero] at hK
              generalize vs 23 = v23 at hK d23 ⊢
              subst v23
              go_wp2
              exact hK _ _ rfl (Mod.refl _ _)
            refine opsOkA_cons ?_ ?_
            · intro K vs W hR hD hK
              have d24 : vs 24 = .bool false := hD 24 (by decide)
              clear hD
              try dsimp only at hK ⊢
              simp only [Act.put, List.setIfInBounds_toArray, List.set_cons_succ, List.set_cons_zero] at hK
              generalize vs 24 = v24 at hK d24 ⊢
              subst v24
              go_wp2
              exact hK _ _ rfl (Mod.refl _ _)
            refine opsOkA_cons ?_ ?_
            · intro K vs W hR hD hK
              have d24 : vs 24 = .bool false := hD 24 (by decide)
              have d25 : vs 25 = .bool true := hD 25 (by decide)
              clear hD
              try dsimp only at hK ⊢
              simp only [Act.put, List.setIfInBounds_toArray, List.set_cons_succ, List.set_cons_zero] at hK
              generalize vs 24 = v24 at hK d24 ⊢
              subst v24
              generalize vs 25 = v25 at hK d25 ⊢
              subst v25
              go_wp2
              exact hK _ _ rfl (Mod.refl _ _)
            refine opsOkA_cons ?_ ?_
            · intro K vs W hR hD hK
              have d26 : vs 26 = .bool true := hD 26 (by decide)
              clear hD
              try dsimp only at hK ⊢
              simp only [Act.put, List.setIfInBounds_toArray, List.set_cons_succ, List.set_cons_zero] at hK
              generalize vs 26 = v26 at hK d26 ⊢
              subst v26
              have hxb := HXB.out W hR
              have q0 := hxb.cell 0 rfl
              have q1 := hxb.cell 1 rfl
              have q2 := hxb.cell 2 rfl
              go_wp2
              exact hK _ _ rfl (Mod.refl _ _)
            refine opsOkA_cons ?_ ?_
            · intro K vs W hR hD hK
              have d26 : vs 26 = .bool true := hD 26 (by decide)
              clear hD
              try dsimp only at hK ⊢
              simp only [Act.put, List.setIfInBounds_toArray, List.set_cons_succ, List.set_cons_zero] at hK
              generalize vs 26 = v26 at hK d26 ⊢
              subst v26
              go_wp2
              exact hK _ _ rfl (Mod.refl _ _)
            refine opsOkA_cons ?_ ?_
            · intro K vs W hR hD hK
              have d26 : vs 26 = .bool true := hD 26 (by decide)
              have d28 : vs 28 = .pointer (some ⟨bx, 1, none⟩) := hD 28 (by decide)
              clear hD
              try dsimp only at hK ⊢
              simp only [Act.put, List.setIfInBounds_toArray, List.set_cons_succ, List.set_cons_zero] at hK
              generalize vs 26 = v26 at hK d26 ⊢
              subst v26
              generalize vs 28 = v28 at hK d28 ⊢
              subst v28
              have hbx := HBX.out W hR
              have q0 := hbx.cell 0 rfl
              have q1 := hbx.cell 1 rfl
              have q2 := hbx.cell 2 rfl
              go_wp2
              exact hK _ _ rfl (Mod.refl _ _)
            refine opsOkA_cons ?_ ?_
            · intro K vs W hR hD hK
              have d26 : vs 26 = .bool true := hD 26 (by decide)
              clear hD
              try dsimp only at hK ⊢
              simp only [Act.put, List.setIfInBounds_toArray, List.set_cons_succ, List.set_cons_zero] at hK
              generalize vs 26 = v26 at hK d26 ⊢
              subst v26
              go_wp2
              exact hK _ _ rfl (Mod.refl _ _)
            refine opsOkA_cons ?_ ?_
            · intro K vs W hR hD hK
              have d26 : vs 26 = .bool true := hD 26 (by decide)
              have d29 : vs 29 = .slice a2 n2 d2 := hD 29 (by decide)
              have d30 : vs 30 = .int .i64 (ke : Int) := hD 30 (by decide)
              clear hD
              try dsimp only at hK ⊢
              simp only [Act.put, List.setIfInBounds_toArray, List.set_cons_succ, List.set_cons_zero] at hK
              generalize vs 26 = v26 at hK d26 ⊢
              subst v26
              generalize vs 29 = v29 at hK d29 ⊢
              subst v29
              generalize vs 30 = v30 at hK d30 ⊢
              subst v30
              have hixe := HIE.out
              go_wp2_with fail
              exact hK _ _ rfl (Mod.refl _ _)
            refine opsOkA_cons ?_ ?_
            · intro K vs W hR hD hK
              have d26 : vs 26 = .bool true := hD 26 (by decide)
              have d31 : vs 31 = .pointer (some ⟨fb, fo, none⟩) := hD 31 (by decide)
              clear hD
              try dsimp only at hK ⊢
              simp only [Act.put, List.setIfInBounds_toArray, List.set_cons_succ, List.set_cons_zero] at hK
              generalize vs 26 = v26 at hK d26 ⊢
              subst v26
              generalize vs 31 = v31 at hK d31 ⊢
              subst v31
              obtain ⟨q0, q1, q2⟩ := HEE.out W hR
              go_wp2
              exact hK _ _ rfl (Mod.refl _ _)
            refine opsOkA_cons ?_ ?_
            · intro K vs W hR hD hK
              have d26 : vs 26 = .bool true := hD 26 (by decide)
              have d27 : vs 27 = .agg #[.int .i64 u, .int .i64 v, .int .i64 z] := hD 27 (by decide)
              have d32 : vs 32 = .agg #[.int .i64 u, .int .i64 v, .int .i64 z] := hD 32 (by decide)
              clear hD
              try dsimp only at hK ⊢
              simp only [Act.put, List.setIfInBounds_toArray, List.set_cons_succ, List.set_cons_zero] at hK
              generalize vs 26 = v26 at hK d26 ⊢
              subst v26
              generalize vs 27 = v27 at hK d27 ⊢
              subst v27
              generalize vs 32 = v32 at hK d32 ⊢
              subst v32
              go_wp2
              exact hK _ _ rfl (Mod.refl _ _)
            refine opsOkA_cons ?_ ?_
            · intro K vs W hR hD hK
              have d24 : vs 24 = .bool false := hD 24 (by decide)
              have d26 : vs 26 = .bool true := hD 26 (by decide)
              have d33 : vs 33 = .bool false := hD 33 (by decide)
              clear hD
              try dsimp only at hK ⊢
              simp only [Act.put, List.setIfInBounds_toArray, List.set_cons_succ, List.set_cons_zero] at hK
              generalize vs 24 = v24 at hK d24 ⊢
              subst v24
              generalize vs 26 = v26 at hK d26 ⊢
              subst v26
              generalize vs 33 = v33 at hK d33 ⊢
              subst v33
              go_wp2
              exact hK _ _ rfl (Mod.refl _ _)
            refine opsOkA_cons ?_ ?_
            · intro K vs W hR hD hK
              have d24 : vs 24 = .bool false := hD 24 (by decide)
              have d34 : vs 34 = .bool false := hD 34 (by decide)
              clear hD
              try dsimp only at hK ⊢
              simp only [Act.put, List.setIfInBounds_toArray, List.set_cons_succ, List.set_cons_zero] at hK
              generalize vs 24 = v24 at hK d24 ⊢
              subst v24
              generalize vs 34 = v34 at hK d34 ⊢
              subst v34
              go_wp2
              exact hK _ _ rfl (Mod.refl _ _)
            refine opsOkA_cons ?_ ?_
            · intro K vs W hR hD hK
              have d35 : vs 35 = .bool false := hD 35 (by decide)
              clear hD
              try dsimp only at hK ⊢
              simp only [Act.put, List.setIfInBounds_toArray, List.set_cons_succ, List.set_cons_zero] at hK
              generalize vs 35 = v35 at hK d35 ⊢
              subst v35
              go_wp2
              exact hK _ _ rfl (Mod.refl _ _)
            refine opsOkA_cons ?_ ?_
            · intro K vs W hR hD hK
              have d36 : vs 36 = .bool false := hD 36 (by decide)
              clear hD
              try dsimp only at hK ⊢
              simp only [Act.put, List.setIfInBounds_toArray, List.set_cons_succ, List.set_cons_zero] at hK
              generalize vs 36 = v36 at hK d36 ⊢
              subst v36
              go_wp2
              exact hK _ _ rfl (Mod.refl _ _)
            refine opsOkA_cons ?_ ?_
            · intro K vs W hR hD hK
              have d36 : vs 36 = .bool false := hD 36 (by decide)
              clear hD
              try dsimp only at hK ⊢
              simp only [Act.put, List.setIfInBounds_toArray, List.set_cons_succ, List.set_cons_zero] at hK
              generalize vs 36 = v36 at hK d36 ⊢
              subst v36
              go_wp2
              exact hK _ _ rfl (Mod.refl _ _)
            refine opsOkA_cons ?_ ?_
            · intro K vs W hR hD hK
              have d36 : vs 36 = .bool false := hD 36 (by decide)
              clear hD
              try dsimp only at hK ⊢
              simp only [Act.put, List.setIfInBounds_toArray, List.set_cons_succ, List.set_cons_zero] at hK
              generalize vs 36 = v36 at hK d36 ⊢
              subst v36
              go_wp2
              exact hK _ _ rfl (Mod.refl _ _)
            refine opsOkA_cons ?_ ?_
            · intro K vs W hR hD hK
              have d36 : vs 36 = .bool false := hD 36 (by decide)
              have d37 : vs 37 = .pointer (some ⟨p, 0, none⟩) := hD 37 (by decide)
              have d38 : vs 38 = .int .i64 va := hD 38 (by decide)
              have d39 : vs 39 = .int .i64 vb := hD 39 (by decide)
              clear hD
              try dsimp only at hK ⊢
              simp only [Act.put, List.setIfInBounds_toArray, List.set_cons_succ, List.set_cons_zero] at hK
              generalize vs 36 = v36 at hK d36 ⊢
              subst v36
              generalize vs 37 = v37 at hK d37 ⊢
              subst v37
              generalize vs 38 = v38 at hK d38 ⊢
              subst v38
              generalize vs 39 = v39 at hK d39 ⊢
              subst v39
              go_wp2_with (go_at_call 20; refine (banned_any p B C W G (HG.out W hR) va vb).mono ?_; rintro e' w' ⟨rfl, hm'⟩; rw [HBB.out])
              exact hK _ _ rfl hm'
            refine opsOkA_cons ?_ ?_
            · intro K vs W hR hD hK
              have d36 : vs 36 = .bool false := hD 36 (by decide)
              clear hD
              try dsimp only at hK ⊢
              simp only [Act.put, List.setIfInBounds_toArray, List.set_cons_succ, List.set_cons_zero] at hK
              generalize vs 36 = v36 at hK d36 ⊢
              subst v36
              have hbx := HBX.out W hR
              have q0 := hbx.cell 0 rfl
              have q1 := hbx.cell 1 rfl
              have q2 := hbx.cell 2 rfl
              go_wp2
              exact hK _ _ rfl (Mod.refl _ _)
            refine opsOkA_cons ?_ ?_
            · intro K vs W hR hD hK
              have d36 : vs 36 = .bool false := hD 36 (by decide)
              clear hD
              try dsimp only at hK ⊢
              simp only [Act.put, List.setIfInBounds_toArray, List.set_cons_succ, List.set_cons_zero] at hK
              generalize vs 36 = v36 at hK d36 ⊢
              subst v36
              go_wp2
              exact hK _ _ rfl (Mod.refl _ _)
            refine opsOkA_cons ?_ ?_
            · intro K vs W hR hD hK
              have d36 : vs 36 = .bool false := hD 36 (by decide)
              clear hD
              try dsimp only at hK ⊢
              simp only [Act.put, List.setIfInBounds_toArray, List.set_cons_succ, List.set_cons_zero] at hK
              generalize vs 36 = v36 at hK d36 ⊢
              subst v36
              go_wp2
              exact hK _ _ rfl (Mod.refl _ _)
            refine opsOkA_cons ?_ ?_
            · intro K vs W hR hD hK
              have d36 : vs 36 = .bool false := hD 36 (by decide)
              have d41 : vs 41 = .agg #[.slice a1 n1 d1, .slice a2 n2 d2, .slice a3 n3 d3] := hD 41 (by decide)
              have d42 : vs 42 = .int .i64 va := hD 42 (by decide)
              have d43 : vs 43 = .int .i64 vb := hD 43 (by decide)
              clear hD
              try dsimp only at hK ⊢
              simp only [Act.put, List.setIfInBounds_toArray, List.set_cons_succ, List.set_cons_zero] at hK
              generalize vs 36 = v36 at hK d36 ⊢
              subst v36
              generalize vs 41 = v41 at hK d41 ⊢
              subst v41
              generalize vs 42 = v42 at hK d42 ⊢
              subst v42
              generalize vs 43 = v43 at hK d43 ⊢
              subst v43
              go_wp2_with (go_at_call 21; refine (r4banned_any G W a1 n1 d1 a2 n2 d2 a3 n3 d3 (HV.out W hR) (by omega) va vb).mono ?_; rintro e' w' ⟨rfl, hm'⟩; rw [HBB.out])
              exact hK _ _ rfl hm'
            refine opsOkA_cons ?_ ?_
            · intro K vs W hR hD hK
              have d36 : vs 36 = .bool false := hD 36 (by decide)
              have d40 : vs 40 = .bool bb := hD 40 (by decide)
              have d44 : vs 44 = .bool bb := hD 44 (by decide)
              clear hD
              try dsimp only at hK ⊢
              simp only [Act.put, List.setIfInBounds_toArray, List.set_cons_succ, List.set_cons_zero] at hK
              generalize vs 36 = v36 at hK d36 ⊢
              subst v36
              generalize vs 40 = v40 at hK d40 ⊢
              subst v40
              generalize vs 44 = v44 at hK d44 ⊢
              subst v44
              go_wp2
              exact hK _ _ rfl (Mod.refl _ _)
            refine opsOkA_cons ?_ ?_
            · intro K vs W hR hD hK
              have d36 : vs 36 = .bool false := hD 36 (by decide)
              have d45 : vs 45 = .bool false := hD 45 (by decide)
              clear hD
              try dsimp only at hK ⊢
              simp only [Act.put, List.setIfInBounds_toArray, List.set_cons_succ, List.set_cons_zero] at hK
              generalize vs 36 = v36 at hK d36 ⊢
              subst v36
              generalize vs 45 = v45 at hK d45 ⊢
              subst v45
              go_wp2
              exact hK _ _ rfl (Mod.refl _ _)
            exact opsOkA_nil
          · intro vs W hR hF
            have d46 : vs 46 = .bool false := hF 46 (by decide)
            clear hF
            try dsimp only
            generalize vs 46 = v46 at d46 ⊢
            subst d46
            go_wp2_with fail
            go_meet
            exact ⟨by simp, (Mod.drew _ _).trans hR (fun _ _ e => e) (fun _ _ e => e)⟩
        | false =>
          clear hvv
          refine wp_region_inv3 (act := ?acttg10ff) (Mod (fun _ => False)) (fun i => (tg10ff_F p bx nb xb 0 0 0 0 0 0 n1 d1 n2 d2 n3 d3 node edge va vb 0 0 0 0 0 bb a1 a2 a3 G).getD i (fun _ _ => True)) (fun i => tg10ff_D.getD i []) (by kernel_rfl) (by kernel_rfl) (by kernel_rfl) (by kernel_rfl) (fun _ => Mod.refl _ _)
            (fun _ _ _ h k => h.trans k (fun _ _ e => e) (fun _ _ e => e)) ?hacttg10ff (stable_list ?_) ?_ ?_
          case hacttg10ff => intro vs; simp only [putAll, Nat.zero_add, Nat.reduceAdd, Act.put, List.setIfInBounds_toArray, List.set_cons_succ, List.set_cons_zero]; exact rfl
          · unfold tg10ff_F
            exact stable_cons (stable_val _) <| stable_cons (stable_val _) <| stable_cons (stable_val _) <| stable_cons (stable_val _) <| stable_cons (stable_val _) <| stable_cons (stable_val _) <| stable_cons (stable_val _) <| stable_cons (stable_val _) <| stable_cons (stable_val _) <| stable_cons (stable_val _) <| stable_cons (stable_val _) <| stable_cons (stable_val _) <| stable_cons (stable_val _) <| stable_cons (stable_val _) <| stable_cons (stable_val _) <| stable_cons (stable_val _) <| stable_cons (stable_val _) <| stable_cons (stable_val _) <| stable_cons (stable_val _) <| stable_cons (stable_val _) <| stable_cons (stable_val _) <| stable_cons (stable_val _) <| stable_cons (stable_val _) <| stable_cons (stable_val _) <| stable_cons (stable_val _) <| stable_cons (stable_val _) <| stable_cons (stable_val _) <| stable_cons (stable_val _) <| stable_cons (stable_val _) <| stable_cons (stable_val _) <| stable_cons (stable_val _) <| stable_cons (stable_val _) <| stable_cons (stable_val _) <| stable_cons (stable_val _) <| stable_cons (stable_val _) <| stable_cons (stable_val _) <| stable_cons (stable_val _) <| stable_cons (stable_val _) <| stable_cons (stable_val _) <| stable_cons (stable_val _) <| stable_cons (stable_val _) <| stable_cons (stable_val _) <| stable_cons (stable_val _) <| stable_cons (stable_val _) <| stable_cons (stable_val _) <| stable_cons (stable_val _) <| stable_cons (stable_val _) <| stable_nil
          · refine opsOkA_cons ?_ ?_
            · intro K vs W hR hD hK
              clear hD
              try dsimp only at hK ⊢
              simp only [Act.put, List.setIfInBounds_toArray, List.set_cons_succ, List.set_cons_zero] at hK
              go_wp2
              exact hK _ _ rfl (Mod.refl _ _)
            refine opsOkA_cons ?_ ?_
            · intro K vs W hR hD hK
              clear hD
              try dsimp only at hK ⊢
              simp only [Act.put, List.setIfInBounds_toArray, List.set_cons_succ, List.set_cons_zero] at hK
              have hbx := HBX.out W hR
              have q0 := hbx.cell 0 rfl
              have q1 := hbx.cell 1 rfl
              have q2 := hbx.cell 2 rfl
              go_wp2
              exact hK _ _ rfl (Mod.refl _ _)
            refine opsOkA_cons ?_ ?_
            · intro K vs W hR hD hK
              clear hD
              try dsimp only at hK ⊢
              simp only [Act.put, List.setIfInBounds_toArray, List.set_cons_succ, List.set_cons_zero] at hK
              go_wp2
              exact hK _ _ rfl (Mod.refl _ _)
            refine opsOkA_cons ?_ ?_
            · intro K vs W hR hD hK
              have d1 : vs 1 = .agg #[.slice a1 n1 d1, .slice a2 n2 d2, .slice a3 n3 d3] := hD 1 (by decide)
              have d2 : vs 2 = .int .i64 node := hD 2 (by decide)
              clear hD
              try dsimp only at hK ⊢
              simp only [Act.put, List.setIfInBounds_toArray, List.set_cons_succ, List.set_cons_zero] at hK
              generalize vs 1 = v1 at hK d1 ⊢
              subst v1
              generalize vs 2 = v2 at hK d2 ⊢
              subst v2
              go_wp2_with (go_at_call 18; refine (r4node_any G W a1 n1 d1 a2 n2 d2 a3 n3 d3 (HV.out W hR) (by omega) node).mono ?_; rintro e' w' ⟨rfl, hm'⟩; rw [HON.out])
              exact hK _ _ rfl hm'
            refine opsOkA_cons ?_ ?_
            · intro K vs W hR hD hK
              have d0 : vs 0 = .bool false := hD 0 (by decide)
              have d3 : vs 3 = .bool false := hD 3 (by decide)
              clear hD
              try dsimp only at hK ⊢
              simp only [Act.put, List.setIfInBounds_toArray, List.set_cons_succ, List.set_cons_zero] at hK
              generalize vs 0 = v0 at hK d0 ⊢
              subst v0
              generalize vs 3 = v3 at hK d3 ⊢
              subst v3
              go_wp2
              exact hK _ _ rfl (Mod.refl _ _)
            refine opsOkA_cons ?_ ?_
            · intro K vs W hR hD hK
              have d4 : vs 4 = .bool false := hD 4 (by decide)
              clear hD
              try dsimp only at hK ⊢
              simp only [Act.put, List.setIfInBounds_toArray, List.set_cons_succ, List.set_cons_zero] at hK
              generalize vs 4 = v4 at hK d4 ⊢
              subst v4
              go_wp2
              exact hK _ _ rfl (Mod.refl _ _)
            refine opsOkA_cons ?_ ?_
            · intro K vs W hR hD hK
              have d5 : vs 5 = .bool false := hD 5 (by decide)
              clear hD
              try dsimp only at hK ⊢
              simp only [Act.put, List.setIfInBounds_toArray, List.set_cons_succ, List.set_cons_zero] at hK
              generalize vs 5 = v5 at hK d5 ⊢
              subst v5
              go_wp2
              exact hK _ _ rfl (Mod.refl _ _)
            refine opsOkA_cons ?_ ?_
            · intro K vs W hR hD hK
              have d5 : vs 5 = .bool false := hD 5 (by decide)
              have d6 : vs 6 = .bool false := hD 6 (by decide)
              clear hD
              try dsimp only at hK ⊢
              simp only [Act.put, List.setIfInBounds_toArray, List.set_cons_succ, List.set_cons_zero] at hK
              generalize vs 5 = v5 at hK d5 ⊢
              subst v5
              generalize vs 6 = v6 at hK d6 ⊢
              subst v6
              go_wp2
              exact hK _ _ rfl (Mod.refl _ _)
            refine opsOkA_cons ?_ ?_
            · intro K vs W hR hD hK
              have d7 : vs 7 = .bool false := hD 7 (by decide)
              clear hD
              try dsimp only at hK ⊢
              simp only [Act.put, List.setIfInBounds_toArray, List.set_cons_succ, List.set_cons_zero] at hK
              generalize vs 7 = v7 at hK d7 ⊢
              subst v7
              go_wp2
              exact hK _ _ rfl (Mod.refl _ _)
            refine opsOkA_cons ?_ ?_
            · intro K vs W hR hD hK
              have d7 : vs 7 = .bool false := hD 7 (by decide)
              clear hD
              try dsimp only at hK ⊢
              simp only [Act.put, List.setIfInBounds_toArray, List.set_cons_succ, List.set_cons_zero] at hK
              generalize vs 7 = v7 at hK d7 ⊢
              subst v7
              go_wp2
              exact hK _ _ rfl (Mod.refl _ _)
            refine opsOkA_cons ?_ ?_
            · intro K vs W hR hD hK
              have d7 : vs 7 = .bool false := hD 7 (by decide)
              clear hD
              try dsimp only at hK ⊢
              simp only [Act.put, List.setIfInBounds_toArray, List.set_cons_succ, List.set_cons_zero] at hK
              generalize vs 7 = v7 at hK d7 ⊢
              subst v7
              go_wp2
              exact hK _ _ rfl (Mod.refl _ _)
            refine opsOkA_cons ?_ ?_
            · intro K vs W hR hD hK
              have d7 : vs 7 = .bool false := hD 7 (by decide)
              clear hD
              try dsimp only at hK ⊢
              simp only [Act.put, List.setIfInBounds_toArray, List.set_cons_succ, List.set_cons_zero] at hK
              generalize vs 7 = v7 at hK d7 ⊢
              subst v7
              go_wp2
              exact hK _ _ rfl (Mod.refl _ _)
            refine opsOkA_cons ?_ ?_
            · intro K vs W hR hD hK
              have d7 : vs 7 = .bool false := hD 7 (by decide)
              clear hD
              try dsimp only at hK ⊢
              simp only [Act.put, List.setIfInBounds_toArray, List.set_cons_succ, List.set_cons_zero] at hK
              generalize vs 7 = v7 at hK d7 ⊢
              subst v7
              go_wp2_with fail
              exact hK _ _ rfl (Mod.refl _ _)
            refine opsOkA_cons ?_ ?_
            · intro K vs W hR hD hK
              have d7 : vs 7 = .bool false := hD 7 (by decide)
              clear hD
              try dsimp only at hK ⊢
              simp only [Act.put, List.setIfInBounds_toArray, List.set_cons_succ, List.set_cons_zero] at hK
              generalize vs 7 = v7 at hK d7 ⊢
              subst v7
              go_wp2
              exact hK _ _ rfl (Mod.refl _ _)
            refine opsOkA_cons ?_ ?_
            · intro K vs W hR hD hK
              have d7 : vs 7 = .bool false := hD 7 (by decide)
              clear hD
              try dsimp only at hK ⊢
              simp only [Act.put, List.setIfInBounds_toArray, List.set_cons_succ, List.set_cons_zero] at hK
              generalize vs 7 = v7 at hK d7 ⊢
              subst v7
              go_wp2
              exact hK _ _ rfl (Mod.refl _ _)
            refine opsOkA_cons ?_ ?_
            · intro K vs W hR hD hK
              have d5 : vs 5 = .bool false := hD 5 (by decide)
              have d7 : vs 7 = .bool false := hD 7 (by decide)
              have d14 : vs 14 = undef := hD 14 (by decide)
              clear hD
              try dsimp only at hK ⊢
              simp only [Act.put, List.setIfInBounds_toArray, List.set_cons_succ, List.set_cons_zero] at hK
              generalize vs 5 = v5 at hK d5 ⊢
              subst v5
              generalize vs 7 = v7 at hK d7 ⊢
              subst v7
              generalize vs 14 = v14 at hK d14 ⊢
              subst v14
              go_wp2
              exact hK _ _ rfl (Mod.refl _ _)
            refine opsOkA_cons ?_ ?_
            · intro K vs W hR hD hK
              have d5 : vs 5 = .bool false := hD 5 (by decide)
              have d15 : vs 15 = .bool false := hD 15 (by decide)
              clear hD
              try dsimp only at hK ⊢
              simp only [Act.put, List.setIfInBounds_toArray, List.set_cons_succ, List.set_cons_zero] at hK
              generalize vs 5 = v5 at hK d5 ⊢
              subst v5
              generalize vs 15 = v15 at hK d15 ⊢
              subst v15
              go_wp2
              exact hK _ _ rfl (Mod.refl _ _)
            refine opsOkA_cons ?_ ?_
            · intro K vs W hR hD hK
              have d16 : vs 16 = .bool false := hD 16 (by decide)
              clear hD
              try dsimp only at hK ⊢
              simp only [Act.put, List.setIfInBounds_toArray, List.set_cons_succ, List.set_cons_zero] at hK
              generalize vs 16 = v16 at hK d16 ⊢
              subst v16
              go_wp2
              exact hK _ _ rfl (Mod.refl _ _)
            refine opsOkA_cons ?_ ?_
            · intro K vs W hR hD hK
              have d17 : vs 17 = .bool false := hD 17 (by decide)
              clear hD
              try dsimp only at hK ⊢
              simp only [Act.put, List.setIfInBounds_toArray, List.set_cons_succ, List.set_cons_zero] at hK
              generalize vs 17 = v17 at hK d17 ⊢
              subst v17
              go_wp2
              exact hK _ _ rfl (Mod.refl _ _)
            refine opsOkA_cons ?_ ?_
            · intro K vs W hR hD hK
              have d17 : vs 17 = .bool false := hD 17 (by decide)
              clear hD
              try dsimp only at hK ⊢
              simp only [Act.put, List.setIfInBounds_toArray, List.set_cons_succ, List.set_cons_zero] at hK
              generalize vs 17 = v17 at hK d17 ⊢
              subst v17
              have hbx := HBX.out W hR
              have q0 := hbx.cell 0 rfl
              have q1 := hbx.cell 1 rfl
              have q2 := hbx.cell 2 rfl
              go_wp2
              exact hK _ _ rfl (Mod.refl _ _)
            refine opsOkA_cons ?_ ?_
            · intro K vs W hR hD hK
              have d17 : vs 17 = .bool false := hD 17 (by decide)
              clear hD
              try dsimp only at hK ⊢
              simp only [Act.put, List.setIfInBounds_toArray, List.set_cons_succ, List.set_cons_zero] at hK
              generalize vs 17 = v17 at hK d17 ⊢
              subst v17
              go_wp2
              exact hK _ _ rfl (Mod.refl _ _)
            refine opsOkA_cons ?_ ?_
            · intro K vs W hR hD hK
              have d17 : vs 17 = .bool false := hD 17 (by decide)
              have d19 : vs 19 = .agg #[.slice a1 n1 d1, .slice a2 n2 d2, .slice a3 n3 d3] := hD 19 (by decide)
              have d20 : vs 20 = .int .i64 edge := hD 20 (by decide)
              clear hD
              try dsimp only at hK ⊢
              simp only [Act.put, List.setIfInBounds_toArray, List.set_cons_succ, List.set_cons_zero] at hK
              generalize vs 17 = v17 at hK d17 ⊢
              subst v17
              generalize vs 19 = v19 at hK d19 ⊢
              subst v19
              generalize vs 20 = v20 at hK d20 ⊢
              subst v20
              go_wp2_with (go_at_call 19; refine (r4edge_any G W a1 n1 d1 a2 n2 d2 a3 n3 d3 (HV.out W hR) (by omega) edge).mono ?_; rintro e' w' ⟨rfl, hm'⟩; rw [HOE.out])
              exact hK _ _ rfl hm'
            refine opsOkA_cons ?_ ?_
            · intro K vs W hR hD hK
              have d17 : vs 17 = .bool false := hD 17 (by decide)
              have d18 : vs 18 = .bool false := hD 18 (by decide)
              have d21 : vs 21 = .bool false := hD 21 (by decide)
              clear hD
              try dsimp only at hK ⊢
              simp only [Act.put, List.setIfInBounds_toArray, List.set_cons_succ, List.set_cons_zero] at hK
              generalize vs 17 = v17 at hK d17 ⊢
              subst v17
              generalize vs 18 = v18 at hK d18 ⊢
              subst v18
              generalize vs 21 = v21 at hK d21 ⊢
              subst v21
              go_wp2
              exact hK _ _ rfl (Mod.refl _ _)
            refine opsOkA_cons ?_ ?_
            · intro K vs W hR hD hK
              have d17 : vs 17 = .bool false := hD 17 (by decide)
              have d22 : vs 22 = .bool false := hD 22 (by decide)
              clear hD
              try dsimp only at hK ⊢
              simp only [Act.put, List.setIfInBounds_toArray, List.set_cons_succ, List.set_cons_zero] at hK
              generalize vs 17 = v17 at hK d17 ⊢
              subst v17
              generalize vs 22 = v22 at hK d22 ⊢
              subst v22
              go_wp2
              exact hK _ _ rfl (Mod.refl _ _)
            refine opsOkA_cons ?_ ?_
            · intro K vs W hR hD hK
              have d23 : vs 23 = .bool false := hD 23 (by decide)
              clear hD
              try dsimp only at hK ⊢
              simp only [Act.put, List.setIfInBounds_toArray, List.set_cons_succ, List.set_cons_zero] at hK
              generalize vs 23 = v23 at hK d23 ⊢
              subst v23
              go_wp2
              exact hK _ _ rfl (Mod.refl _ _)
            refine opsOkA_cons ?_ ?_
            · intro K vs W hR hD hK
              have d24 : vs 24 = .bool false := hD 24 (by decide)
              clear hD
              try dsimp only at hK ⊢
              simp only [Act.put, List.setIfInBounds_toArray, List.set_cons_succ, List.set_cons_zero] at hK
              generalize vs 24 = v24 at hK d24 ⊢
              subst v24
              go_wp2
              exact hK _ _ rfl (Mod.refl _ _)
            refine opsOkA_cons ?_ ?_
            · intro K vs W hR hD hK
              have d24 : vs 24 = .bool false := hD 24 (by decide)
              have d25 : vs 25 = .bool false := hD 25 (by decide)
              clear hD
              try dsimp only at hK ⊢
              simp only [Act.put, List.setIfInBounds_toArray, List.set_cons_succ, List.set_cons_zero] at hK
              generalize vs 24 = v24 at hK d24 ⊢
              subst v24
              generalize vs 25 = v25 at hK d25 ⊢
              subst v25
              go_wp2
              exact hK _ _ rfl (Mod.refl _ _)
            refine opsOkA_cons ?_ ?_
            · intro K vs W hR hD hK
              have d26 : vs 26 = .bool false := hD 26 (by decide)
              clear hD
              try dsimp only at hK ⊢
              simp only [Act.put, List.setIfInBounds_toArray, List.set_cons_succ, List.set_cons_zero] at hK
              generalize vs 26 = v26 at hK d26 ⊢
              subst v26
              go_wp2
              exact hK _ _ rfl (Mod.refl _ _)
            refine opsOkA_cons ?_ ?_
            · intro K vs W hR hD hK
              have d26 : vs 26 = .bool false := hD 26 (by decide)
              clear hD
              try dsimp only at hK ⊢
              simp only [Act.put, List.setIfInBounds_toArray, List.set_cons_succ, List.set_cons_zero] at hK
              generalize vs 26 = v26 at hK d26 ⊢
              subst v26
              go_wp2
              exact hK _ _ rfl (Mod.refl _ _)
            refine opsOkA_cons ?_ ?_
            · intro K vs W hR hD hK
              have d26 : vs 26 = .bool false := hD 26 (by decide)
              clear hD
              try dsimp only at hK ⊢
              simp only [Act.put, List.setIfInBounds_toArray, List.set_cons_succ, List.set_cons_zero] at hK
              generalize vs 26 = v26 at hK d26 ⊢
              subst v26
              go_wp2
              exact hK _ _ rfl (Mod.refl _ _)
            refine opsOkA_cons ?_ ?_
            · intro K vs W hR hD hK
              have d26 : vs 26 = .bool false := hD 26 (by decide)
              clear hD
              try dsimp only at hK ⊢
              simp only [Act.put, List.setIfInBounds_toArray, List.set_cons_succ, List.set_cons_zero] at hK
              generalize vs 26 = v26 at hK d26 ⊢
              subst v26
              go_wp2
              exact hK _ _ rfl (Mod.refl _ _)
            refine opsOkA_cons ?_ ?_
            · intro K vs W hR hD hK
              have d26 : vs 26 = .bool false := hD 26 (by decide)
              clear hD
              try dsimp only at hK ⊢
              simp only [Act.put, List.setIfInBounds_toArray, List.set_cons_succ, List.set_cons_zero] at hK
              generalize vs 26 = v26 at hK d26 ⊢
              subst v26
              go_wp2_with fail
              exact hK _ _ rfl (Mod.refl _ _)
            refine opsOkA_cons ?_ ?_
            · intro K vs W hR hD hK
              have d26 : vs 26 = .bool false := hD 26 (by decide)
              clear hD
              try dsimp only at hK ⊢
              simp only [Act.put, List.setIfInBounds_toArray, List.set_cons_succ, List.set_cons_zero] at hK
              generalize vs 26 = v26 at hK d26 ⊢
              subst v26
              go_wp2
              exact hK _ _ rfl (Mod.refl _ _)
            refine opsOkA_cons ?_ ?_
            · intro K vs W hR hD hK
              have d26 : vs 26 = .bool false := hD 26 (by decide)
              clear hD
              try dsimp only at hK ⊢
              simp only [Act.put, List.setIfInBounds_toArray, List.set_cons_succ, List.set_cons_zero] at hK
              generalize vs 26 = v26 at hK d26 ⊢
              subst v26
              go_wp2
              exact hK _ _ rfl (Mod.refl _ _)
            refine opsOkA_cons ?_ ?_
            · intro K vs W hR hD hK
              have d24 : vs 24 = .bool false := hD 24 (by decide)
              have d26 : vs 26 = .bool false := hD 26 (by decide)
              have d33 : vs 33 = undef := hD 33 (by decide)
              clear hD
              try dsimp only at hK ⊢
              simp only [Act.put, List.setIfInBounds_toArray, List.set_cons_succ, List.set_cons_zero] at hK
              generalize vs 24 = v24 at hK d24 ⊢
              subst v24
              generalize vs 26 = v26 at hK d26 ⊢
              subst v26
              generalize vs 33 = v33 at hK d33 ⊢
              subst v33
              go_wp2
              exact hK _ _ rfl (Mod.refl _ _)
            refine opsOkA_cons ?_ ?_
            · intro K vs W hR hD hK
              have d24 : vs 24 = .bool false := hD 24 (by decide)
              have d34 : vs 34 = .bool false := hD 34 (by decide)
              clear hD
              try dsimp only at hK ⊢
              simp only [Act.put, List.setIfInBounds_toArray, List.set_cons_succ, List.set_cons_zero] at hK
              generalize vs 24 = v24 at hK d24 ⊢
              subst v24
              generalize vs 34 = v34 at hK d34 ⊢
              subst v34
              go_wp2
              exact hK _ _ rfl (Mod.refl _ _)
            refine opsOkA_cons ?_ ?_
            · intro K vs W hR hD hK
              have d35 : vs 35 = .bool false := hD 35 (by decide)
              clear hD
              try dsimp only at hK ⊢
              simp only [Act.put, List.setIfInBounds_toArray, List.set_cons_succ, List.set_cons_zero] at hK
              generalize vs 35 = v35 at hK d35 ⊢
              subst v35
              go_wp2
              exact hK _ _ rfl (Mod.refl _ _)
            refine opsOkA_cons ?_ ?_
            · intro K vs W hR hD hK
              have d36 : vs 36 = .bool false := hD 36 (by decide)
              clear hD
              try dsimp only at hK ⊢
              simp only [Act.put, List.setIfInBounds_toArray, List.set_cons_succ, List.set_cons_zero] at hK
              generalize vs 36 = v36 at hK d36 ⊢
              subst v36
              go_wp2
              exact hK _ _ rfl (Mod.refl _ _)
            refine opsOkA_cons ?_ ?_
            · intro K vs W hR hD hK
              have d36 : vs 36 = .bool false := hD 36 (by decide)
              clear hD
              try dsimp only at hK ⊢
              simp only [Act.put, List.setIfInBounds_toArray, List.set_cons_succ, List.set_cons_zero] at hK
              generalize vs 36 = v36 at hK d36 ⊢
              subst v36
              go_wp2
              exact hK _ _ rfl (Mod.refl _ _)
            refine opsOkA_cons ?_ ?_
            · intro K vs W hR hD hK
              have d36 : vs 36 = .bool false := hD 36 (by decide)
              clear hD
              try dsimp only at hK ⊢
              simp only [Act.put, List.setIfInBounds_toArray, List.set_cons_succ, List.set_cons_zero] at hK
              generalize vs 36 = v36 at hK d36 ⊢
              subst v36
              go_wp2
              exact hK _ _ rfl (Mod.refl _ _)
            refine opsOkA_cons ?_ ?_
            · intro K vs W hR hD hK
              have d36 : vs 36 = .bool false := hD 36 (by decide)
              have d37 : vs 37 = .pointer (some ⟨p, 0, none⟩) := hD 37 (by decide)
              have d38 : vs 38 = .int .i64 va := hD 38 (by decide)
              have d39 : vs 39 = .int .i64 vb := hD 39 (by decide)
              clear hD
              try dsimp only at hK ⊢
              simp only [Act.put, List.setIfInBounds_toArray, List.set_cons_succ, List.set_cons_zero] at hK
              generalize vs 36 = v36 at hK d36 ⊢
              subst v36
              generalize vs 37 = v37 at hK d37 ⊢
              subst v37
              generalize vs 38 = v38 at hK d38 ⊢
              subst v38
              generalize vs 39 = v39 at hK d39 ⊢
              subst v39
              go_wp2_with (go_at_call 20; refine (banned_any p B C W G (HG.out W hR) va vb).mono ?_; rintro e' w' ⟨rfl, hm'⟩; rw [HBB.out])
              exact hK _ _ rfl hm'
            refine opsOkA_cons ?_ ?_
            · intro K vs W hR hD hK
              have d36 : vs 36 = .bool false := hD 36 (by decide)
              clear hD
              try dsimp only at hK ⊢
              simp only [Act.put, List.setIfInBounds_toArray, List.set_cons_succ, List.set_cons_zero] at hK
              generalize vs 36 = v36 at hK d36 ⊢
              subst v36
              have hbx := HBX.out W hR
              have q0 := hbx.cell 0 rfl
              have q1 := hbx.cell 1 rfl
              have q2 := hbx.cell 2 rfl
              go_wp2
              exact hK _ _ rfl (Mod.refl _ _)
            refine opsOkA_cons ?_ ?_
            · intro K vs W hR hD hK
              have d36 : vs 36 = .bool false := hD 36 (by decide)
              clear hD
              try dsimp only at hK ⊢
              simp only [Act.put, List.setIfInBounds_toArray, List.set_cons_succ, List.set_cons_zero] at hK
              generalize vs 36 = v36 at hK d36 ⊢
              subst v36
              go_wp2
              exact hK _ _ rfl (Mod.refl _ _)
            refine opsOkA_cons ?_ ?_
            · intro K vs W hR hD hK
              have d36 : vs 36 = .bool false := hD 36 (by decide)
              clear hD
              try dsimp only at hK ⊢
              simp only [Act.put, List.setIfInBounds_toArray, List.set_cons_succ, List.set_cons_zero] at hK
              generalize vs 36 = v36 at hK d36 ⊢
              subst v36
              go_wp2
              exact hK _ _ rfl (Mod.refl _ _)
            refine opsOkA_cons ?_ ?_
            · intro K vs W hR hD hK
              have d36 : vs 36 = .bool false := hD 36 (by decide)
              have d41 : vs 41 = .agg #[.slice a1 n1 d1, .slice a2 n2 d2, .slice a3 n3 d3] := hD 41 (by decide)
              have d42 : vs 42 = .int .i64 va := hD 42 (by decide)
              have d43 : vs 43 = .int .i64 vb := hD 43 (by decide)
              clear hD
              try dsimp only at hK ⊢
              simp only [Act.put, List.setIfInBounds_toArray, List.set_cons_succ, List.set_cons_zero] at hK
              generalize vs 36 = v36 at hK d36 ⊢
              subst v36
              generalize vs 41 = v41 at hK d41 ⊢
              subst v41
              generalize vs 42 = v42 at hK d42 ⊢
              subst v42
              generalize vs 43 = v43 at hK d43 ⊢
              subst v43
              go_wp2_with (go_at_call 21; refine (r4banned_any G W a1 n1 d1 a2 n2 d2 a3 n3 d3 (HV.out W hR) (by omega) va vb).mono ?_; rintro e' w' ⟨rfl, hm'⟩; rw [HBB.out])
              exact hK _ _ rfl hm'
            refine opsOkA_cons ?_ ?_
            · intro K vs W hR hD hK
              have d36 : vs 36 = .bool false := hD 36 (by decide)
              have d40 : vs 40 = .bool bb := hD 40 (by decide)
              have d44 : vs 44 = .bool bb := hD 44 (by decide)
              clear hD
              try dsimp only at hK ⊢
              simp only [Act.put, List.setIfInBounds_toArray, List.set_cons_succ, List.set_cons_zero] at hK
              generalize vs 36 = v36 at hK d36 ⊢
              subst v36
              generalize vs 40 = v40 at hK d40 ⊢
              subst v40
              generalize vs 44 = v44 at hK d44 ⊢
              subst v44
              go_wp2
              exact hK _ _ rfl (Mod.refl _ _)
            refine opsOkA_cons ?_ ?_
            · intro K vs W hR hD hK
              have d36 : vs 36 = .bool false := hD 36 (by decide)
              have d45 : vs 45 = .bool false := hD 45 (by decide)
              clear hD
              try dsimp only at hK ⊢
              simp only [Act.put, List.setIfInBounds_toArray, List.set_cons_succ, List.set_cons_zero] at hK
              generalize vs 36 = v36 at hK d36 ⊢
              subst v36
              generalize vs 45 = v45 at hK d45 ⊢
              subst v45
              go_wp2
              exact hK _ _ rfl (Mod.refl _ _)
            exact opsOkA_nil
          · intro vs W hR hF
            have d46 : vs 46 = .bool false := hF 46 (by decide)
            clear hF
            try dsimp only
            generalize vs 46 = v46 at d46 ⊢
            subst d46
            go_wp2_with fail
            go_meet
            exact ⟨by simp, (Mod.drew _ _).trans hR (fun _ _ e => e) (fun _ _ e => e)⟩
    case rest =>
      obtain ⟨rfl, hm⟩ := hcut
      have HM2c : Hid (Mod (fun _ => False) w2 wc) := Lib.hid (HM27.out.trans hm (fun _ _ e => e) (fun _ _ e => e))
      have HM0c : Hid (Mod (fun _ => False) W0 wc) := Lib.hid (HM07.out.trans hm (fun _ _ e => e) (fun _ _ e => e))
      clear hm HG HV HBX HNB HXB HM27 HM07 HM57
      go_wp2_with fail
      go_loopw [17] (fun i wr => ∃ j : Nat, j ≤ n3 ∧ i = .int .i64 j ∧ Mod (fun _ => False) wc wr) (fun i _ => n3 - (intOf i).toNat)
      case atStart => exact ⟨0, by omega, rfl, Mod.refl _ _⟩
      case round =>
        obtain ⟨j, hj, rfl, hmr⟩ := hrel
        have HMR0 : Hid (Mod (fun _ => False) W0 wr) := Lib.hid (HM0c.out.trans hmr (fun _ _ e => e) (fun _ _ e => e))
        have HMR2 : Hid (Mod (fun _ => False) w2 wr) := Lib.hid (HM2c.out.trans hmr (fun _ _ e => e) (fun _ _ e => e))
        have HMRC := Lib.hid hmr
        clear hmr
        have hb1 := HB0.out wr HMR0.out
        have q2 := hb1.cell 2 rfl
        by_cases hlt : j < n3
        · have d0 : decide ((j : Int) < (n3 : Int)) = true := by simp; omega
          have hjl : j < G.B.length := by rw [HB.out]; exact hlt
          have hvr := HV0.out wr HMR0.out
          obtain ⟨eb, eo, hpl, e1, e2⟩ := rd2 hvr.rb j hjl
          have hixb := fun wx => run_indexS (P := Try.prog) wx 24 48 iB 2 Try.underlying24 hiB hsB a3 n3 d3 j hlt (hvr.rb.some_ (by omega))
          rw [hpl] at hixb
          obtain ⟨X, hX⟩ : ∃ X, G.B[j] = X := ⟨_, rfl⟩
          have hin : X ∈ G.B := by rw [← hX]; exact List.getElem_mem hjl
          rw [hX] at e1 e2
          obtain ⟨x', y'⟩ := X
          simp only at e1 e2
          have HIN2 : Hid (decide ((x', y') ∈ G.B) = true) := Lib.hid (decide_eq_true hin)
          have HIB := Lib.hid hixb
          have HG : Hid (∀ W, Mod (fun _ => False) (World.drew wr) W → GO W p B C G) := Lib.hid fun W h => HG0.out W (HMR2.out.thenDrew.trans h (fun _ _ e => e) (fun _ _ e => e))
          have HBX : Hid (∀ W, Mod (fun _ => False) (World.drew wr) W → Blk W bx 26 [.slice a1 n1 d1, .slice a2 n2 d2, .slice a3 n3 d3]) := Lib.hid fun W h => HB0.out W (HMR0.out.thenDrew.trans h (fun _ _ e => e) (fun _ _ e => e))
          have HEB : Hid (∀ W, Mod (fun _ => False) (World.drew wr) W → W.cell? ⟨eb, eo, none⟩ = some (.int .i64 x') ∧ W.cell? ⟨eb, eo + 1, none⟩ = some (.int .i64 y')) := Lib.hid fun W hm => ⟨hm.cell e1 (fun e => e), hm.cell e2 (fun e => e)⟩
          clear hb1 hjl hvr hpl e1 e2 hixb hX hin
          go_upto_region 15 with fail
          clear q2 d0
          refine wp_region_inv3 (act := ?acttg15) (Mod (fun _ => False)) (fun i => (tg15_F p bx eb eo j n1 d1 n2 d2 n3 d3 x' y' a1 a2 a3).getD i (fun _ _ => True)) (fun i => tg15_D.getD i []) (by kernel_rfl) (by kernel_rfl) (by kernel_rfl) (by kernel_rfl) (fun _ => Mod.refl _ _)
            (fun _ _ _ h k => h.trans k (fun _ _ e => e) (fun _ _ e => e)) ?hacttg15 (stable_list ?_) ?_ ?_
          case hacttg15 => intro vs; simp only [putAll, Nat.zero_add, Nat.reduceAdd, Act.put, List.setIfInBounds_toArray, List.set_cons_succ, List.set_cons_zero]; exact rfl
          · unfold tg15_F
            exact stable_cons (stable_val _) <| stable_cons (stable_val _) <| stable_cons (stable_val _) <| stable_cons (stable_val _) <| stable_cons (stable_val _) <| stable_cons (stable_val _) <| stable_cons (stable_val _) <| stable_cons (stable_val _) <| stable_cons (stable_val _) <| stable_cons (stable_val _) <| stable_cons (stable_val _) <| stable_cons (stable_val _) <| stable_cons (stable_val _) <| stable_cons (stable_val _) <| stable_cons (stable_val _) <| stable_nil
          · refine opsOkA_cons ?_ ?_
            · intro K vs W hR hD hK
              clear hD
              try dsimp only at hK ⊢
              simp only [Act.put, List.setIfInBounds_toArray, List.set_cons_succ, List.set_cons_zero] at hK
              go_wp2
              exact hK _ _ rfl (Mod.refl _ _)
            refine opsOkA_cons ?_ ?_
            · intro K vs W hR hD hK
              clear hD
              try dsimp only at hK ⊢
              simp only [Act.put, List.setIfInBounds_toArray, List.set_cons_succ, List.set_cons_zero] at hK
              go_wp2
              exact hK _ _ rfl (Mod.refl _ _)
            refine opsOkA_cons ?_ ?_
            · intro K vs W hR hD hK
              have d1 : vs 1 = .pointer (some ⟨bx, 2, none⟩) := hD 1 (by decide)
              clear hD
              try dsimp only at hK ⊢
              simp only [Act.put, List.setIfInBounds_toArray, List.set_cons_succ, List.set_cons_zero] at hK
              generalize vs 1 = v1 at hK d1 ⊢
              subst v1
              have hbx := HBX.out W hR
              have q0 := hbx.cell 0 rfl
              have q1 := hbx.cell 1 rfl
              have q2 := hbx.cell 2 rfl
              go_wp2
              exact hK _ _ rfl (Mod.refl _ _)
            refine opsOkA_cons ?_ ?_
            · intro K vs W hR hD hK
              clear hD
              try dsimp only at hK ⊢
              simp only [Act.put, List.setIfInBounds_toArray, List.set_cons_succ, List.set_cons_zero] at hK
              go_wp2
              exact hK _ _ rfl (Mod.refl _ _)
            refine opsOkA_cons ?_ ?_
            · intro K vs W hR hD hK
              have d2 : vs 2 = .slice a3 n3 d3 := hD 2 (by decide)
              have d3 : vs 3 = .int .i64 (j : Int) := hD 3 (by decide)
              clear hD
              try dsimp only at hK ⊢
              simp only [Act.put, List.setIfInBounds_toArray, List.set_cons_succ, List.set_cons_zero] at hK
              generalize vs 2 = v2 at hK d2 ⊢
              subst v2
              generalize vs 3 = v3 at hK d3 ⊢
              subst v3
              have hixb := HIB.out
              go_wp2_with fail
              exact hK _ _ rfl (Mod.refl _ _)
            refine opsOkA_cons ?_ ?_
            · intro K vs W hR hD hK
              have d4 : vs 4 = .pointer (some ⟨eb, eo, none⟩) := hD 4 (by decide)
              clear hD
              try dsimp only at hK ⊢
              simp only [Act.put, List.setIfInBounds_toArray, List.set_cons_succ, List.set_cons_zero] at hK
              generalize vs 4 = v4 at hK d4 ⊢
              subst v4
              go_wp2
              exact hK _ _ rfl (Mod.refl _ _)
            refine opsOkA_cons ?_ ?_
            · intro K vs W hR hD hK
              have d5 : vs 5 = .pointer (some ⟨eb, eo, none⟩) := hD 5 (by decide)
              clear hD
              try dsimp only at hK ⊢
              simp only [Act.put, List.setIfInBounds_toArray, List.set_cons_succ, List.set_cons_zero] at hK
              generalize vs 5 = v5 at hK d5 ⊢
              subst v5
              obtain ⟨q0, q1⟩ := HEB.out W hR
              go_wp2
              exact hK _ _ rfl (Mod.refl _ _)
            refine opsOkA_cons ?_ ?_
            · intro K vs W hR hD hK
              clear hD
              try dsimp only at hK ⊢
              simp only [Act.put, List.setIfInBounds_toArray, List.set_cons_succ, List.set_cons_zero] at hK
              go_wp2
              exact hK _ _ rfl (Mod.refl _ _)
            refine opsOkA_cons ?_ ?_
            · intro K vs W hR hD hK
              have d7 : vs 7 = .pointer (some ⟨bx, 2, none⟩) := hD 7 (by decide)
              clear hD
              try dsimp only at hK ⊢
              simp only [Act.put, List.setIfInBounds_toArray, List.set_cons_succ, List.set_cons_zero] at hK
              generalize vs 7 = v7 at hK d7 ⊢
              subst v7
              have hbx := HBX.out W hR
              have q0 := hbx.cell 0 rfl
              have q1 := hbx.cell 1 rfl
              have q2 := hbx.cell 2 rfl
              go_wp2
              exact hK _ _ rfl (Mod.refl _ _)
            refine opsOkA_cons ?_ ?_
            · intro K vs W hR hD hK
              clear hD
              try dsimp only at hK ⊢
              simp only [Act.put, List.setIfInBounds_toArray, List.set_cons_succ, List.set_cons_zero] at hK
              go_wp2
              exact hK _ _ rfl (Mod.refl _ _)
            refine opsOkA_cons ?_ ?_
            · intro K vs W hR hD hK
              have d8 : vs 8 = .slice a3 n3 d3 := hD 8 (by decide)
              have d9 : vs 9 = .int .i64 (j : Int) := hD 9 (by decide)
              clear hD
              try dsimp only at hK ⊢
              simp only [Act.put, List.setIfInBounds_toArray, List.set_cons_succ, List.set_cons_zero] at hK
              generalize vs 8 = v8 at hK d8 ⊢
              subst v8
              generalize vs 9 = v9 at hK d9 ⊢
              subst v9
              have hixb := HIB.out
              go_wp2_with fail
              exact hK _ _ rfl (Mod.refl _ _)
            refine opsOkA_cons ?_ ?_
            · intro K vs W hR hD hK
              have d10 : vs 10 = .pointer (some ⟨eb, eo, none⟩) := hD 10 (by decide)
              clear hD
              try dsimp only at hK ⊢
              simp only [Act.put, List.setIfInBounds_toArray, List.set_cons_succ, List.set_cons_zero] at hK
              generalize vs 10 = v10 at hK d10 ⊢
              subst v10
              go_wp2
              exact hK _ _ rfl (Mod.refl _ _)
            refine opsOkA_cons ?_ ?_
            · intro K vs W hR hD hK
              have d11 : vs 11 = .pointer (some ⟨eb, eo + 1, none⟩) := hD 11 (by decide)
              clear hD
              try dsimp only at hK ⊢
              simp only [Act.put, List.setIfInBounds_toArray, List.set_cons_succ, List.set_cons_zero] at hK
              generalize vs 11 = v11 at hK d11 ⊢
              subst v11
              obtain ⟨q0, q1⟩ := HEB.out W hR
              go_wp2
              exact hK _ _ rfl (Mod.refl _ _)
            refine opsOkA_cons ?_ ?_
            · intro K vs W hR hD hK
              have d0 : vs 0 = .pointer (some ⟨p, 0, none⟩) := hD 0 (by decide)
              have d6 : vs 6 = .int .i64 x' := hD 6 (by decide)
              have d12 : vs 12 = .int .i64 y' := hD 12 (by decide)
              clear hD
              try dsimp only at hK ⊢
              simp only [Act.put, List.setIfInBounds_toArray, List.set_cons_succ, List.set_cons_zero] at hK
              generalize vs 0 = v0 at hK d0 ⊢
              subst v0
              generalize vs 6 = v6 at hK d6 ⊢
              subst v6
              generalize vs 12 = v12 at hK d12 ⊢
              subst v12
              go_wp2_with (go_at_call 20; refine (banned_any p B C W G (HG.out W hR) x' y').mono ?_; rintro e' w' ⟨rfl, hm'⟩; rw [HIN2.out])
              exact hK _ _ rfl hm'
            refine opsOkA_cons ?_ ?_
            · intro K vs W hR hD hK
              have d13 : vs 13 = .bool true := hD 13 (by decide)
              clear hD
              try dsimp only at hK ⊢
              simp only [Act.put, List.setIfInBounds_toArray, List.set_cons_succ, List.set_cons_zero] at hK
              generalize vs 13 = v13 at hK d13 ⊢
              subst v13
              go_wp2
              exact hK _ _ rfl (Mod.refl _ _)
            exact opsOkA_nil
          · intro vs W hR hF
            have d14 : vs 14 = .bool false := hF 14 (by decide)
            clear hF
            try dsimp only
            generalize vs 14 = v14 at d14 ⊢
            subst d14
            go_wp2_with fail
            go_roundw
            case rel => exact ⟨j + 1, hlt, by go_num, HMRC.out.trans ((Mod.drew (fun _ => False) _).trans hR (H := fun _ => False) (fun _ _ e => e) (fun _ _ e => e)) (fun _ _ e => e) (fun _ _ e => e)⟩
            case measure => simp [intOf]; omega
        · have d0 : decide ((j : Int) < (n3 : Int)) = false := by simp; omega
          clear hb1
          go_wp2_with fail
          refine (awake_any wr).mono ?_
          rintro e w9 ⟨rfl, hm⟩
          have HM9 : Hid (Mod (fun _ => False) w w9) := Lib.hid (HM0.out.trans (HMR0.out.trans hm (H := fun _ => False) (fun _ _ e => e) (fun _ _ e => e)) (fun _ _ e => e) (fun _ _ e => e))
          clear hm q2
          go_wp2_with fail
          go_ret
          exact ⟨rfl, HM9.out⟩
end Go.Proofs.Ytfbilmccfmjomaa
