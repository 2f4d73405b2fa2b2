/- DistBest walked. -/
import Derived.Test.YtgiojfihgdifbaaShut11
import Derived.Test.YtgiojfihgdifbaaBestP
import Derived.Test.YtgiojfihgdifbaaStroll
import Derived.Test.YtgiojfihgdifbaaRdT
import Derived.Test.YtgiojfihgdifbaaKOpen
import Derived.Test.YtgiojfihgdifbaaRegion2
import Derived.Test.YtgiojfihgdifbaaKReg
import Derived.Deep.DeepCutAuto
import Derived.Deep.CutBlock
namespace Go.Proofs.Ytgiojfihgdifbaa
open Go.RowKit Mile
set_option maxRecDepth 100000
theorem clB_at (S : List Bool) (k : Nat) (h : k < S.length) : clB S (k : Int) = S[k] := by
  unfold clB
  rw [decide_eq_true (by omega), Bool.true_and, Int.toNat_natCast, List.getD, List.getElem?_eq_getElem h]; rfl
theorem stepN_at (G : GD) (d : List Int) (S : List Bool) (b : Int) (k : Nat) (hk : k < G.E.length) (hd : k < d.length) (hc : k < S.length) : stepN G d S b (k : Int) = if (S[k] = false ∧ 0 ≤ d[k]) ∧ (b < 0 ∨ d[k] + (G.E[k]).2.2 < b) then d[k] + (G.E[k]).2.2 else b := by
  have hg : goodN d S (k : Int) ↔ (S[k] = false ∧ 0 ≤ d[k]) := by unfold goodN; rw [clB_at S k hc, Int.toNat_natCast, dAt_eq d k hd]
  have hv : viaN G d (k : Int) = d[k] + (G.E[k]).2.2 := by unfold viaN; rw [Int.toNat_natCast, dAt_eq d k hd, eAt_eq G k hk]
  unfold stepN
  rw [hv]
  by_cases c : goodN d S (k : Int) ∧ (b < 0 ∨ d[k] + (G.E[k]).2.2 < b)
  · rw [if_pos c, if_pos ⟨hg.1 c.1, c.2⟩]
  · rw [if_neg c, if_neg (fun x => c ⟨hg.2 x.1, x.2⟩)]
/-- What each operation of the statement leaves. -/
def de_r21_0_F (q : Nat) (xq : Nat) (n2 : Nat) (ac : Option Addr) (cc : Nat) (an : Option Addr) (cn : Nat) (ln : Nat) (fb : Nat) (fo : Nat) (cb : Nat) (co : Nat) : List (Value → World → Prop) :=
  [IsV (.slice ac n2 cc),
   IsV (.slice an ln cn),
   IsV (.int .i64 (q : Int)),
   IsV (.pointer (some ⟨fb, fo, none⟩)),
   IsV (.int .i64 (xq : Int)),
   IsV (.pointer (some ⟨cb, co, none⟩)),
   IsV (.bool true),
   IsV (.bool false),
   IsV (.bool false),
   IsV (undef),
   IsV (undef),
   IsV (undef),
   IsV (undef),
   IsV (undef),
   IsV (undef),
   IsV (undef),
   IsV (undef),
   IsV (.bool false),
   IsV (.bool false),
   IsV (undef),
   IsV (undef),
   IsV (undef),
   IsV (undef),
   IsV (undef),
   IsV (undef),
   IsV (undef),
   IsV (undef),
   IsV (undef),
   IsV (undef),
   IsV (undef),
   IsV (undef),
   IsV (undef),
   IsV (undef),
   IsV (undef),
   IsV (undef),
   IsV (undef),
   IsV (undef),
   IsV (undef),
   IsV (undef),
   IsV (undef),
   IsV (undef),
   IsV (undef),
   IsV (.bool false)]
def de_r21_0_D : List (List Nat) := [[], [], [], [1, 2], [3], [0, 4], [5], [6], [7], [8], [8], [8], [8], [8], [8], [8], [8], [8, 16], [17], [18], [18], [18], [21], [21], [21], [21], [21], [21], [21], [21], [21], [21], [21], [21], [21], [21], [21], [21], [21], [21], [21], [18], [18, 41]]

/-- What each operation of the statement leaves. -/
def de_r21_1_F (q : Nat) (xq : Nat) (dx : Int) (n2 : Nat) (ac : Option Addr) (cc : Nat) (ax : Option Addr) (cx : Nat) (an : Option Addr) (cn : Nat) (ln : Nat) (fb : Nat) (fo : Nat) (cb : Nat) (co : Nat) (gb : Nat) (go : Nat) : List (Value → World → Prop) :=
  [IsV (.slice ac n2 cc),
   IsV (.slice an ln cn),
   IsV (.int .i64 (q : Int)),
   IsV (.pointer (some ⟨fb, fo, none⟩)),
   IsV (.int .i64 (xq : Int)),
   IsV (.pointer (some ⟨cb, co, none⟩)),
   IsV (.bool false),
   IsV (.bool true),
   IsV (.bool true),
   IsV (.slice ax n2 cx),
   IsV (.slice an ln cn),
   IsV (.int .i64 (q : Int)),
   IsV (.pointer (some ⟨fb, fo, none⟩)),
   IsV (.int .i64 (xq : Int)),
   IsV (.pointer (some ⟨gb, go, none⟩)),
   IsV (.int .i64 dx),
   IsV (.bool false),
   IsV (.bool false),
   IsV (.bool false),
   IsV (undef),
   IsV (undef),
   IsV (undef),
   IsV (undef),
   IsV (undef),
   IsV (undef),
   IsV (undef),
   IsV (undef),
   IsV (undef),
   IsV (undef),
   IsV (undef),
   IsV (undef),
   IsV (undef),
   IsV (undef),
   IsV (undef),
   IsV (undef),
   IsV (undef),
   IsV (undef),
   IsV (undef),
   IsV (undef),
   IsV (undef),
   IsV (undef),
   IsV (undef),
   IsV (.bool false)]
def de_r21_1_D : List (List Nat) := [[], [], [], [1, 2], [3], [0, 4], [5], [6], [7], [8], [8], [8], [8, 10, 11], [8, 12], [8, 9, 13], [8, 14], [8, 15], [8, 16], [17], [18], [18], [18], [21], [21], [21], [21], [21], [21], [21], [21], [21], [21], [21], [21], [21], [21], [21], [21], [21], [21], [21], [18], [18, 41]]

/-- What each operation of the statement leaves. -/
def de_r21_2_F (q : Nat) (xq : Nat) (b1 : Int) (dx : Int) (n2 : Nat) (ac : Option Addr) (cc : Nat) (ax : Option Addr) (cx : Nat) (an : Option Addr) (cn : Nat) (ln : Nat) (fb : Nat) (fo : Nat) (cb : Nat) (co : Nat) (gb : Nat) (go : Nat) : List (Value → World → Prop) :=
  [IsV (.slice ac n2 cc),
   IsV (.slice an ln cn),
   IsV (.int .i64 (q : Int)),
   IsV (.pointer (some ⟨fb, fo, none⟩)),
   IsV (.int .i64 (xq : Int)),
   IsV (.pointer (some ⟨cb, co, none⟩)),
   IsV (.bool false),
   IsV (.bool true),
   IsV (.bool true),
   IsV (.slice ax n2 cx),
   IsV (.slice an ln cn),
   IsV (.int .i64 (q : Int)),
   IsV (.pointer (some ⟨fb, fo, none⟩)),
   IsV (.int .i64 (xq : Int)),
   IsV (.pointer (some ⟨gb, go, none⟩)),
   IsV (.int .i64 dx),
   IsV (.bool true),
   IsV (.bool true),
   IsV (.bool true),
   IsV (.int .i64 b1),
   IsV (.bool true),
   IsV (.bool true),
   IsV (undef),
   IsV (undef),
   IsV (undef),
   IsV (undef),
   IsV (undef),
   IsV (undef),
   IsV (undef),
   IsV (undef),
   IsV (undef),
   IsV (undef),
   IsV (undef),
   IsV (undef),
   IsV (undef),
   IsV (undef),
   IsV (undef),
   IsV (undef),
   IsV (undef),
   IsV (undef),
   IsV (undef),
   IsV (.bool true),
   IsV (.bool true)]
def de_r21_2_D : List (List Nat) := [[], [], [], [1, 2], [3], [0, 4], [5], [6], [7], [8], [8], [8], [8, 10, 11], [8, 12], [8, 9, 13], [8, 14], [8, 15], [8, 16], [17], [18], [18, 19], [18, 20], [21], [21], [21], [21], [21], [21], [21], [21], [21], [21], [21], [21], [21], [21], [21], [21], [21], [21], [21], [18, 21, 40], [18, 41]]

/-- What each operation of the statement leaves. -/
def de_r22_3_F (q : Nat) (xq : Nat) (dx : Int) (uc : Int) (a2 : Option Addr) (n2 : Nat) (d2 : Nat) (bg : Nat) (ax : Option Addr) (cx : Nat) (an : Option Addr) (cn : Nat) (ln : Nat) (fb : Nat) (fo : Nat) (gb : Nat) (go : Nat) (hb : Nat) (ho : Nat) : List (Value → World → Prop) :=
  [IsV (.slice ax n2 cx),
   IsV (.slice an ln cn),
   IsV (.int .i64 (q : Int)),
   IsV (.pointer (some ⟨fb, fo, none⟩)),
   IsV (.int .i64 (xq : Int)),
   IsV (.pointer (some ⟨gb, go, none⟩)),
   IsV (.int .i64 dx),
   IsV (.pointer (some ⟨bg, 1, none⟩)),
   IsV (.slice a2 n2 d2),
   IsV (.slice an ln cn),
   IsV (.int .i64 (q : Int)),
   IsV (.pointer (some ⟨fb, fo, none⟩)),
   IsV (.int .i64 (xq : Int)),
   IsV (.pointer (some ⟨hb, ho, none⟩)),
   IsV (.pointer (some ⟨hb, ho + 2, none⟩)),
   IsV (.int .i64 uc),
   IsV (.int .i64 (dx + uc)),
   IsV (.int .i64 (dx + uc))]
def de_r22_3_D : List (List Nat) := [[], [], [], [1, 2], [3], [0, 4], [5], [], [7], [], [], [9, 10], [11], [8, 12], [13], [14], [6, 15], [16]]

/-- What each operation of the statement leaves. -/
def de_r21_4_F (q : Nat) (xq : Nat) (b1 : Int) (dx : Int) (uc : Int) (a2 : Option Addr) (n2 : Nat) (d2 : Nat) (bg : Nat) (ac : Option Addr) (cc : Nat) (ax : Option Addr) (cx : Nat) (an : Option Addr) (cn : Nat) (ln : Nat) (fb : Nat) (fo : Nat) (cb : Nat) (co : Nat) (gb : Nat) (go : Nat) (hb : Nat) (ho : Nat) : List (Value → World → Prop) :=
  [IsV (.slice ac n2 cc),
   IsV (.slice an ln cn),
   IsV (.int .i64 (q : Int)),
   IsV (.pointer (some ⟨fb, fo, none⟩)),
   IsV (.int .i64 (xq : Int)),
   IsV (.pointer (some ⟨cb, co, none⟩)),
   IsV (.bool false),
   IsV (.bool true),
   IsV (.bool true),
   IsV (.slice ax n2 cx),
   IsV (.slice an ln cn),
   IsV (.int .i64 (q : Int)),
   IsV (.pointer (some ⟨fb, fo, none⟩)),
   IsV (.int .i64 (xq : Int)),
   IsV (.pointer (some ⟨gb, go, none⟩)),
   IsV (.int .i64 dx),
   IsV (.bool true),
   IsV (.bool true),
   IsV (.bool true),
   IsV (.int .i64 b1),
   IsV (.bool false),
   IsV (.bool false),
   IsV (.slice ax n2 cx),
   IsV (.slice an ln cn),
   IsV (.int .i64 (q : Int)),
   IsV (.pointer (some ⟨fb, fo, none⟩)),
   IsV (.int .i64 (xq : Int)),
   IsV (.pointer (some ⟨gb, go, none⟩)),
   IsV (.int .i64 dx),
   IsV (.pointer (some ⟨bg, 1, none⟩)),
   IsV (.slice a2 n2 d2),
   IsV (.slice an ln cn),
   IsV (.int .i64 (q : Int)),
   IsV (.pointer (some ⟨fb, fo, none⟩)),
   IsV (.int .i64 (xq : Int)),
   IsV (.pointer (some ⟨hb, ho, none⟩)),
   IsV (.pointer (some ⟨hb, ho + 2, none⟩)),
   IsV (.int .i64 uc),
   IsV (.int .i64 (dx + uc)),
   IsV (.int .i64 b1),
   IsV (.bool true),
   IsV (.bool true),
   IsV (.bool true)]
def de_r21_4_D : List (List Nat) := [[], [], [], [1, 2], [3], [0, 4], [5], [6], [7], [8], [8], [8], [8, 10, 11], [8, 12], [8, 9, 13], [8, 14], [8, 15], [8, 16], [17], [18], [18, 19], [18, 20], [21], [21], [21], [21, 23, 24], [21, 25], [21, 22, 26], [21, 27], [21], [21, 29], [21], [21], [21, 31, 32], [21, 33], [21, 30, 34], [21, 35], [21, 36], [21, 28, 37], [21], [21, 38, 39], [18, 21, 40], [18, 41]]

/-- What each operation of the statement leaves. -/
def de_r22_5_F (q : Nat) (xq : Nat) (dx : Int) (uc : Int) (a2 : Option Addr) (n2 : Nat) (d2 : Nat) (bg : Nat) (ax : Option Addr) (cx : Nat) (an : Option Addr) (cn : Nat) (ln : Nat) (fb : Nat) (fo : Nat) (gb : Nat) (go : Nat) (hb : Nat) (ho : Nat) : List (Value → World → Prop) :=
  [IsV (.slice ax n2 cx),
   IsV (.slice an ln cn),
   IsV (.int .i64 (q : Int)),
   IsV (.pointer (some ⟨fb, fo, none⟩)),
   IsV (.int .i64 (xq : Int)),
   IsV (.pointer (some ⟨gb, go, none⟩)),
   IsV (.int .i64 dx),
   IsV (.pointer (some ⟨bg, 1, none⟩)),
   IsV (.slice a2 n2 d2),
   IsV (.slice an ln cn),
   IsV (.int .i64 (q : Int)),
   IsV (.pointer (some ⟨fb, fo, none⟩)),
   IsV (.int .i64 (xq : Int)),
   IsV (.pointer (some ⟨hb, ho, none⟩)),
   IsV (.pointer (some ⟨hb, ho + 2, none⟩)),
   IsV (.int .i64 uc),
   IsV (.int .i64 (dx + uc)),
   IsV (.int .i64 (dx + uc))]
def de_r22_5_D : List (List Nat) := [[], [], [], [1, 2], [3], [0, 4], [5], [], [7], [], [], [9, 10], [11], [8, 12], [13], [14], [6, 15], [16]]

/-- What each operation of the statement leaves. -/
def de_r21_6_F (q : Nat) (xq : Nat) (b1 : Int) (dx : Int) (uc : Int) (a2 : Option Addr) (n2 : Nat) (d2 : Nat) (bg : Nat) (ac : Option Addr) (cc : Nat) (ax : Option Addr) (cx : Nat) (an : Option Addr) (cn : Nat) (ln : Nat) (fb : Nat) (fo : Nat) (cb : Nat) (co : Nat) (gb : Nat) (go : Nat) (hb : Nat) (ho : Nat) : List (Value → World → Prop) :=
  [IsV (.slice ac n2 cc),
   IsV (.slice an ln cn),
   IsV (.int .i64 (q : Int)),
   IsV (.pointer (some ⟨fb, fo, none⟩)),
   IsV (.int .i64 (xq : Int)),
   IsV (.pointer (some ⟨cb, co, none⟩)),
   IsV (.bool false),
   IsV (.bool true),
   IsV (.bool true),
   IsV (.slice ax n2 cx),
   IsV (.slice an ln cn),
   IsV (.int .i64 (q : Int)),
   IsV (.pointer (some ⟨fb, fo, none⟩)),
   IsV (.int .i64 (xq : Int)),
   IsV (.pointer (some ⟨gb, go, none⟩)),
   IsV (.int .i64 dx),
   IsV (.bool true),
   IsV (.bool true),
   IsV (.bool true),
   IsV (.int .i64 b1),
   IsV (.bool false),
   IsV (.bool false),
   IsV (.slice ax n2 cx),
   IsV (.slice an ln cn),
   IsV (.int .i64 (q : Int)),
   IsV (.pointer (some ⟨fb, fo, none⟩)),
   IsV (.int .i64 (xq : Int)),
   IsV (.pointer (some ⟨gb, go, none⟩)),
   IsV (.int .i64 dx),
   IsV (.pointer (some ⟨bg, 1, none⟩)),
   IsV (.slice a2 n2 d2),
   IsV (.slice an ln cn),
   IsV (.int .i64 (q : Int)),
   IsV (.pointer (some ⟨fb, fo, none⟩)),
   IsV (.int .i64 (xq : Int)),
   IsV (.pointer (some ⟨hb, ho, none⟩)),
   IsV (.pointer (some ⟨hb, ho + 2, none⟩)),
   IsV (.int .i64 uc),
   IsV (.int .i64 (dx + uc)),
   IsV (.int .i64 b1),
   IsV (.bool false),
   IsV (.bool false),
   IsV (.bool false)]
def de_r21_6_D : List (List Nat) := [[], [], [], [1, 2], [3], [0, 4], [5], [6], [7], [8], [8], [8], [8, 10, 11], [8, 12], [8, 9, 13], [8, 14], [8, 15], [8, 16], [17], [18], [18, 19], [18, 20], [21], [21], [21], [21, 23, 24], [21, 25], [21, 22, 26], [21, 27], [21], [21, 29], [21], [21], [21, 31, 32], [21, 33], [21, 30, 34], [21, 35], [21, 36], [21, 28, 37], [21], [21, 38, 39], [18, 21, 40], [18, 41]]

/-- What each operation of the statement leaves. -/
def de_r33_7_F (i0 : Nat) (xw : Nat) (s0 : Int) (uc : Int) (a2 : Option Addr) (n2 : Nat) (d2 : Nat) (bg : Nat) (fb : Nat) (fo : Nat) (hb : Nat) (ho : Nat) (lw : Nat) (cw : Nat) (aw : Option Addr) : List (Bool × (Value → World → Prop)) :=
  [(true, IsV (.int .i64 s0)),
   (true, IsV (.pointer (some ⟨bg, 1, none⟩))),
   (true, IsV (.slice a2 n2 d2)),
   (true, IsV (.slice aw lw cw)),
   (true, IsV (.int .i64 (i0 : Int))),
   (true, IsV (.pointer (some ⟨fb, fo, none⟩))),
   (true, IsV (.int .i64 (xw : Int))),
   (true, IsV (.pointer (some ⟨hb, ho, none⟩))),
   (true, IsV (.pointer (some ⟨hb, ho + 2, none⟩))),
   (true, IsV (.int .i64 uc)),
   (true, IsV (.int .i64 (s0 + uc)))]
def de_r33_7_D : List (List Nat) := [[], [], [1], [], [], [3, 4], [5], [2, 6], [7], [8], [0, 9]]
def de_r33_7_C : List Nat := [1000, 1000, 1000, 1000, 1000, 1000, 1000, 1000, 1000, 1000, 1000]

/-- What each operation of the statement leaves. -/
def de_r34_8_F (i0 : Nat) (xw : Nat) (a2 : Option Addr) (n2 : Nat) (d2 : Nat) (bg : Nat) (vr : Nat) (ub : Int) (fb : Nat) (fo : Nat) (hb : Nat) (ho : Nat) (lw : Nat) (cw : Nat) (aw : Option Addr) : List (Value → World → Prop) :=
  [IsV (.pointer (some ⟨bg, 1, none⟩)),
   IsV (.slice a2 n2 d2),
   IsV (.slice aw lw cw),
   IsV (.int .i64 (i0 : Int)),
   IsV (.pointer (some ⟨fb, fo, none⟩)),
   IsV (.int .i64 (xw : Int)),
   IsV (.pointer (some ⟨hb, ho, none⟩)),
   IsV (.pointer (some ⟨hb, ho + 1, none⟩)),
   IsV (.int .i64 ub),
   IsV (.int .i64 (vr : Int)),
   IsV (.bool false),
   IsV (.bool false),
   IsV (undef),
   IsV (undef),
   IsV (undef),
   IsV (undef),
   IsV (undef),
   IsV (undef),
   IsV (undef),
   IsV (undef),
   IsV (undef),
   IsV (undef),
   IsV (undef),
   IsV (undef),
   IsV (undef),
   IsV (.bool false)]
def de_r34_8_D : List (List Nat) := [[], [0], [], [], [2, 3], [4], [1, 5], [6], [7], [], [8, 9], [10], [11], [11], [11], [11], [11], [11], [17], [17], [17], [17], [17], [17], [11], [11, 24]]

/-- What each operation of the statement leaves. -/
def de_r34_9_F (i0 : Nat) (xw : Nat) (er : Nat) (s0 : Int) (dx : Int) (uc : Int) (a2 : Option Addr) (n2 : Nat) (d2 : Nat) (bg : Nat) (vr : Nat) (ax : Option Addr) (cx : Nat) (ub : Int) (fb : Nat) (fo : Nat) (gb : Nat) (go : Nat) (hb : Nat) (ho : Nat) (lw : Nat) (cw : Nat) (aw : Option Addr) : List (Value → World → Prop) :=
  [IsV (.pointer (some ⟨bg, 1, none⟩)),
   IsV (.slice a2 n2 d2),
   IsV (.slice aw lw cw),
   IsV (.int .i64 (i0 : Int)),
   IsV (.pointer (some ⟨fb, fo, none⟩)),
   IsV (.int .i64 (xw : Int)),
   IsV (.pointer (some ⟨hb, ho, none⟩)),
   IsV (.pointer (some ⟨hb, ho + 1, none⟩)),
   IsV (.int .i64 ub),
   IsV (.int .i64 (vr : Int)),
   IsV (.bool true),
   IsV (.bool true),
   IsV (.slice ax n2 cx),
   IsV (.int .i64 (er : Int)),
   IsV (.pointer (some ⟨gb, go, none⟩)),
   IsV (.int .i64 dx),
   IsV (.bool false),
   IsV (.bool false),
   IsV (.slice ax n2 cx),
   IsV (.int .i64 (er : Int)),
   IsV (.pointer (some ⟨gb, go, none⟩)),
   IsV (.int .i64 dx),
   IsV (.int .i64 (s0 + uc)),
   IsV (.bool false),
   IsV (.bool false),
   IsV (.bool false)]
def de_r34_9_D : List (List Nat) := [[], [0], [], [], [2, 3], [4], [1, 5], [6], [7], [], [8, 9], [10], [11], [11], [11, 12, 13], [11, 14], [11, 15], [11, 16], [17], [17], [17, 18, 19], [17, 20], [17], [17, 21, 22], [11, 17, 23], [11, 24]]

set_option maxHeartbeats 64000000 in
theorem dbest_all (w : World) (a0 : Option Addr) (m c0 : Nat) (l : List Int) (hm : l.length = m) (hr : Rd w 1 (.slice a0 m c0) m (l.map (Value.int .i64))) (a5 : Option Addr) (n5 d5 : Nat) (sh : List Int) (hn5 : sh.length = n5) (hr5 : Rd w 1 (.slice a5 n5 d5) n5 (sh.map (Value.int .i64))) (nv fr : Int) (a4 : Option Addr) (n4 d4 : Nat) (st : List Int) (hn4 : st.length = n4) (hr4 : Rd w 1 (.slice a4 n4 d4) n4 (st.map (Value.int .i64))) :
    Calls Try.prog 4 #[.slice a0 m c0, .slice a5 n5 d5, .int .i64 nv, .int .i64 fr, .slice a4 n4 d4] w fun e w' => e = .returned (.bool true) ∧ Mod (fun _ => False) w w' := by
  obtain ⟨iI, hiI, hzI, hsI, hbI⟩ := info_parts GR.infoI
  obtain ⟨iE, hiE, hzE, hsE, hbE⟩ := info_parts GR.infoE
  obtain ⟨iB, hiB, hzB, hsB, hbB⟩ := info_parts GR.infoBo
  by_cases hlen0 : m ≤ 100
  case neg =>
    have HS : Hid (Ev (Mod (fun _ => False) w) w) := Lib.hid (Ev.mod w)
    have z0 : decide (100 < (m : Int)) = true := by simp; omega
    have z1 : decide (100 < m) = true := by simp; omega
    go_enter Try.func4, Try.ntmps4
    go_wp2_with fail
    refine (awake11_any _).mono ?_
    rintro e wq1 ⟨rfl, hm⟩
    replace HS := Lib.hid (HS.out.step hm)
    clear hm
    go_wp2_with fail
    go_ret
    exact ⟨rfl, HS.out.now⟩
  by_cases hlen1 : n5 ≤ 40
  case neg =>
    have HS : Hid (Ev (Mod (fun _ => False) w) w) := Lib.hid (Ev.mod w)
    have y0 : decide (100 < (m : Int)) = false := by simp; omega
    have z0 : decide (40 < (n5 : Int)) = true := by simp; omega
    have z1 : decide (40 < n5) = true := by simp; omega
    go_enter Try.func4, Try.ntmps4
    go_wp2_with fail
    refine (awake11_any _).mono ?_
    rintro e wq2 ⟨rfl, hm⟩
    replace HS := Lib.hid (HS.out.step hm)
    clear hm
    go_wp2_with fail
    go_ret
    exact ⟨rfl, HS.out.now⟩
  by_cases hlen2 : n4 ≤ 40
  case neg =>
    have HS : Hid (Ev (Mod (fun _ => False) w) w) := Lib.hid (Ev.mod w)
    have y0 : decide (100 < (m : Int)) = false := by simp; omega
    have y1 : decide (40 < (n5 : Int)) = false := by simp; omega
    have z0 : decide (40 < (n4 : Int)) = true := by simp; omega
    have z1 : decide (40 < n4) = true := by simp; omega
    go_enter Try.func4, Try.ntmps4
    go_wp2_with fail
    refine (awake11_any _).mono ?_
    rintro e wq3 ⟨rfl, hm⟩
    replace HS := Lib.hid (HS.out.step hm)
    clear hm
    go_wp2_with fail
    go_ret
    exact ⟨rfl, HS.out.now⟩
  have HS : Hid (Ev (Mod (fun _ => False) w) w) := Lib.hid (Ev.mod w)
  have y0 : decide (100 < (m : Int)) = false := by simp; omega
  have y1 : decide (40 < (n5 : Int)) = false := by simp; omega
  have y2 : decide (40 < (n4 : Int)) = false := by simp; omega
  replace HS := Lib.hid ((Ev.rd hr).and HS.out)
  replace HS := Lib.hid ((Ev.rd hr4).and HS.out)
  replace HS := Lib.hid ((Ev.rd hr5).and HS.out)
  have HN4 := Lib.hid hn4
  have HN5 := Lib.hid hn5
  clear hr hr4 hr5 hn4 hn5
  go_enter Try.func4, Try.ntmps4
  go_wp2_with fail
  refine (made11_any _ a0 m c0 l hm ((HS.out.now).2.2.1)).mono ?_
  rintro e wq4 ⟨a1, n1, d1, a2, n2, d2, a3, n3, d3, t, p, B, C, rfl, hg, hto, hmm⟩
  replace HS := Lib.hid (HS.out.step hmm)
  clear hmm
  replace HS := Lib.hid ((Ev.gv hg).and HS.out)
  replace HS := Lib.hid ((Ev.to hto).and HS.out)
  clear hg hto y0 y1 y2
  have hmay := Lib.hid (town_may l)
  have hfew := Lib.hid (town_few l)
  obtain ⟨G, hG⟩ : ∃ G, townG l = G := ⟨_, rfl⟩
  rw [hG] at hmay hfew
  rw [hG] at HS
  clear hG
  have hn := Lib.hid ((HS.out.now).2.1.n)
  have he := Lib.hid ((HS.out.now).2.1.e)
  have hb := Lib.hid ((HS.out.now).2.1.b)
  have h1n : n1 ≤ 16 := by have := hfew.out.1.2; have := hn.out; omega
  have h2n : n2 ≤ 67 := by have := hfew.out.2.1.2; have := he.out; omega
  have h2p : 1 ≤ n2 := by have := hfew.out.2.1.1; have := he.out; omega
  have h3n : n3 ≤ 469 := by have := hfew.out.2.2; have := hb.out; omega
  go_wp2_with fail
  obtain ⟨bg, hbg⟩ : ∃ b, wq4.heap.size = b := ⟨_, rfl⟩
  obtain ⟨wq5, hwq5⟩ : ∃ W, World.alloc wq4 (.cells #[.slice a1 n1 d1, .slice a2 n2 d2, .slice a3 n3 d3] 29) = W := ⟨_, rfl⟩
  have hBbg : Blk wq5 bg 29 [.slice a1 n1 d1, .slice a2 n2 d2, .slice a3 n3 d3] := by rw [← hwq5, ← hbg]; exact Blk.new _ 29 [.slice a1 n1 d1, .slice a2 n2 d2, .slice a3 n3 d3]
  have hzbg : wq5.heap.size = bg + 1 := by rw [← hwq5, ← hbg]; exact heap_size_alloc _ _
  replace HS := Lib.hid (HS.out.step (w' := wq5) (by rw [← hwq5]; exact Mod.alloc _ _ _))
  replace HS := Lib.hid ((Ev.blk hBbg).and HS.out)
  try rw [hwq5]
  try rw [hbg]
  clear hzbg hBbg hbg hwq5
  have hbbg := (HS.out.now).1
  have qbg_0 := hbbg.cell 0 rfl
  have qbg_1 := hbbg.cell 1 rfl
  have qbg_2 := hbbg.cell 2 rfl
  have lbg := hbbg.lt
  clear hbbg
  have h1p : 1 ≤ n1 := by have := hfew.out.1.1; have := hn.out; omega
  have hGE : 1 ≤ G.E.length := by rw [he.out]; exact h2p
  go_wp2_with fail
  refine (shut_row G hGE _ a1 n1 d1 a2 n2 d2 a3 n3 d3 ((HS.out.now).2.2.1) (by omega) a5 n5 d5 sh HN5.out ((HS.out.now).2.2.2.1) (by omega)).mono ?_
  rintro e wq6 ⟨x, rfl, ⟨ac, nc, cc, rfl, hnc, hcl⟩, hmm⟩
  replace HS := Lib.hid (HS.out.step hmm)
  clear hmm
  replace HS := Lib.hid ((Ev.rd hcl).and HS.out)
  obtain rfl : n2 = nc := by rw [← hnc]; exact (shutL_len n2 sh).symm
  have HNC := Lib.hid hnc
  clear hcl hnc
  clear qbg_0 qbg_1 qbg_2 lbg
  have hbbg := (HS.out.now).2.1
  have qbg_0 := hbbg.cell 0 rfl
  have qbg_1 := hbbg.cell 1 rfl
  have qbg_2 := hbbg.cell 2 rfl
  have lbg := hbbg.lt
  clear hbbg
  go_wp2_with fail
  refine (round_any nv (n1 : Int) _ (by omega) (by omega)).mono ?_
  rintro e w' ⟨rfl, rfl⟩
  have hr0 := Int.emod_nonneg (nv) (b := (n1 : Int)) (by omega)
  have hr1 := Int.emod_lt_of_pos (nv) (b := (n1 : Int)) (by omega)
  obtain ⟨vr, hr2⟩ := Int.eq_ofNat_of_zero_le hr0
  rw [hr2] at hr1 ⊢
  have HVR := Lib.hid hr2
  have HVRb := hr1
  clear hr0 hr1 hr2
  have hvN : 0 ≤ (vr : Int) ∧ (vr : Int) < (G.N.length : Int) := ⟨by omega, by rw [hn.out]; omega⟩
  have HVN := Lib.hid hvN
  clear hvN
  go_wp2_with fail
  refine (dto_fix t p B C G hmay.out _ ((HS.out.now).2.2.1) (vr : Int) HVN.out n2 he.out ac n2 cc (shutL n2 sh) HNC.out ((HS.out.now).1)).mono ?_
  rintro e wq7 ⟨ax, cx, d, rfl, hfl, hfr, hfx, hmm⟩
  replace HS := Lib.hid (HS.out.step hmm)
  clear hmm
  replace HS := Lib.hid ((Ev.rd hfr).and HS.out)
  have HDL := Lib.hid hfl
  have HDF := Lib.hid hfx
  clear hfr hfl hfx
  clear qbg_0 qbg_1 qbg_2 lbg
  have hbbg := (HS.out.now).2.2.1
  have qbg_0 := hbbg.cell 0 rfl
  have qbg_1 := hbbg.cell 1 rfl
  have qbg_2 := hbbg.cell 2 rfl
  have lbg := hbbg.lt
  clear hbbg
  go_wp2_with fail
  replace HS := Lib.hid ((Ev.mod wq7).and HS.out)
  go_loopw [16] (fun i wr => ∃ k : Nat, k ≤ n2 ∧ i = .int .i64 k ∧ Mod (fun _ => False) wq7 wr) (fun i _ => n2 - (intOf i).toNat)
  case atStart => exact ⟨0, by omega, rfl, Mod.refl _ _⟩
  case round =>
    obtain ⟨k, hk, rfl, hmr⟩ := hrel
    obtain ⟨wo, hwo⟩ : ∃ x : World, x = wr := ⟨_, rfl⟩
    subst hwo
    replace HS := Lib.hid (HS.out.step hmr)
    clear hmr
    clear qbg_0 qbg_1 qbg_2 lbg
    have hbbg := (HS.out.now).2.2.2.1
    have qbg_0 := hbbg.cell 0 rfl
    have qbg_1 := hbbg.cell 1 rfl
    have qbg_2 := hbbg.cell 2 rfl
    have lbg := hbbg.lt
    clear hbbg
    by_cases hlk : k < n2
    case pos =>
      have z0 : decide ((k : Int) < (n2 : Int)) = true := by simp; omega
      have hkE : k < G.E.length := by rw [he.out]; exact hlk
      have hkd : k < d.length := by rw [HDL.out]; exact hlk
      have hbe := bestN_eq HDF.out k hkE
      rw [dAt_eq d k hkd, eAt_eq G k hkE] at hbe
      obtain ⟨xa, Hxa0⟩ : ∃ qz, (G.E[k]).1 = qz := ⟨_, rfl⟩
      have Hxa := Lib.hid Hxa0
      clear Hxa0
      obtain ⟨ya, Hya0⟩ : ∃ qz, (G.E[k]).2.1 = qz := ⟨_, rfl⟩
      have Hya := Lib.hid Hya0
      clear Hya0
      obtain ⟨za, Hza0⟩ : ∃ qz, (G.E[k]).2.2 = qz := ⟨_, rfl⟩
      have Hza := Lib.hid Hza0
      clear Hza0
      obtain ⟨dk, HDK0⟩ : ∃ qz, d[k] = qz := ⟨_, rfl⟩
      have HDK := Lib.hid HDK0
      clear HDK0
      rw [Hya.out, HDK.out] at hbe
      have HBE := Lib.hid hbe
      clear hbe
      obtain ⟨eb, eo, hpl, e0, e1, e2⟩ := rd3 (HS.out.now).2.2.2.2.2.1.re k hkE
      have hix := fun wx => run_indexS (P := Try.prog) wx 26 43 iE 3 Try.underlying26 hiE hsE a2 n2 d2 k hlk ((HS.out.now).2.2.2.2.2.1.re.some_ (by have := hlk; omega))
      rw [hpl] at hix
      have HIe := Lib.hid hix
      clear hix hpl
      rw [Hxa.out] at e0
      replace HS := Lib.hid ((Ev.cell e0).and HS.out)
      clear e0
      rw [Hya.out] at e1
      replace HS := Lib.hid ((Ev.cell e1).and HS.out)
      clear e1
      rw [Hza.out] at e2
      replace HS := Lib.hid ((Ev.cell e2).and HS.out)
      clear e2
      have qe1 := (HS.out.now).2.1
      have hix1 := HIe.out
      obtain ⟨b9, hb9⟩ : ∃ b, (if ya = (vr : Int) then (0 : Int) else -1) = b := ⟨_, rfl⟩
      have HB9 := Lib.hid hb9
      clear hb9
      go_upto_if 76 with fail
      go_cut [17] (fun bv wx => bv = .int .i64 b9 ∧ wo = wx)
      case first =>
        by_cases c1 : ya = (vr : Int)
        case pos =>
          have z1 : (ya == (vr : Int)) = true := by rw [c1]; simp
          have hb : b9 = 0 := by have h := HB9.out; rw [if_pos c1] at h; exact h.symm
          have HB := Lib.hid hb
          clear hb c1
          go_wp2_with fail
          go_meet
          exact ⟨by rw [HB.out], rfl⟩
        case neg =>
          have z1 : (ya == (vr : Int)) = false := beq_eq_false_iff_ne.2 c1
          have hb : b9 = -1 := by have h := HB9.out; rw [if_neg c1] at h; exact h.symm
          have HB := Lib.hid hb
          clear hb c1
          go_wp2_with fail
          go_meet
          exact ⟨by rw [HB.out], rfl⟩
      case rest =>
        obtain ⟨rfl, rfl⟩ := hcut
        clear qe1 hix1 z0
        go_wp2_with fail
        refine (r4next_any G _ a1 n1 d1 a2 n2 d2 a3 n3 d3 ((HS.out.now).2.2.2.2.2.2.2.2.1) (by omega) (by omega) (k : Int)).mono ?_
        rintro e wq8 ⟨v', rfl, ⟨an, cn, rfl, hx'⟩, hmm⟩
        replace HS := Lib.hid (HS.out.step hmm)
        clear hmm
        replace HS := Lib.hid ((Ev.rd hx').and HS.out)
        clear hx'
        have hbe := HBE.out
        have hnl := nxtR_len G (k : Int)
        obtain ⟨ns, hns⟩ : ∃ x, nxtR G (k : Int) = x := ⟨_, rfl⟩
        have hin : ∀ (i : Nat) (h : i < ns.length), ∃ q : Nat, ns[i] = (q : Int) ∧ q < G.E.length := by subst hns; intro i h; obtain ⟨q, h1, h2, _⟩ := nxtR_at G (k : Int) i h; exact ⟨q, h1, h2⟩
        rw [hns] at HS hnl hbe ⊢
        obtain ⟨ln, hln⟩ : ∃ n, ns.length = n := ⟨_, rfl⟩
        rw [hln] at HS hnl ⊢
        have hl1 : ln ≤ 67 := by have := he.out; omega
        have HLN := Lib.hid hln
        have HIN := Lib.hid hin
        rw [HB9.out] at hbe
        have HBF := Lib.hid hbe
        clear hln hnl hin hns hbe HBE
        clear qbg_0 qbg_1 qbg_2 lbg
        have hbbg := (HS.out.now).2.2.2.2.2.2.2.1
        have qbg_0 := hbbg.cell 0 rfl
        have qbg_1 := hbbg.cell 1 rfl
        have qbg_2 := hbbg.cell 2 rfl
        have lbg := hbbg.lt
        clear hbbg
        go_wp2_with fail
        replace HS := Lib.hid ((Ev.mod wq8).and HS.out)
        go_loopw [17, 19] (fun s i wr => ∃ (q : Nat) (b1 : Int), q ≤ ln ∧ i = .int .i64 q ∧ s = .int .i64 b1 ∧ b1 = bestN G d (shutL n2 sh) b9 (ns.take q) ∧ Mod (fun _ => False) wq8 wr) (fun s i _ => ln - (intOf i).toNat)
        case atStart => exact ⟨0, b9, by omega, rfl, rfl, rfl, Mod.refl _ _⟩
        case round =>
          obtain ⟨q, b1, hq, rfl, rfl, hs, hmr⟩ := hrel
          obtain ⟨wi, hwo⟩ : ∃ x : World, x = wr := ⟨_, rfl⟩
          subst hwo
          replace HS := Lib.hid (HS.out.step hmr)
          clear hmr
          clear qbg_0 qbg_1 qbg_2 lbg
          have hbbg := (HS.out.now).2.2.2.2.2.2.2.2.1
          have qbg_0 := hbbg.cell 0 rfl
          have qbg_1 := hbbg.cell 1 rfl
          have qbg_2 := hbbg.cell 2 rfl
          have lbg := hbbg.lt
          clear hbbg
          have HB1 := Lib.hid hs
          clear hs
          by_cases hlq : q < ln
          case pos =>
            have z0 : decide ((q : Int) < (ln : Int)) = true := by simp; omega
            have hql : q < ns.length := by rw [HLN.out]; exact hlq
            obtain ⟨xq, hxq, hxE⟩ := HIN.out q hql
            have hxn : xq < n2 := by rw [← he.out]; exact hxE
            have hxd : xq < d.length := by rw [HDL.out]; exact hxn
            have hxc : xq < (shutL n2 sh).length := by rw [HNC.out]; exact hxn
            have ht := bestN_take G d (shutL n2 sh) b9 ns q hql
            rw [hxq, ← HB1.out, stepN_at G d (shutL n2 sh) b1 xq hxE hxd hxc] at ht
            have hmo := HDF.out.most (show G.E.length ≤ 512 by have := he.out; omega) xq
            have hlo := HDF.out.low xq
            rw [dAt_eq d xq hxd] at hmo hlo
            have hw := edgeW G hmay.out (xq : Int) ⟨by omega, by omega⟩
            rw [eAt_eq G xq hxE] at hw
            have HXQ := Lib.hid hxq
            clear hxq
            obtain ⟨ua, Hua0⟩ : ∃ qz, (G.E[xq]).1 = qz := ⟨_, rfl⟩
            have Hua := Lib.hid Hua0
            clear Hua0
            obtain ⟨ub, Hub0⟩ : ∃ qz, (G.E[xq]).2.1 = qz := ⟨_, rfl⟩
            have Hub := Lib.hid Hub0
            clear Hub0
            obtain ⟨uc, Huc0⟩ : ∃ qz, (G.E[xq]).2.2 = qz := ⟨_, rfl⟩
            have Huc := Lib.hid Huc0
            clear Huc0
            obtain ⟨dx, HDX0⟩ : ∃ qz, d[xq] = qz := ⟨_, rfl⟩
            have HDX := Lib.hid HDX0
            clear HDX0
            obtain ⟨bv_, HCB0⟩ : ∃ qz, (shutL n2 sh)[xq] = qz := ⟨_, rfl⟩
            have HCB := Lib.hid HCB0
            clear HCB0
            rw [Huc.out, HDX.out, HCB.out] at ht
            rw [HDX.out] at hmo hlo
            rw [Huc.out] at hw
            have hw1 := hw.1
            have hw2 := hw.2
            clear hw
            have HTK := Lib.hid ht
            clear ht
            obtain ⟨fb, fo, hpl, e0⟩ := rd1 (HS.out.now).2.1 q hql
            have hix := fun wx => run_indexS (P := Try.prog) wx 22 3 iI 1 Try.underlying22 hiI hsI an ln cn q hlq ((HS.out.now).2.1.some_ (by have := hlq; omega))
            rw [hpl] at hix
            have HIf := Lib.hid hix
            clear hix hpl
            rw [HXQ.out] at e0
            replace HS := Lib.hid ((Ev.cell e0).and HS.out)
            clear e0
            obtain ⟨cb, co, hpl, e0⟩ := rdb (HS.out.now).2.2.2.2.2.2.2.2.1 xq hxc
            have hix := fun wx => run_indexS (P := Try.prog) wx 23 4 iB 1 Try.underlying23 hiB hsB ac n2 cc xq hxn ((HS.out.now).2.2.2.2.2.2.2.2.1.some_ (by have := hxn; omega))
            rw [hpl] at hix
            have HIc := Lib.hid hix
            clear hix hpl
            rw [HCB.out] at e0
            replace HS := Lib.hid ((Ev.cell e0).and HS.out)
            clear e0
            obtain ⟨gb, go, hpl, e0⟩ := rd1 (HS.out.now).2.2.2.2.2.2.2.2.1 xq hxd
            have hix := fun wx => run_indexS (P := Try.prog) wx 22 3 iI 1 Try.underlying22 hiI hsI ax n2 cx xq hxn ((HS.out.now).2.2.2.2.2.2.2.2.1.some_ (by have := hxn; omega))
            rw [hpl] at hix
            have HIg := Lib.hid hix
            clear hix hpl
            rw [HDX.out] at e0
            replace HS := Lib.hid ((Ev.cell e0).and HS.out)
            clear e0
            obtain ⟨hb, ho, hpl, e0, e1, e2⟩ := rd3 (HS.out.now).2.2.2.2.2.2.2.2.2.2.2.2.2.1.re xq hxE
            have hix := fun wx => run_indexS (P := Try.prog) wx 26 43 iE 3 Try.underlying26 hiE hsE a2 n2 d2 xq hxn ((HS.out.now).2.2.2.2.2.2.2.2.2.2.2.2.2.1.re.some_ (by have := hxn; omega))
            rw [hpl] at hix
            have HIh := Lib.hid hix
            clear hix hpl
            rw [Hua.out] at e0
            replace HS := Lib.hid ((Ev.cell e0).and HS.out)
            clear e0
            rw [Hub.out] at e1
            replace HS := Lib.hid ((Ev.cell e1).and HS.out)
            clear e1
            rw [Huc.out] at e2
            replace HS := Lib.hid ((Ev.cell e2).and HS.out)
            clear e2
            go_upto_region 21 with fail
            clear z0
            cases bv_ with
            | true =>
              clear qbg_0 qbg_1 qbg_2 lbg
              have HSd := Lib.hid HS.out.drew
              refine wp_region_inv3 (act := ?actde_r21_0) (Mod (fun _ => False)) (fun i => (de_r21_0_F q xq n2 ac cc an cn ln fb fo cb co).getD i (fun _ _ => True)) (fun i => de_r21_0_D.getD i []) (by kernel_rfl) (by kernel_rfl) (by kernel_rfl) (by kernel_rfl) (fun _ => Mod.refl _ _)
                (fun _ _ _ h k => h.trans k (fun _ _ e => e) (fun _ _ e => e)) ?hactde_r21_0 (stable_list ?_) ?_ ?_
              case hactde_r21_0 => intro vs; simp only [putAll, Nat.zero_add, Nat.reduceAdd, Act.put, List.setIfInBounds_toArray, List.set_cons_succ, List.set_cons_zero]; exact rfl
              · unfold de_r21_0_F
                exact stable_cons (stable_val _) <| stable_cons (stable_val _) <| stable_cons (stable_val _) <| stable_cons (stable_val _) <| stable_cons (stable_val _) <| stable_cons (stable_val _) <| stable_cons (stable_val _) <| stable_cons (stable_val _) <| stable_cons (stable_val _) <| stable_cons (stable_val _) <| stable_cons (stable_val _) <| stable_cons (stable_val _) <| stable_cons (stable_val _) <| stable_cons (stable_val _) <| stable_cons (stable_val _) <| stable_cons (stable_val _) <| stable_cons (stable_val _) <| stable_cons (stable_val _) <| stable_cons (stable_val _) <| stable_cons (stable_val _) <| stable_cons (stable_val _) <| stable_cons (stable_val _) <| stable_cons (stable_val _) <| stable_cons (stable_val _) <| stable_cons (stable_val _) <| stable_cons (stable_val _) <| stable_cons (stable_val _) <| stable_cons (stable_val _) <| stable_cons (stable_val _) <| stable_cons (stable_val _) <| stable_cons (stable_val _) <| stable_cons (stable_val _) <| stable_cons (stable_val _) <| stable_cons (stable_val _) <| stable_cons (stable_val _) <| stable_cons (stable_val _) <| stable_cons (stable_val _) <| stable_cons (stable_val _) <| stable_cons (stable_val _) <| stable_cons (stable_val _) <| stable_cons (stable_val _) <| stable_cons (stable_val _) <| stable_cons (stable_val _) <| stable_nil
              · refine opsOkA_cons ?_ ?_
                · intro K vs W hR hD hK
                  clear hD
                  try dsimp only at hK ⊢
                  simp only [Act.put, List.setIfInBounds_toArray, List.set_cons_succ, List.set_cons_zero] at hK
                  go_wp2
                  exact hK _ _ rfl (Mod.refl _ _)
                refine opsOkA_cons ?_ ?_
                · intro K vs W hR hD hK
                  clear hD
                  try dsimp only at hK ⊢
                  simp only [Act.put, List.setIfInBounds_toArray, List.set_cons_succ, List.set_cons_zero] at hK
                  go_wp2
                  exact hK _ _ rfl (Mod.refl _ _)
                refine opsOkA_cons ?_ ?_
                · intro K vs W hR hD hK
                  clear hD
                  try dsimp only at hK ⊢
                  simp only [Act.put, List.setIfInBounds_toArray, List.set_cons_succ, List.set_cons_zero] at hK
                  go_wp2
                  exact hK _ _ rfl (Mod.refl _ _)
                refine opsOkA_cons ?_ ?_
                · intro K vs W hR hD hK
                  have dq1 : vs 1 = .slice an ln cn := hD 1 (by decide)
                  have dq2 : vs 2 = .int .i64 (q : Int) := hD 2 (by decide)
                  clear hD
                  try dsimp only at hK ⊢
                  simp only [Act.put, List.setIfInBounds_toArray, List.set_cons_succ, List.set_cons_zero] at hK
                  generalize vs 1 = vq1 at hK dq1 ⊢
                  subst vq1
                  generalize vs 2 = vq2 at hK dq2 ⊢
                  subst vq2
                  have hix := HIf.out
                  go_wp2_with fail
                  exact hK _ _ rfl (Mod.refl _ _)
                refine opsOkA_cons ?_ ?_
                · intro K vs W hR hD hK
                  have dq3 : vs 3 = .pointer (some ⟨fb, fo, none⟩) := hD 3 (by decide)
                  clear hD
                  try dsimp only at hK ⊢
                  simp only [Act.put, List.setIfInBounds_toArray, List.set_cons_succ, List.set_cons_zero] at hK
                  generalize vs 3 = vq3 at hK dq3 ⊢
                  subst vq3
                  have c0 := (HSd.out.at (hR)).2.2.2.2.2.1
                  go_wp2
                  exact hK _ _ rfl (Mod.refl _ _)
                refine opsOkA_cons ?_ ?_
                · intro K vs W hR hD hK
                  have dq0 : vs 0 = .slice ac n2 cc := hD 0 (by decide)
                  have dq4 : vs 4 = .int .i64 (xq : Int) := hD 4 (by decide)
                  clear hD
                  try dsimp only at hK ⊢
                  simp only [Act.put, List.setIfInBounds_toArray, List.set_cons_succ, List.set_cons_zero] at hK
                  generalize vs 0 = vq0 at hK dq0 ⊢
                  subst vq0
                  generalize vs 4 = vq4 at hK dq4 ⊢
                  subst vq4
                  have hix := HIc.out
                  go_wp2_with fail
                  exact hK _ _ rfl (Mod.refl _ _)
                refine opsOkA_cons ?_ ?_
                · intro K vs W hR hD hK
                  have dq5 : vs 5 = .pointer (some ⟨cb, co, none⟩) := hD 5 (by decide)
                  clear hD
                  try dsimp only at hK ⊢
                  simp only [Act.put, List.setIfInBounds_toArray, List.set_cons_succ, List.set_cons_zero] at hK
                  generalize vs 5 = vq5 at hK dq5 ⊢
                  subst vq5
                  have c0 := (HSd.out.at (hR)).2.2.2.2.1
                  go_wp2
                  exact hK _ _ rfl (Mod.refl _ _)
                refine opsOkA_cons ?_ ?_
                · intro K vs W hR hD hK
                  have dq6 : vs 6 = .bool true := hD 6 (by decide)
                  clear hD
                  try dsimp only at hK ⊢
                  simp only [Act.put, List.setIfInBounds_toArray, List.set_cons_succ, List.set_cons_zero] at hK
                  generalize vs 6 = vq6 at hK dq6 ⊢
                  subst vq6
                  go_wp2
                  exact hK _ _ rfl (Mod.refl _ _)
                refine opsOkA_cons ?_ ?_
                · intro K vs W hR hD hK
                  have dq7 : vs 7 = .bool false := hD 7 (by decide)
                  clear hD
                  try dsimp only at hK ⊢
                  simp only [Act.put, List.setIfInBounds_toArray, List.set_cons_succ, List.set_cons_zero] at hK
                  generalize vs 7 = vq7 at hK dq7 ⊢
                  subst vq7
                  go_wp2
                  exact hK _ _ rfl (Mod.refl _ _)
                refine opsOkA_cons ?_ ?_
                · intro K vs W hR hD hK
                  have dq8 : vs 8 = .bool false := hD 8 (by decide)
                  clear hD
                  try dsimp only at hK ⊢
                  simp only [Act.put, List.setIfInBounds_toArray, List.set_cons_succ, List.set_cons_zero] at hK
                  generalize vs 8 = vq8 at hK dq8 ⊢
                  subst vq8
                  go_wp2
                  exact hK _ _ rfl (Mod.refl _ _)
                refine opsOkA_cons ?_ ?_
                · intro K vs W hR hD hK
                  have dq8 : vs 8 = .bool false := hD 8 (by decide)
                  clear hD
                  try dsimp only at hK ⊢
                  simp only [Act.put, List.setIfInBounds_toArray, List.set_cons_succ, List.set_cons_zero] at hK
                  generalize vs 8 = vq8 at hK dq8 ⊢
                  subst vq8
                  go_wp2
                  exact hK _ _ rfl (Mod.refl _ _)
                refine opsOkA_cons ?_ ?_
                · intro K vs W hR hD hK
                  have dq8 : vs 8 = .bool false := hD 8 (by decide)
                  clear hD
                  try dsimp only at hK ⊢
                  simp only [Act.put, List.setIfInBounds_toArray, List.set_cons_succ, List.set_cons_zero] at hK
                  generalize vs 8 = vq8 at hK dq8 ⊢
                  subst vq8
                  go_wp2
                  exact hK _ _ rfl (Mod.refl _ _)
                refine opsOkA_cons ?_ ?_
                · intro K vs W hR hD hK
                  have dq8 : vs 8 = .bool false := hD 8 (by decide)
                  clear hD
                  try dsimp only at hK ⊢
                  simp only [Act.put, List.setIfInBounds_toArray, List.set_cons_succ, List.set_cons_zero] at hK
                  generalize vs 8 = vq8 at hK dq8 ⊢
                  subst vq8
                  go_wp2_with fail
                  exact hK _ _ rfl (Mod.refl _ _)
                refine opsOkA_cons ?_ ?_
                · intro K vs W hR hD hK
                  have dq8 : vs 8 = .bool false := hD 8 (by decide)
                  clear hD
                  try dsimp only at hK ⊢
                  simp only [Act.put, List.setIfInBounds_toArray, List.set_cons_succ, List.set_cons_zero] at hK
                  generalize vs 8 = vq8 at hK dq8 ⊢
                  subst vq8
                  go_wp2
                  exact hK _ _ rfl (Mod.refl _ _)
                refine opsOkA_cons ?_ ?_
                · intro K vs W hR hD hK
                  have dq8 : vs 8 = .bool false := hD 8 (by decide)
                  clear hD
                  try dsimp only at hK ⊢
                  simp only [Act.put, List.setIfInBounds_toArray, List.set_cons_succ, List.set_cons_zero] at hK
                  generalize vs 8 = vq8 at hK dq8 ⊢
                  subst vq8
                  go_wp2_with fail
                  exact hK _ _ rfl (Mod.refl _ _)
                refine opsOkA_cons ?_ ?_
                · intro K vs W hR hD hK
                  have dq8 : vs 8 = .bool false := hD 8 (by decide)
                  clear hD
                  try dsimp only at hK ⊢
                  simp only [Act.put, List.setIfInBounds_toArray, List.set_cons_succ, List.set_cons_zero] at hK
                  generalize vs 8 = vq8 at hK dq8 ⊢
                  subst vq8
                  go_wp2
                  exact hK _ _ rfl (Mod.refl _ _)
                refine opsOkA_cons ?_ ?_
                · intro K vs W hR hD hK
                  have dq8 : vs 8 = .bool false := hD 8 (by decide)
                  clear hD
                  try dsimp only at hK ⊢
                  simp only [Act.put, List.setIfInBounds_toArray, List.set_cons_succ, List.set_cons_zero] at hK
                  generalize vs 8 = vq8 at hK dq8 ⊢
                  subst vq8
                  go_wp2
                  exact hK _ _ rfl (Mod.refl _ _)
                refine opsOkA_cons ?_ ?_
                · intro K vs W hR hD hK
                  have dq8 : vs 8 = .bool false := hD 8 (by decide)
                  have dq16 : vs 16 = undef := hD 16 (by decide)
                  clear hD
                  try dsimp only at hK ⊢
                  simp only [Act.put, List.setIfInBounds_toArray, List.set_cons_succ, List.set_cons_zero] at hK
                  generalize vs 8 = vq8 at hK dq8 ⊢
                  subst vq8
                  generalize vs 16 = vq16 at hK dq16 ⊢
                  subst vq16
                  go_wp2
                  exact hK _ _ rfl (Mod.refl _ _)
                refine opsOkA_cons ?_ ?_
                · intro K vs W hR hD hK
                  have dq17 : vs 17 = .bool false := hD 17 (by decide)
                  clear hD
                  try dsimp only at hK ⊢
                  simp only [Act.put, List.setIfInBounds_toArray, List.set_cons_succ, List.set_cons_zero] at hK
                  generalize vs 17 = vq17 at hK dq17 ⊢
                  subst vq17
                  go_wp2
                  exact hK _ _ rfl (Mod.refl _ _)
                refine opsOkA_cons ?_ ?_
                · intro K vs W hR hD hK
                  have dq18 : vs 18 = .bool false := hD 18 (by decide)
                  clear hD
                  try dsimp only at hK ⊢
                  simp only [Act.put, List.setIfInBounds_toArray, List.set_cons_succ, List.set_cons_zero] at hK
                  generalize vs 18 = vq18 at hK dq18 ⊢
                  subst vq18
                  go_wp2
                  exact hK _ _ rfl (Mod.refl _ _)
                refine opsOkA_cons ?_ ?_
                · intro K vs W hR hD hK
                  have dq18 : vs 18 = .bool false := hD 18 (by decide)
                  clear hD
                  try dsimp only at hK ⊢
                  simp only [Act.put, List.setIfInBounds_toArray, List.set_cons_succ, List.set_cons_zero] at hK
                  generalize vs 18 = vq18 at hK dq18 ⊢
                  subst vq18
                  go_wp2
                  exact hK _ _ rfl (Mod.refl _ _)
                refine opsOkA_cons ?_ ?_
                · intro K vs W hR hD hK
                  have dq18 : vs 18 = .bool false := hD 18 (by decide)
                  clear hD
                  try dsimp only at hK ⊢
                  simp only [Act.put, List.setIfInBounds_toArray, List.set_cons_succ, List.set_cons_zero] at hK
                  generalize vs 18 = vq18 at hK dq18 ⊢
                  subst vq18
                  go_wp2
                  exact hK _ _ rfl (Mod.refl _ _)
                refine opsOkA_cons ?_ ?_
                · intro K vs W hR hD hK
                  have dq21 : vs 21 = undef := hD 21 (by decide)
                  clear hD
                  try dsimp only at hK ⊢
                  simp only [Act.put, List.setIfInBounds_toArray, List.set_cons_succ, List.set_cons_zero] at hK
                  generalize vs 21 = vq21 at hK dq21 ⊢
                  subst vq21
                  go_wp2
                  exact hK _ _ rfl (Mod.refl _ _)
                refine opsOkA_cons ?_ ?_
                · intro K vs W hR hD hK
                  have dq21 : vs 21 = undef := hD 21 (by decide)
                  clear hD
                  try dsimp only at hK ⊢
                  simp only [Act.put, List.setIfInBounds_toArray, List.set_cons_succ, List.set_cons_zero] at hK
                  generalize vs 21 = vq21 at hK dq21 ⊢
                  subst vq21
                  go_wp2
                  exact hK _ _ rfl (Mod.refl _ _)
                refine opsOkA_cons ?_ ?_
                · intro K vs W hR hD hK
                  have dq21 : vs 21 = undef := hD 21 (by decide)
                  clear hD
                  try dsimp only at hK ⊢
                  simp only [Act.put, List.setIfInBounds_toArray, List.set_cons_succ, List.set_cons_zero] at hK
                  generalize vs 21 = vq21 at hK dq21 ⊢
                  subst vq21
                  go_wp2
                  exact hK _ _ rfl (Mod.refl _ _)
                refine opsOkA_cons ?_ ?_
                · intro K vs W hR hD hK
                  have dq21 : vs 21 = undef := hD 21 (by decide)
                  clear hD
                  try dsimp only at hK ⊢
                  simp only [Act.put, List.setIfInBounds_toArray, List.set_cons_succ, List.set_cons_zero] at hK
                  generalize vs 21 = vq21 at hK dq21 ⊢
                  subst vq21
                  go_wp2_with fail
                  exact hK _ _ rfl (Mod.refl _ _)
                refine opsOkA_cons ?_ ?_
                · intro K vs W hR hD hK
                  have dq21 : vs 21 = undef := hD 21 (by decide)
                  clear hD
                  try dsimp only at hK ⊢
                  simp only [Act.put, List.setIfInBounds_toArray, List.set_cons_succ, List.set_cons_zero] at hK
                  generalize vs 21 = vq21 at hK dq21 ⊢
                  subst vq21
                  go_wp2
                  exact hK _ _ rfl (Mod.refl _ _)
                refine opsOkA_cons ?_ ?_
                · intro K vs W hR hD hK
                  have dq21 : vs 21 = undef := hD 21 (by decide)
                  clear hD
                  try dsimp only at hK ⊢
                  simp only [Act.put, List.setIfInBounds_toArray, List.set_cons_succ, List.set_cons_zero] at hK
                  generalize vs 21 = vq21 at hK dq21 ⊢
                  subst vq21
                  go_wp2_with fail
                  exact hK _ _ rfl (Mod.refl _ _)
                refine opsOkA_cons ?_ ?_
                · intro K vs W hR hD hK
                  have dq21 : vs 21 = undef := hD 21 (by decide)
                  clear hD
                  try dsimp only at hK ⊢
                  simp only [Act.put, List.setIfInBounds_toArray, List.set_cons_succ, List.set_cons_zero] at hK
                  generalize vs 21 = vq21 at hK dq21 ⊢
                  subst vq21
                  go_wp2
                  exact hK _ _ rfl (Mod.refl _ _)
                refine opsOkA_cons ?_ ?_
                · intro K vs W hR hD hK
                  have dq21 : vs 21 = undef := hD 21 (by decide)
                  clear hD
                  try dsimp only at hK ⊢
                  simp only [Act.put, List.setIfInBounds_toArray, List.set_cons_succ, List.set_cons_zero] at hK
                  generalize vs 21 = vq21 at hK dq21 ⊢
                  subst vq21
                  go_wp2
                  exact hK _ _ rfl (Mod.refl _ _)
                refine opsOkA_cons ?_ ?_
                · intro K vs W hR hD hK
                  have dq21 : vs 21 = undef := hD 21 (by decide)
                  clear hD
                  try dsimp only at hK ⊢
                  simp only [Act.put, List.setIfInBounds_toArray, List.set_cons_succ, List.set_cons_zero] at hK
                  generalize vs 21 = vq21 at hK dq21 ⊢
                  subst vq21
                  go_wp2
                  exact hK _ _ rfl (Mod.refl _ _)
                refine opsOkA_cons ?_ ?_
                · intro K vs W hR hD hK
                  have dq21 : vs 21 = undef := hD 21 (by decide)
                  clear hD
                  try dsimp only at hK ⊢
                  simp only [Act.put, List.setIfInBounds_toArray, List.set_cons_succ, List.set_cons_zero] at hK
                  generalize vs 21 = vq21 at hK dq21 ⊢
                  subst vq21
                  go_wp2
                  exact hK _ _ rfl (Mod.refl _ _)
                refine opsOkA_cons ?_ ?_
                · intro K vs W hR hD hK
                  have dq21 : vs 21 = undef := hD 21 (by decide)
                  clear hD
                  try dsimp only at hK ⊢
                  simp only [Act.put, List.setIfInBounds_toArray, List.set_cons_succ, List.set_cons_zero] at hK
                  generalize vs 21 = vq21 at hK dq21 ⊢
                  subst vq21
                  go_wp2
                  exact hK _ _ rfl (Mod.refl _ _)
                refine opsOkA_cons ?_ ?_
                · intro K vs W hR hD hK
                  have dq21 : vs 21 = undef := hD 21 (by decide)
                  clear hD
                  try dsimp only at hK ⊢
                  simp only [Act.put, List.setIfInBounds_toArray, List.set_cons_succ, List.set_cons_zero] at hK
                  generalize vs 21 = vq21 at hK dq21 ⊢
                  subst vq21
                  go_wp2_with fail
                  exact hK _ _ rfl (Mod.refl _ _)
                refine opsOkA_cons ?_ ?_
                · intro K vs W hR hD hK
                  have dq21 : vs 21 = undef := hD 21 (by decide)
                  clear hD
                  try dsimp only at hK ⊢
                  simp only [Act.put, List.setIfInBounds_toArray, List.set_cons_succ, List.set_cons_zero] at hK
                  generalize vs 21 = vq21 at hK dq21 ⊢
                  subst vq21
                  go_wp2
                  exact hK _ _ rfl (Mod.refl _ _)
                refine opsOkA_cons ?_ ?_
                · intro K vs W hR hD hK
                  have dq21 : vs 21 = undef := hD 21 (by decide)
                  clear hD
                  try dsimp only at hK ⊢
                  simp only [Act.put, List.setIfInBounds_toArray, List.set_cons_succ, List.set_cons_zero] at hK
                  generalize vs 21 = vq21 at hK dq21 ⊢
                  subst vq21
                  go_wp2_with fail
                  exact hK _ _ rfl (Mod.refl _ _)
                refine opsOkA_cons ?_ ?_
                · intro K vs W hR hD hK
                  have dq21 : vs 21 = undef := hD 21 (by decide)
                  clear hD
                  try dsimp only at hK ⊢
                  simp only [Act.put, List.setIfInBounds_toArray, List.set_cons_succ, List.set_cons_zero] at hK
                  generalize vs 21 = vq21 at hK dq21 ⊢
                  subst vq21
                  go_wp2
                  exact hK _ _ rfl (Mod.refl _ _)
                refine opsOkA_cons ?_ ?_
                · intro K vs W hR hD hK
                  have dq21 : vs 21 = undef := hD 21 (by decide)
                  clear hD
                  try dsimp only at hK ⊢
                  simp only [Act.put, List.setIfInBounds_toArray, List.set_cons_succ, List.set_cons_zero] at hK
                  generalize vs 21 = vq21 at hK dq21 ⊢
                  subst vq21
                  go_wp2
                  exact hK _ _ rfl (Mod.refl _ _)
                refine opsOkA_cons ?_ ?_
                · intro K vs W hR hD hK
                  have dq21 : vs 21 = undef := hD 21 (by decide)
                  clear hD
                  try dsimp only at hK ⊢
                  simp only [Act.put, List.setIfInBounds_toArray, List.set_cons_succ, List.set_cons_zero] at hK
                  generalize vs 21 = vq21 at hK dq21 ⊢
                  subst vq21
                  go_wp2
                  exact hK _ _ rfl (Mod.refl _ _)
                refine opsOkA_cons ?_ ?_
                · intro K vs W hR hD hK
                  have dq21 : vs 21 = undef := hD 21 (by decide)
                  clear hD
                  try dsimp only at hK ⊢
                  simp only [Act.put, List.setIfInBounds_toArray, List.set_cons_succ, List.set_cons_zero] at hK
                  generalize vs 21 = vq21 at hK dq21 ⊢
                  subst vq21
                  go_wp2
                  exact hK _ _ rfl (Mod.refl _ _)
                refine opsOkA_cons ?_ ?_
                · intro K vs W hR hD hK
                  have dq21 : vs 21 = undef := hD 21 (by decide)
                  clear hD
                  try dsimp only at hK ⊢
                  simp only [Act.put, List.setIfInBounds_toArray, List.set_cons_succ, List.set_cons_zero] at hK
                  generalize vs 21 = vq21 at hK dq21 ⊢
                  subst vq21
                  go_wp2
                  exact hK _ _ rfl (Mod.refl _ _)
                refine opsOkA_cons ?_ ?_
                · intro K vs W hR hD hK
                  have dq18 : vs 18 = .bool false := hD 18 (by decide)
                  clear hD
                  try dsimp only at hK ⊢
                  simp only [Act.put, List.setIfInBounds_toArray, List.set_cons_succ, List.set_cons_zero] at hK
                  generalize vs 18 = vq18 at hK dq18 ⊢
                  subst vq18
                  go_wp2
                  exact hK _ _ rfl (Mod.refl _ _)
                refine opsOkA_cons ?_ ?_
                · intro K vs W hR hD hK
                  have dq18 : vs 18 = .bool false := hD 18 (by decide)
                  have dq41 : vs 41 = undef := hD 41 (by decide)
                  clear hD
                  try dsimp only at hK ⊢
                  simp only [Act.put, List.setIfInBounds_toArray, List.set_cons_succ, List.set_cons_zero] at hK
                  generalize vs 18 = vq18 at hK dq18 ⊢
                  subst vq18
                  generalize vs 41 = vq41 at hK dq41 ⊢
                  subst vq41
                  go_wp2
                  exact hK _ _ rfl (Mod.refl _ _)
                exact opsOkA_nil
              · intro vs wq9 hR hF
                have dq42 : vs 42 = .bool false := hF 42 (by decide)
                clear hF
                try dsimp only
                generalize vs 42 = vq42 at dq42 ⊢
                subst dq42
                replace HS := Lib.hid (HSd.out.step hR)
                clear HSd hR
                have hbbg := (HS.out.now).2.2.2.2.2.2.2.2.2.2.2.2.2.2.1
                have qbg_0 := hbbg.cell 0 rfl
                have qbg_1 := hbbg.cell 1 rfl
                have qbg_2 := hbbg.cell 2 rfl
                have lbg := hbbg.lt
                clear hbbg
                go_wp2_with fail
                go_roundw
                case rel => exact ⟨q + 1, b1, hlq, by go_num, rfl, by rw [HTK.out, if_neg (by simp)], (HS.out.now).2.2.2.2.2.2.1⟩
                case measure => simp [intOf]; omega
            | false =>
              by_cases c2 : 0 ≤ dx
              case neg =>
                have Z16 := Lib.hid (show decide (0 ≤ dx) = false from by simp; omega)
                clear qbg_0 qbg_1 qbg_2 lbg
                have HSd := Lib.hid HS.out.drew
                refine wp_region_inv3 (act := ?actde_r21_1) (Mod (fun _ => False)) (fun i => (de_r21_1_F q xq dx n2 ac cc ax cx an cn ln fb fo cb co gb go).getD i (fun _ _ => True)) (fun i => de_r21_1_D.getD i []) (by kernel_rfl) (by kernel_rfl) (by kernel_rfl) (by kernel_rfl) (fun _ => Mod.refl _ _)
                  (fun _ _ _ h k => h.trans k (fun _ _ e => e) (fun _ _ e => e)) ?hactde_r21_1 (stable_list ?_) ?_ ?_
                case hactde_r21_1 => intro vs; simp only [putAll, Nat.zero_add, Nat.reduceAdd, Act.put, List.setIfInBounds_toArray, List.set_cons_succ, List.set_cons_zero]; exact rfl
                · unfold de_r21_1_F
                  exact stable_cons (stable_val _) <| stable_cons (stable_val _) <| stable_cons (stable_val _) <| stable_cons (stable_val _) <| stable_cons (stable_val _) <| stable_cons (stable_val _) <| stable_cons (stable_val _) <| stable_cons (stable_val _) <| stable_cons (stable_val _) <| stable_cons (stable_val _) <| stable_cons (stable_val _) <| stable_cons (stable_val _) <| stable_cons (stable_val _) <| stable_cons (stable_val _) <| stable_cons (stable_val _) <| stable_cons (stable_val _) <| stable_cons (stable_val _) <| stable_cons (stable_val _) <| stable_cons (stable_val _) <| stable_cons (stable_val _) <| stable_cons (stable_val _) <| stable_cons (stable_val _) <| stable_cons (stable_val _) <| stable_cons (stable_val _) <| stable_cons (stable_val _) <| stable_cons (stable_val _) <| stable_cons (stable_val _) <| stable_cons (stable_val _) <| stable_cons (stable_val _) <| stable_cons (stable_val _) <| stable_cons (stable_val _) <| stable_cons (stable_val _) <| stable_cons (stable_val _) <| stable_cons (stable_val _) <| stable_cons (stable_val _) <| stable_cons (stable_val _) <| stable_cons (stable_val _) <| stable_cons (stable_val _) <| stable_cons (stable_val _) <| stable_cons (stable_val _) <| stable_cons (stable_val _) <| stable_cons (stable_val _) <| stable_cons (stable_val _) <| stable_nil
                · refine opsOkA_cons ?_ ?_
                  · intro K vs W hR hD hK
                    clear hD
                    try dsimp only at hK ⊢
                    simp only [Act.put, List.setIfInBounds_toArray, List.set_cons_succ, List.set_cons_zero] at hK
                    go_wp2
                    exact hK _ _ rfl (Mod.refl _ _)
                  refine opsOkA_cons ?_ ?_
                  · intro K vs W hR hD hK
                    clear hD
                    try dsimp only at hK ⊢
                    simp only [Act.put, List.setIfInBounds_toArray, List.set_cons_succ, List.set_cons_zero] at hK
                    go_wp2
                    exact hK _ _ rfl (Mod.refl _ _)
                  refine opsOkA_cons ?_ ?_
                  · intro K vs W hR hD hK
                    clear hD
                    try dsimp only at hK ⊢
                    simp only [Act.put, List.setIfInBounds_toArray, List.set_cons_succ, List.set_cons_zero] at hK
                    go_wp2
                    exact hK _ _ rfl (Mod.refl _ _)
                  refine opsOkA_cons ?_ ?_
                  · intro K vs W hR hD hK
                    have dq1 : vs 1 = .slice an ln cn := hD 1 (by decide)
                    have dq2 : vs 2 = .int .i64 (q : Int) := hD 2 (by decide)
                    clear hD
                    try dsimp only at hK ⊢
                    simp only [Act.put, List.setIfInBounds_toArray, List.set_cons_succ, List.set_cons_zero] at hK
                    generalize vs 1 = vq1 at hK dq1 ⊢
                    subst vq1
                    generalize vs 2 = vq2 at hK dq2 ⊢
                    subst vq2
                    have hix := HIf.out
                    go_wp2_with fail
                    exact hK _ _ rfl (Mod.refl _ _)
                  refine opsOkA_cons ?_ ?_
                  · intro K vs W hR hD hK
                    have dq3 : vs 3 = .pointer (some ⟨fb, fo, none⟩) := hD 3 (by decide)
                    clear hD
                    try dsimp only at hK ⊢
                    simp only [Act.put, List.setIfInBounds_toArray, List.set_cons_succ, List.set_cons_zero] at hK
                    generalize vs 3 = vq3 at hK dq3 ⊢
                    subst vq3
                    have c0 := (HSd.out.at (hR)).2.2.2.2.2.1
                    go_wp2
                    exact hK _ _ rfl (Mod.refl _ _)
                  refine opsOkA_cons ?_ ?_
                  · intro K vs W hR hD hK
                    have dq0 : vs 0 = .slice ac n2 cc := hD 0 (by decide)
                    have dq4 : vs 4 = .int .i64 (xq : Int) := hD 4 (by decide)
                    clear hD
                    try dsimp only at hK ⊢
                    simp only [Act.put, List.setIfInBounds_toArray, List.set_cons_succ, List.set_cons_zero] at hK
                    generalize vs 0 = vq0 at hK dq0 ⊢
                    subst vq0
                    generalize vs 4 = vq4 at hK dq4 ⊢
                    subst vq4
                    have hix := HIc.out
                    go_wp2_with fail
                    exact hK _ _ rfl (Mod.refl _ _)
                  refine opsOkA_cons ?_ ?_
                  · intro K vs W hR hD hK
                    have dq5 : vs 5 = .pointer (some ⟨cb, co, none⟩) := hD 5 (by decide)
                    clear hD
                    try dsimp only at hK ⊢
                    simp only [Act.put, List.setIfInBounds_toArray, List.set_cons_succ, List.set_cons_zero] at hK
                    generalize vs 5 = vq5 at hK dq5 ⊢
                    subst vq5
                    have c0 := (HSd.out.at (hR)).2.2.2.2.1
                    go_wp2
                    exact hK _ _ rfl (Mod.refl _ _)
                  refine opsOkA_cons ?_ ?_
                  · intro K vs W hR hD hK
                    have dq6 : vs 6 = .bool false := hD 6 (by decide)
                    clear hD
                    try dsimp only at hK ⊢
                    simp only [Act.put, List.setIfInBounds_toArray, List.set_cons_succ, List.set_cons_zero] at hK
                    generalize vs 6 = vq6 at hK dq6 ⊢
                    subst vq6
                    go_wp2
                    exact hK _ _ rfl (Mod.refl _ _)
                  refine opsOkA_cons ?_ ?_
                  · intro K vs W hR hD hK
                    have dq7 : vs 7 = .bool true := hD 7 (by decide)
                    clear hD
                    try dsimp only at hK ⊢
                    simp only [Act.put, List.setIfInBounds_toArray, List.set_cons_succ, List.set_cons_zero] at hK
                    generalize vs 7 = vq7 at hK dq7 ⊢
                    subst vq7
                    go_wp2
                    exact hK _ _ rfl (Mod.refl _ _)
                  refine opsOkA_cons ?_ ?_
                  · intro K vs W hR hD hK
                    have dq8 : vs 8 = .bool true := hD 8 (by decide)
                    clear hD
                    try dsimp only at hK ⊢
                    simp only [Act.put, List.setIfInBounds_toArray, List.set_cons_succ, List.set_cons_zero] at hK
                    generalize vs 8 = vq8 at hK dq8 ⊢
                    subst vq8
                    go_wp2
                    exact hK _ _ rfl (Mod.refl _ _)
                  refine opsOkA_cons ?_ ?_
                  · intro K vs W hR hD hK
                    have dq8 : vs 8 = .bool true := hD 8 (by decide)
                    clear hD
                    try dsimp only at hK ⊢
                    simp only [Act.put, List.setIfInBounds_toArray, List.set_cons_succ, List.set_cons_zero] at hK
                    generalize vs 8 = vq8 at hK dq8 ⊢
                    subst vq8
                    go_wp2
                    exact hK _ _ rfl (Mod.refl _ _)
                  refine opsOkA_cons ?_ ?_
                  · intro K vs W hR hD hK
                    have dq8 : vs 8 = .bool true := hD 8 (by decide)
                    clear hD
                    try dsimp only at hK ⊢
                    simp only [Act.put, List.setIfInBounds_toArray, List.set_cons_succ, List.set_cons_zero] at hK
                    generalize vs 8 = vq8 at hK dq8 ⊢
                    subst vq8
                    go_wp2
                    exact hK _ _ rfl (Mod.refl _ _)
                  refine opsOkA_cons ?_ ?_
                  · intro K vs W hR hD hK
                    have dq8 : vs 8 = .bool true := hD 8 (by decide)
                    have dq10 : vs 10 = .slice an ln cn := hD 10 (by decide)
                    have dq11 : vs 11 = .int .i64 (q : Int) := hD 11 (by decide)
                    clear hD
                    try dsimp only at hK ⊢
                    simp only [Act.put, List.setIfInBounds_toArray, List.set_cons_succ, List.set_cons_zero] at hK
                    generalize vs 8 = vq8 at hK dq8 ⊢
                    subst vq8
                    generalize vs 10 = vq10 at hK dq10 ⊢
                    subst vq10
                    generalize vs 11 = vq11 at hK dq11 ⊢
                    subst vq11
                    have hix := HIf.out
                    go_wp2_with fail
                    exact hK _ _ rfl (Mod.refl _ _)
                  refine opsOkA_cons ?_ ?_
                  · intro K vs W hR hD hK
                    have dq8 : vs 8 = .bool true := hD 8 (by decide)
                    have dq12 : vs 12 = .pointer (some ⟨fb, fo, none⟩) := hD 12 (by decide)
                    clear hD
                    try dsimp only at hK ⊢
                    simp only [Act.put, List.setIfInBounds_toArray, List.set_cons_succ, List.set_cons_zero] at hK
                    generalize vs 8 = vq8 at hK dq8 ⊢
                    subst vq8
                    generalize vs 12 = vq12 at hK dq12 ⊢
                    subst vq12
                    have c0 := (HSd.out.at (hR)).2.2.2.2.2.1
                    go_wp2
                    exact hK _ _ rfl (Mod.refl _ _)
                  refine opsOkA_cons ?_ ?_
                  · intro K vs W hR hD hK
                    have dq8 : vs 8 = .bool true := hD 8 (by decide)
                    have dq9 : vs 9 = .slice ax n2 cx := hD 9 (by decide)
                    have dq13 : vs 13 = .int .i64 (xq : Int) := hD 13 (by decide)
                    clear hD
                    try dsimp only at hK ⊢
                    simp only [Act.put, List.setIfInBounds_toArray, List.set_cons_succ, List.set_cons_zero] at hK
                    generalize vs 8 = vq8 at hK dq8 ⊢
                    subst vq8
                    generalize vs 9 = vq9 at hK dq9 ⊢
                    subst vq9
                    generalize vs 13 = vq13 at hK dq13 ⊢
                    subst vq13
                    have hix := HIg.out
                    go_wp2_with fail
                    exact hK _ _ rfl (Mod.refl _ _)
                  refine opsOkA_cons ?_ ?_
                  · intro K vs W hR hD hK
                    have dq8 : vs 8 = .bool true := hD 8 (by decide)
                    have dq14 : vs 14 = .pointer (some ⟨gb, go, none⟩) := hD 14 (by decide)
                    clear hD
                    try dsimp only at hK ⊢
                    simp only [Act.put, List.setIfInBounds_toArray, List.set_cons_succ, List.set_cons_zero] at hK
                    generalize vs 8 = vq8 at hK dq8 ⊢
                    subst vq8
                    generalize vs 14 = vq14 at hK dq14 ⊢
                    subst vq14
                    have c0 := (HSd.out.at (hR)).2.2.2.1
                    go_wp2
                    exact hK _ _ rfl (Mod.refl _ _)
                  refine opsOkA_cons ?_ ?_
                  · intro K vs W hR hD hK
                    have dq8 : vs 8 = .bool true := hD 8 (by decide)
                    have dq15 : vs 15 = .int .i64 dx := hD 15 (by decide)
                    clear hD
                    try dsimp only at hK ⊢
                    simp only [Act.put, List.setIfInBounds_toArray, List.set_cons_succ, List.set_cons_zero] at hK
                    generalize vs 8 = vq8 at hK dq8 ⊢
                    subst vq8
                    generalize vs 15 = vq15 at hK dq15 ⊢
                    subst vq15
                    have zz := Z16.out
                    go_wp2
                    exact hK _ _ rfl (Mod.refl _ _)
                  refine opsOkA_cons ?_ ?_
                  · intro K vs W hR hD hK
                    have dq8 : vs 8 = .bool true := hD 8 (by decide)
                    have dq16 : vs 16 = .bool false := hD 16 (by decide)
                    clear hD
                    try dsimp only at hK ⊢
                    simp only [Act.put, List.setIfInBounds_toArray, List.set_cons_succ, List.set_cons_zero] at hK
                    generalize vs 8 = vq8 at hK dq8 ⊢
                    subst vq8
                    generalize vs 16 = vq16 at hK dq16 ⊢
                    subst vq16
                    go_wp2
                    exact hK _ _ rfl (Mod.refl _ _)
                  refine opsOkA_cons ?_ ?_
                  · intro K vs W hR hD hK
                    have dq17 : vs 17 = .bool false := hD 17 (by decide)
                    clear hD
                    try dsimp only at hK ⊢
                    simp only [Act.put, List.setIfInBounds_toArray, List.set_cons_succ, List.set_cons_zero] at hK
                    generalize vs 17 = vq17 at hK dq17 ⊢
                    subst vq17
                    go_wp2
                    exact hK _ _ rfl (Mod.refl _ _)
                  refine opsOkA_cons ?_ ?_
                  · intro K vs W hR hD hK
                    have dq18 : vs 18 = .bool false := hD 18 (by decide)
                    clear hD
                    try dsimp only at hK ⊢
                    simp only [Act.put, List.setIfInBounds_toArray, List.set_cons_succ, List.set_cons_zero] at hK
                    generalize vs 18 = vq18 at hK dq18 ⊢
                    subst vq18
                    go_wp2
                    exact hK _ _ rfl (Mod.refl _ _)
                  refine opsOkA_cons ?_ ?_
                  · intro K vs W hR hD hK
                    have dq18 : vs 18 = .bool false := hD 18 (by decide)
                    clear hD
                    try dsimp only at hK ⊢
                    simp only [Act.put, List.setIfInBounds_toArray, List.set_cons_succ, List.set_cons_zero] at hK
                    generalize vs 18 = vq18 at hK dq18 ⊢
                    subst vq18
                    go_wp2
                    exact hK _ _ rfl (Mod.refl _ _)
                  refine opsOkA_cons ?_ ?_
                  · intro K vs W hR hD hK
                    have dq18 : vs 18 = .bool false := hD 18 (by decide)
                    clear hD
                    try dsimp only at hK ⊢
                    simp only [Act.put, List.setIfInBounds_toArray, List.set_cons_succ, List.set_cons_zero] at hK
                    generalize vs 18 = vq18 at hK dq18 ⊢
                    subst vq18
                    go_wp2
                    exact hK _ _ rfl (Mod.refl _ _)
                  refine opsOkA_cons ?_ ?_
                  · intro K vs W hR hD hK
                    have dq21 : vs 21 = undef := hD 21 (by decide)
                    clear hD
                    try dsimp only at hK ⊢
                    simp only [Act.put, List.setIfInBounds_toArray, List.set_cons_succ, List.set_cons_zero] at hK
                    generalize vs 21 = vq21 at hK dq21 ⊢
                    subst vq21
                    go_wp2
                    exact hK _ _ rfl (Mod.refl _ _)
                  refine opsOkA_cons ?_ ?_
                  · intro K vs W hR hD hK
                    have dq21 : vs 21 = undef := hD 21 (by decide)
                    clear hD
                    try dsimp only at hK ⊢
                    simp only [Act.put, List.setIfInBounds_toArray, List.set_cons_succ, List.set_cons_zero] at hK
                    generalize vs 21 = vq21 at hK dq21 ⊢
                    subst vq21
                    go_wp2
                    exact hK _ _ rfl (Mod.refl _ _)
                  refine opsOkA_cons ?_ ?_
                  · intro K vs W hR hD hK
                    have dq21 : vs 21 = undef := hD 21 (by decide)
                    clear hD
                    try dsimp only at hK ⊢
                    simp only [Act.put, List.setIfInBounds_toArray, List.set_cons_succ, List.set_cons_zero] at hK
                    generalize vs 21 = vq21 at hK dq21 ⊢
                    subst vq21
                    go_wp2
                    exact hK _ _ rfl (Mod.refl _ _)
                  refine opsOkA_cons ?_ ?_
                  · intro K vs W hR hD hK
                    have dq21 : vs 21 = undef := hD 21 (by decide)
                    clear hD
                    try dsimp only at hK ⊢
                    simp only [Act.put, List.setIfInBounds_toArray, List.set_cons_succ, List.set_cons_zero] at hK
                    generalize vs 21 = vq21 at hK dq21 ⊢
                    subst vq21
                    go_wp2_with fail
                    exact hK _ _ rfl (Mod.refl _ _)
                  refine opsOkA_cons ?_ ?_
                  · intro K vs W hR hD hK
                    have dq21 : vs 21 = undef := hD 21 (by decide)
                    clear hD
                    try dsimp only at hK ⊢
                    simp only [Act.put, List.setIfInBounds_toArray, List.set_cons_succ, List.set_cons_zero] at hK
                    generalize vs 21 = vq21 at hK dq21 ⊢
                    subst vq21
                    go_wp2
                    exact hK _ _ rfl (Mod.refl _ _)
                  refine opsOkA_cons ?_ ?_
                  · intro K vs W hR hD hK
                    have dq21 : vs 21 = undef := hD 21 (by decide)
                    clear hD
                    try dsimp only at hK ⊢
                    simp only [Act.put, List.setIfInBounds_toArray, List.set_cons_succ, List.set_cons_zero] at hK
                    generalize vs 21 = vq21 at hK dq21 ⊢
                    subst vq21
                    go_wp2_with fail
                    exact hK _ _ rfl (Mod.refl _ _)
                  refine opsOkA_cons ?_ ?_
                  · intro K vs W hR hD hK
                    have dq21 : vs 21 = undef := hD 21 (by decide)
                    clear hD
                    try dsimp only at hK ⊢
                    simp only [Act.put, List.setIfInBounds_toArray, List.set_cons_succ, List.set_cons_zero] at hK
                    generalize vs 21 = vq21 at hK dq21 ⊢
                    subst vq21
                    go_wp2
                    exact hK _ _ rfl (Mod.refl _ _)
                  refine opsOkA_cons ?_ ?_
                  · intro K vs W hR hD hK
                    have dq21 : vs 21 = undef := hD 21 (by decide)
                    clear hD
                    try dsimp only at hK ⊢
                    simp only [Act.put, List.setIfInBounds_toArray, List.set_cons_succ, List.set_cons_zero] at hK
                    generalize vs 21 = vq21 at hK dq21 ⊢
                    subst vq21
                    go_wp2
                    exact hK _ _ rfl (Mod.refl _ _)
                  refine opsOkA_cons ?_ ?_
                  · intro K vs W hR hD hK
                    have dq21 : vs 21 = undef := hD 21 (by decide)
                    clear hD
                    try dsimp only at hK ⊢
                    simp only [Act.put, List.setIfInBounds_toArray, List.set_cons_succ, List.set_cons_zero] at hK
                    generalize vs 21 = vq21 at hK dq21 ⊢
                    subst vq21
                    go_wp2
                    exact hK _ _ rfl (Mod.refl _ _)
                  refine opsOkA_cons ?_ ?_
                  · intro K vs W hR hD hK
                    have dq21 : vs 21 = undef := hD 21 (by decide)
                    clear hD
                    try dsimp only at hK ⊢
                    simp only [Act.put, List.setIfInBounds_toArray, List.set_cons_succ, List.set_cons_zero] at hK
                    generalize vs 21 = vq21 at hK dq21 ⊢
                    subst vq21
                    go_wp2
                    exact hK _ _ rfl (Mod.refl _ _)
                  refine opsOkA_cons ?_ ?_
                  · intro K vs W hR hD hK
                    have dq21 : vs 21 = undef := hD 21 (by decide)
                    clear hD
                    try dsimp only at hK ⊢
                    simp only [Act.put, List.setIfInBounds_toArray, List.set_cons_succ, List.set_cons_zero] at hK
                    generalize vs 21 = vq21 at hK dq21 ⊢
                    subst vq21
                    go_wp2
                    exact hK _ _ rfl (Mod.refl _ _)
                  refine opsOkA_cons ?_ ?_
                  · intro K vs W hR hD hK
                    have dq21 : vs 21 = undef := hD 21 (by decide)
                    clear hD
                    try dsimp only at hK ⊢
                    simp only [Act.put, List.setIfInBounds_toArray, List.set_cons_succ, List.set_cons_zero] at hK
                    generalize vs 21 = vq21 at hK dq21 ⊢
                    subst vq21
                    go_wp2_with fail
                    exact hK _ _ rfl (Mod.refl _ _)
                  refine opsOkA_cons ?_ ?_
                  · intro K vs W hR hD hK
                    have dq21 : vs 21 = undef := hD 21 (by decide)
                    clear hD
                    try dsimp only at hK ⊢
                    simp only [Act.put, List.setIfInBounds_toArray, List.set_cons_succ, List.set_cons_zero] at hK
                    generalize vs 21 = vq21 at hK dq21 ⊢
                    subst vq21
                    go_wp2
                    exact hK _ _ rfl (Mod.refl _ _)
                  refine opsOkA_cons ?_ ?_
                  · intro K vs W hR hD hK
                    have dq21 : vs 21 = undef := hD 21 (by decide)
                    clear hD
                    try dsimp only at hK ⊢
                    simp only [Act.put, List.setIfInBounds_toArray, List.set_cons_succ, List.set_cons_zero] at hK
                    generalize vs 21 = vq21 at hK dq21 ⊢
                    subst vq21
                    go_wp2_with fail
                    exact hK _ _ rfl (Mod.refl _ _)
                  refine opsOkA_cons ?_ ?_
                  · intro K vs W hR hD hK
                    have dq21 : vs 21 = undef := hD 21 (by decide)
                    clear hD
                    try dsimp only at hK ⊢
                    simp only [Act.put, List.setIfInBounds_toArray, List.set_cons_succ, List.set_cons_zero] at hK
                    generalize vs 21 = vq21 at hK dq21 ⊢
                    subst vq21
                    go_wp2
                    exact hK _ _ rfl (Mod.refl _ _)
                  refine opsOkA_cons ?_ ?_
                  · intro K vs W hR hD hK
                    have dq21 : vs 21 = undef := hD 21 (by decide)
                    clear hD
                    try dsimp only at hK ⊢
                    simp only [Act.put, List.setIfInBounds_toArray, List.set_cons_succ, List.set_cons_zero] at hK
                    generalize vs 21 = vq21 at hK dq21 ⊢
                    subst vq21
                    go_wp2
                    exact hK _ _ rfl (Mod.refl _ _)
                  refine opsOkA_cons ?_ ?_
                  · intro K vs W hR hD hK
                    have dq21 : vs 21 = undef := hD 21 (by decide)
                    clear hD
                    try dsimp only at hK ⊢
                    simp only [Act.put, List.setIfInBounds_toArray, List.set_cons_succ, List.set_cons_zero] at hK
                    generalize vs 21 = vq21 at hK dq21 ⊢
                    subst vq21
                    go_wp2
                    exact hK _ _ rfl (Mod.refl _ _)
                  refine opsOkA_cons ?_ ?_
                  · intro K vs W hR hD hK
                    have dq21 : vs 21 = undef := hD 21 (by decide)
                    clear hD
                    try dsimp only at hK ⊢
                    simp only [Act.put, List.setIfInBounds_toArray, List.set_cons_succ, List.set_cons_zero] at hK
                    generalize vs 21 = vq21 at hK dq21 ⊢
                    subst vq21
                    go_wp2
                    exact hK _ _ rfl (Mod.refl _ _)
                  refine opsOkA_cons ?_ ?_
                  · intro K vs W hR hD hK
                    have dq21 : vs 21 = undef := hD 21 (by decide)
                    clear hD
                    try dsimp only at hK ⊢
                    simp only [Act.put, List.setIfInBounds_toArray, List.set_cons_succ, List.set_cons_zero] at hK
                    generalize vs 21 = vq21 at hK dq21 ⊢
                    subst vq21
                    go_wp2
                    exact hK _ _ rfl (Mod.refl _ _)
                  refine opsOkA_cons ?_ ?_
                  · intro K vs W hR hD hK
                    have dq18 : vs 18 = .bool false := hD 18 (by decide)
                    clear hD
                    try dsimp only at hK ⊢
                    simp only [Act.put, List.setIfInBounds_toArray, List.set_cons_succ, List.set_cons_zero] at hK
                    generalize vs 18 = vq18 at hK dq18 ⊢
                    subst vq18
                    go_wp2
                    exact hK _ _ rfl (Mod.refl _ _)
                  refine opsOkA_cons ?_ ?_
                  · intro K vs W hR hD hK
                    have dq18 : vs 18 = .bool false := hD 18 (by decide)
                    have dq41 : vs 41 = undef := hD 41 (by decide)
                    clear hD
                    try dsimp only at hK ⊢
                    simp only [Act.put, List.setIfInBounds_toArray, List.set_cons_succ, List.set_cons_zero] at hK
                    generalize vs 18 = vq18 at hK dq18 ⊢
                    subst vq18
                    generalize vs 41 = vq41 at hK dq41 ⊢
                    subst vq41
                    go_wp2
                    exact hK _ _ rfl (Mod.refl _ _)
                  exact opsOkA_nil
                · intro vs wq10 hR hF
                  have dq42 : vs 42 = .bool false := hF 42 (by decide)
                  clear hF
                  try dsimp only
                  generalize vs 42 = vq42 at dq42 ⊢
                  subst dq42
                  replace HS := Lib.hid (HSd.out.step hR)
                  clear HSd hR
                  have hbbg := (HS.out.now).2.2.2.2.2.2.2.2.2.2.2.2.2.2.1
                  have qbg_0 := hbbg.cell 0 rfl
                  have qbg_1 := hbbg.cell 1 rfl
                  have qbg_2 := hbbg.cell 2 rfl
                  have lbg := hbbg.lt
                  clear hbbg
                  go_wp2_with fail
                  go_roundw
                  case rel => exact ⟨q + 1, b1, hlq, by go_num, rfl, by rw [HTK.out, if_neg (by omega)], (HS.out.now).2.2.2.2.2.2.1⟩
                  case measure => simp [intOf]; omega
              case pos =>
                by_cases c3 : b1 < 0
                case pos =>
                  have Z16 := Lib.hid (show decide (0 ≤ dx) = true from by simp; omega)
                  have Z20 := Lib.hid (show decide (b1 < 0) = true from by simp; omega)
                  clear qbg_0 qbg_1 qbg_2 lbg
                  have HSd := Lib.hid HS.out.drew
                  refine wp_region_inv3 (act := ?actde_r21_2) (Mod (fun _ => False)) (fun i => (de_r21_2_F q xq b1 dx n2 ac cc ax cx an cn ln fb fo cb co gb go).getD i (fun _ _ => True)) (fun i => de_r21_2_D.getD i []) (by kernel_rfl) (by kernel_rfl) (by kernel_rfl) (by kernel_rfl) (fun _ => Mod.refl _ _)
                    (fun _ _ _ h k => h.trans k (fun _ _ e => e) (fun _ _ e => e)) ?hactde_r21_2 (stable_list ?_) ?_ ?_
                  case hactde_r21_2 => intro vs; simp only [putAll, Nat.zero_add, Nat.reduceAdd, Act.put, List.setIfInBounds_toArray, List.set_cons_succ, List.set_cons_zero]; exact rfl
                  · unfold de_r21_2_F
                    exact stable_cons (stable_val _) <| stable_cons (stable_val _) <| stable_cons (stable_val _) <| stable_cons (stable_val _) <| stable_cons (stable_val _) <| stable_cons (stable_val _) <| stable_cons (stable_val _) <| stable_cons (stable_val _) <| stable_cons (stable_val _) <| stable_cons (stable_val _) <| stable_cons (stable_val _) <| stable_cons (stable_val _) <| stable_cons (stable_val _) <| stable_cons (stable_val _) <| stable_cons (stable_val _) <| stable_cons (stable_val _) <| stable_cons (stable_val _) <| stable_cons (stable_val _) <| stable_cons (stable_val _) <| stable_cons (stable_val _) <| stable_cons (stable_val _) <| stable_cons (stable_val _) <| stable_cons (stable_val _) <| stable_cons (stable_val _) <| stable_cons (stable_val _) <| stable_cons (stable_val _) <| stable_cons (stable_val _) <| stable_cons (stable_val _) <| stable_cons (stable_val _) <| stable_cons (stable_val _) <| stable_cons (stable_val _) <| stable_cons (stable_val _) <| stable_cons (stable_val _) <| stable_cons (stable_val _) <| stable_cons (stable_val _) <| stable_cons (stable_val _) <| stable_cons (stable_val _) <| stable_cons (stable_val _) <| stable_cons (stable_val _) <| stable_cons (stable_val _) <| stable_cons (stable_val _) <| stable_cons (stable_val _) <| stable_cons (stable_val _) <| stable_nil
                  · refine opsOkA_cons ?_ ?_
                    · intro K vs W hR hD hK
                      clear hD
                      try dsimp only at hK ⊢
                      simp only [Act.put, List.setIfInBounds_toArray, List.set_cons_succ, List.set_cons_zero] at hK
                      go_wp2
                      exact hK _ _ rfl (Mod.refl _ _)
                    refine opsOkA_cons ?_ ?_
                    · intro K vs W hR hD hK
                      clear hD
                      try dsimp only at hK ⊢
                      simp only [Act.put, List.setIfInBounds_toArray, List.set_cons_succ, List.set_cons_zero] at hK
                      go_wp2
                      exact hK _ _ rfl (Mod.refl _ _)
                    refine opsOkA_cons ?_ ?_
                    · intro K vs W hR hD hK
                      clear hD
                      try dsimp only at hK ⊢
                      simp only [Act.put, List.setIfInBounds_toArray, List.set_cons_succ, List.set_cons_zero] at hK
                      go_wp2
                      exact hK _ _ rfl (Mod.refl _ _)
                    refine opsOkA_cons ?_ ?_
                    · intro K vs W hR hD hK
                      have dq1 : vs 1 = .slice an ln cn := hD 1 (by decide)
                      have dq2 : vs 2 = .int .i64 (q : Int) := hD 2 (by decide)
                      clear hD
                      try dsimp only at hK ⊢
                      simp only [Act.put, List.setIfInBounds_toArray, List.set_cons_succ, List.set_cons_zero] at hK
                      generalize vs 1 = vq1 at hK dq1 ⊢
                      subst vq1
                      generalize vs 2 = vq2 at hK dq2 ⊢
                      subst vq2
                      have hix := HIf.out
                      go_wp2_with fail
                      exact hK _ _ rfl (Mod.refl _ _)
                    refine opsOkA_cons ?_ ?_
                    · intro K vs W hR hD hK
                      have dq3 : vs 3 = .pointer (some ⟨fb, fo, none⟩) := hD 3 (by decide)
                      clear hD
                      try dsimp only at hK ⊢
                      simp only [Act.put, List.setIfInBounds_toArray, List.set_cons_succ, List.set_cons_zero] at hK
                      generalize vs 3 = vq3 at hK dq3 ⊢
                      subst vq3
                      have c0 := (HSd.out.at (hR)).2.2.2.2.2.1
                      go_wp2
                      exact hK _ _ rfl (Mod.refl _ _)
                    refine opsOkA_cons ?_ ?_
                    · intro K vs W hR hD hK
                      have dq0 : vs 0 = .slice ac n2 cc := hD 0 (by decide)
                      have dq4 : vs 4 = .int .i64 (xq : Int) := hD 4 (by decide)
                      clear hD
                      try dsimp only at hK ⊢
                      simp only [Act.put, List.setIfInBounds_toArray, List.set_cons_succ, List.set_cons_zero] at hK
                      generalize vs 0 = vq0 at hK dq0 ⊢
                      subst vq0
                      generalize vs 4 = vq4 at hK dq4 ⊢
                      subst vq4
                      have hix := HIc.out
                      go_wp2_with fail
                      exact hK _ _ rfl (Mod.refl _ _)
                    refine opsOkA_cons ?_ ?_
                    · intro K vs W hR hD hK
                      have dq5 : vs 5 = .pointer (some ⟨cb, co, none⟩) := hD 5 (by decide)
                      clear hD
                      try dsimp only at hK ⊢
                      simp only [Act.put, List.setIfInBounds_toArray, List.set_cons_succ, List.set_cons_zero] at hK
                      generalize vs 5 = vq5 at hK dq5 ⊢
                      subst vq5
                      have c0 := (HSd.out.at (hR)).2.2.2.2.1
                      go_wp2
                      exact hK _ _ rfl (Mod.refl _ _)
                    refine opsOkA_cons ?_ ?_
                    · intro K vs W hR hD hK
                      have dq6 : vs 6 = .bool false := hD 6 (by decide)
                      clear hD
                      try dsimp only at hK ⊢
                      simp only [Act.put, List.setIfInBounds_toArray, List.set_cons_succ, List.set_cons_zero] at hK
                      generalize vs 6 = vq6 at hK dq6 ⊢
                      subst vq6
                      go_wp2
                      exact hK _ _ rfl (Mod.refl _ _)
                    refine opsOkA_cons ?_ ?_
                    · intro K vs W hR hD hK
                      have dq7 : vs 7 = .bool true := hD 7 (by decide)
                      clear hD
                      try dsimp only at hK ⊢
                      simp only [Act.put, List.setIfInBounds_toArray, List.set_cons_succ, List.set_cons_zero] at hK
                      generalize vs 7 = vq7 at hK dq7 ⊢
                      subst vq7
                      go_wp2
                      exact hK _ _ rfl (Mod.refl _ _)
                    refine opsOkA_cons ?_ ?_
                    · intro K vs W hR hD hK
                      have dq8 : vs 8 = .bool true := hD 8 (by decide)
                      clear hD
                      try dsimp only at hK ⊢
                      simp only [Act.put, List.setIfInBounds_toArray, List.set_cons_succ, List.set_cons_zero] at hK
                      generalize vs 8 = vq8 at hK dq8 ⊢
                      subst vq8
                      go_wp2
                      exact hK _ _ rfl (Mod.refl _ _)
                    refine opsOkA_cons ?_ ?_
                    · intro K vs W hR hD hK
                      have dq8 : vs 8 = .bool true := hD 8 (by decide)
                      clear hD
                      try dsimp only at hK ⊢
                      simp only [Act.put, List.setIfInBounds_toArray, List.set_cons_succ, List.set_cons_zero] at hK
                      generalize vs 8 = vq8 at hK dq8 ⊢
                      subst vq8
                      go_wp2
                      exact hK _ _ rfl (Mod.refl _ _)
                    refine opsOkA_cons ?_ ?_
                    · intro K vs W hR hD hK
                      have dq8 : vs 8 = .bool true := hD 8 (by decide)
                      clear hD
                      try dsimp only at hK ⊢
                      simp only [Act.put, List.setIfInBounds_toArray, List.set_cons_succ, List.set_cons_zero] at hK
                      generalize vs 8 = vq8 at hK dq8 ⊢
                      subst vq8
                      go_wp2
                      exact hK _ _ rfl (Mod.refl _ _)
                    refine opsOkA_cons ?_ ?_
                    · intro K vs W hR hD hK
                      have dq8 : vs 8 = .bool true := hD 8 (by decide)
                      have dq10 : vs 10 = .slice an ln cn := hD 10 (by decide)
                      have dq11 : vs 11 = .int .i64 (q : Int) := hD 11 (by decide)
                      clear hD
                      try dsimp only at hK ⊢
                      simp only [Act.put, List.setIfInBounds_toArray, List.set_cons_succ, List.set_cons_zero] at hK
                      generalize vs 8 = vq8 at hK dq8 ⊢
                      subst vq8
                      generalize vs 10 = vq10 at hK dq10 ⊢
                      subst vq10
                      generalize vs 11 = vq11 at hK dq11 ⊢
                      subst vq11
                      have hix := HIf.out
                      go_wp2_with fail
                      exact hK _ _ rfl (Mod.refl _ _)
                    refine opsOkA_cons ?_ ?_
                    · intro K vs W hR hD hK
                      have dq8 : vs 8 = .bool true := hD 8 (by decide)
                      have dq12 : vs 12 = .pointer (some ⟨fb, fo, none⟩) := hD 12 (by decide)
                      clear hD
                      try dsimp only at hK ⊢
                      simp only [Act.put, List.setIfInBounds_toArray, List.set_cons_succ, List.set_cons_zero] at hK
                      generalize vs 8 = vq8 at hK dq8 ⊢
                      subst vq8
                      generalize vs 12 = vq12 at hK dq12 ⊢
                      subst vq12
                      have c0 := (HSd.out.at (hR)).2.2.2.2.2.1
                      go_wp2
                      exact hK _ _ rfl (Mod.refl _ _)
                    refine opsOkA_cons ?_ ?_
                    · intro K vs W hR hD hK
                      have dq8 : vs 8 = .bool true := hD 8 (by decide)
                      have dq9 : vs 9 = .slice ax n2 cx := hD 9 (by decide)
                      have dq13 : vs 13 = .int .i64 (xq : Int) := hD 13 (by decide)
                      clear hD
                      try dsimp only at hK ⊢
                      simp only [Act.put, List.setIfInBounds_toArray, List.set_cons_succ, List.set_cons_zero] at hK
                      generalize vs 8 = vq8 at hK dq8 ⊢
                      subst vq8
                      generalize vs 9 = vq9 at hK dq9 ⊢
                      subst vq9
                      generalize vs 13 = vq13 at hK dq13 ⊢
                      subst vq13
                      have hix := HIg.out
                      go_wp2_with fail
                      exact hK _ _ rfl (Mod.refl _ _)
                    refine opsOkA_cons ?_ ?_
                    · intro K vs W hR hD hK
                      have dq8 : vs 8 = .bool true := hD 8 (by decide)
                      have dq14 : vs 14 = .pointer (some ⟨gb, go, none⟩) := hD 14 (by decide)
                      clear hD
                      try dsimp only at hK ⊢
                      simp only [Act.put, List.setIfInBounds_toArray, List.set_cons_succ, List.set_cons_zero] at hK
                      generalize vs 8 = vq8 at hK dq8 ⊢
                      subst vq8
                      generalize vs 14 = vq14 at hK dq14 ⊢
                      subst vq14
                      have c0 := (HSd.out.at (hR)).2.2.2.1
                      go_wp2
                      exact hK _ _ rfl (Mod.refl _ _)
                    refine opsOkA_cons ?_ ?_
                    · intro K vs W hR hD hK
                      have dq8 : vs 8 = .bool true := hD 8 (by decide)
                      have dq15 : vs 15 = .int .i64 dx := hD 15 (by decide)
                      clear hD
                      try dsimp only at hK ⊢
                      simp only [Act.put, List.setIfInBounds_toArray, List.set_cons_succ, List.set_cons_zero] at hK
                      generalize vs 8 = vq8 at hK dq8 ⊢
                      subst vq8
                      generalize vs 15 = vq15 at hK dq15 ⊢
                      subst vq15
                      have zz := Z16.out
                      go_wp2
                      exact hK _ _ rfl (Mod.refl _ _)
                    refine opsOkA_cons ?_ ?_
                    · intro K vs W hR hD hK
                      have dq8 : vs 8 = .bool true := hD 8 (by decide)
                      have dq16 : vs 16 = .bool true := hD 16 (by decide)
                      clear hD
                      try dsimp only at hK ⊢
                      simp only [Act.put, List.setIfInBounds_toArray, List.set_cons_succ, List.set_cons_zero] at hK
                      generalize vs 8 = vq8 at hK dq8 ⊢
                      subst vq8
                      generalize vs 16 = vq16 at hK dq16 ⊢
                      subst vq16
                      go_wp2
                      exact hK _ _ rfl (Mod.refl _ _)
                    refine opsOkA_cons ?_ ?_
                    · intro K vs W hR hD hK
                      have dq17 : vs 17 = .bool true := hD 17 (by decide)
                      clear hD
                      try dsimp only at hK ⊢
                      simp only [Act.put, List.setIfInBounds_toArray, List.set_cons_succ, List.set_cons_zero] at hK
                      generalize vs 17 = vq17 at hK dq17 ⊢
                      subst vq17
                      go_wp2
                      exact hK _ _ rfl (Mod.refl _ _)
                    refine opsOkA_cons ?_ ?_
                    · intro K vs W hR hD hK
                      have dq18 : vs 18 = .bool true := hD 18 (by decide)
                      clear hD
                      try dsimp only at hK ⊢
                      simp only [Act.put, List.setIfInBounds_toArray, List.set_cons_succ, List.set_cons_zero] at hK
                      generalize vs 18 = vq18 at hK dq18 ⊢
                      subst vq18
                      go_wp2
                      exact hK _ _ rfl (Mod.refl _ _)
                    refine opsOkA_cons ?_ ?_
                    · intro K vs W hR hD hK
                      have dq18 : vs 18 = .bool true := hD 18 (by decide)
                      have dq19 : vs 19 = .int .i64 b1 := hD 19 (by decide)
                      clear hD
                      try dsimp only at hK ⊢
                      simp only [Act.put, List.setIfInBounds_toArray, List.set_cons_succ, List.set_cons_zero] at hK
                      generalize vs 18 = vq18 at hK dq18 ⊢
                      subst vq18
                      generalize vs 19 = vq19 at hK dq19 ⊢
                      subst vq19
                      have zz := Z20.out
                      go_wp2
                      exact hK _ _ rfl (Mod.refl _ _)
                    refine opsOkA_cons ?_ ?_
                    · intro K vs W hR hD hK
                      have dq18 : vs 18 = .bool true := hD 18 (by decide)
                      have dq20 : vs 20 = .bool true := hD 20 (by decide)
                      clear hD
                      try dsimp only at hK ⊢
                      simp only [Act.put, List.setIfInBounds_toArray, List.set_cons_succ, List.set_cons_zero] at hK
                      generalize vs 18 = vq18 at hK dq18 ⊢
                      subst vq18
                      generalize vs 20 = vq20 at hK dq20 ⊢
                      subst vq20
                      go_wp2
                      exact hK _ _ rfl (Mod.refl _ _)
                    refine opsOkA_cons ?_ ?_
                    · intro K vs W hR hD hK
                      have dq21 : vs 21 = .bool true := hD 21 (by decide)
                      clear hD
                      try dsimp only at hK ⊢
                      simp only [Act.put, List.setIfInBounds_toArray, List.set_cons_succ, List.set_cons_zero] at hK
                      generalize vs 21 = vq21 at hK dq21 ⊢
                      subst vq21
                      go_wp2
                      exact hK _ _ rfl (Mod.refl _ _)
                    refine opsOkA_cons ?_ ?_
                    · intro K vs W hR hD hK
                      have dq21 : vs 21 = .bool true := hD 21 (by decide)
                      clear hD
                      try dsimp only at hK ⊢
                      simp only [Act.put, List.setIfInBounds_toArray, List.set_cons_succ, List.set_cons_zero] at hK
                      generalize vs 21 = vq21 at hK dq21 ⊢
                      subst vq21
                      go_wp2
                      exact hK _ _ rfl (Mod.refl _ _)
                    refine opsOkA_cons ?_ ?_
                    · intro K vs W hR hD hK
                      have dq21 : vs 21 = .bool true := hD 21 (by decide)
                      clear hD
                      try dsimp only at hK ⊢
                      simp only [Act.put, List.setIfInBounds_toArray, List.set_cons_succ, List.set_cons_zero] at hK
                      generalize vs 21 = vq21 at hK dq21 ⊢
                      subst vq21
                      go_wp2
                      exact hK _ _ rfl (Mod.refl _ _)
                    refine opsOkA_cons ?_ ?_
                    · intro K vs W hR hD hK
                      have dq21 : vs 21 = .bool true := hD 21 (by decide)
                      clear hD
                      try dsimp only at hK ⊢
                      simp only [Act.put, List.setIfInBounds_toArray, List.set_cons_succ, List.set_cons_zero] at hK
                      generalize vs 21 = vq21 at hK dq21 ⊢
                      subst vq21
                      go_wp2_with fail
                      exact hK _ _ rfl (Mod.refl _ _)
                    refine opsOkA_cons ?_ ?_
                    · intro K vs W hR hD hK
                      have dq21 : vs 21 = .bool true := hD 21 (by decide)
                      clear hD
                      try dsimp only at hK ⊢
                      simp only [Act.put, List.setIfInBounds_toArray, List.set_cons_succ, List.set_cons_zero] at hK
                      generalize vs 21 = vq21 at hK dq21 ⊢
                      subst vq21
                      go_wp2
                      exact hK _ _ rfl (Mod.refl _ _)
                    refine opsOkA_cons ?_ ?_
                    · intro K vs W hR hD hK
                      have dq21 : vs 21 = .bool true := hD 21 (by decide)
                      clear hD
                      try dsimp only at hK ⊢
                      simp only [Act.put, List.setIfInBounds_toArray, List.set_cons_succ, List.set_cons_zero] at hK
                      generalize vs 21 = vq21 at hK dq21 ⊢
                      subst vq21
                      go_wp2_with fail
                      exact hK _ _ rfl (Mod.refl _ _)
                    refine opsOkA_cons ?_ ?_
                    · intro K vs W hR hD hK
                      have dq21 : vs 21 = .bool true := hD 21 (by decide)
                      clear hD
                      try dsimp only at hK ⊢
                      simp only [Act.put, List.setIfInBounds_toArray, List.set_cons_succ, List.set_cons_zero] at hK
                      generalize vs 21 = vq21 at hK dq21 ⊢
                      subst vq21
                      go_wp2
                      exact hK _ _ rfl (Mod.refl _ _)
                    refine opsOkA_cons ?_ ?_
                    · intro K vs W hR hD hK
                      have dq21 : vs 21 = .bool true := hD 21 (by decide)
                      clear hD
                      try dsimp only at hK ⊢
                      simp only [Act.put, List.setIfInBounds_toArray, List.set_cons_succ, List.set_cons_zero] at hK
                      generalize vs 21 = vq21 at hK dq21 ⊢
                      subst vq21
                      go_wp2
                      exact hK _ _ rfl (Mod.refl _ _)
                    refine opsOkA_cons ?_ ?_
                    · intro K vs W hR hD hK
                      have dq21 : vs 21 = .bool true := hD 21 (by decide)
                      clear hD
                      try dsimp only at hK ⊢
                      simp only [Act.put, List.setIfInBounds_toArray, List.set_cons_succ, List.set_cons_zero] at hK
                      generalize vs 21 = vq21 at hK dq21 ⊢
                      subst vq21
                      go_wp2
                      exact hK _ _ rfl (Mod.refl _ _)
                    refine opsOkA_cons ?_ ?_
                    · intro K vs W hR hD hK
                      have dq21 : vs 21 = .bool true := hD 21 (by decide)
                      clear hD
                      try dsimp only at hK ⊢
                      simp only [Act.put, List.setIfInBounds_toArray, List.set_cons_succ, List.set_cons_zero] at hK
                      generalize vs 21 = vq21 at hK dq21 ⊢
                      subst vq21
                      go_wp2
                      exact hK _ _ rfl (Mod.refl _ _)
                    refine opsOkA_cons ?_ ?_
                    · intro K vs W hR hD hK
                      have dq21 : vs 21 = .bool true := hD 21 (by decide)
                      clear hD
                      try dsimp only at hK ⊢
                      simp only [Act.put, List.setIfInBounds_toArray, List.set_cons_succ, List.set_cons_zero] at hK
                      generalize vs 21 = vq21 at hK dq21 ⊢
                      subst vq21
                      go_wp2
                      exact hK _ _ rfl (Mod.refl _ _)
                    refine opsOkA_cons ?_ ?_
                    · intro K vs W hR hD hK
                      have dq21 : vs 21 = .bool true := hD 21 (by decide)
                      clear hD
                      try dsimp only at hK ⊢
                      simp only [Act.put, List.setIfInBounds_toArray, List.set_cons_succ, List.set_cons_zero] at hK
                      generalize vs 21 = vq21 at hK dq21 ⊢
                      subst vq21
                      go_wp2_with fail
                      exact hK _ _ rfl (Mod.refl _ _)
                    refine opsOkA_cons ?_ ?_
                    · intro K vs W hR hD hK
                      have dq21 : vs 21 = .bool true := hD 21 (by decide)
                      clear hD
                      try dsimp only at hK ⊢
                      simp only [Act.put, List.setIfInBounds_toArray, List.set_cons_succ, List.set_cons_zero] at hK
                      generalize vs 21 = vq21 at hK dq21 ⊢
                      subst vq21
                      go_wp2
                      exact hK _ _ rfl (Mod.refl _ _)
                    refine opsOkA_cons ?_ ?_
                    · intro K vs W hR hD hK
                      have dq21 : vs 21 = .bool true := hD 21 (by decide)
                      clear hD
                      try dsimp only at hK ⊢
                      simp only [Act.put, List.setIfInBounds_toArray, List.set_cons_succ, List.set_cons_zero] at hK
                      generalize vs 21 = vq21 at hK dq21 ⊢
                      subst vq21
                      go_wp2_with fail
                      exact hK _ _ rfl (Mod.refl _ _)
                    refine opsOkA_cons ?_ ?_
                    · intro K vs W hR hD hK
                      have dq21 : vs 21 = .bool true := hD 21 (by decide)
                      clear hD
                      try dsimp only at hK ⊢
                      simp only [Act.put, List.setIfInBounds_toArray, List.set_cons_succ, List.set_cons_zero] at hK
                      generalize vs 21 = vq21 at hK dq21 ⊢
                      subst vq21
                      go_wp2
                      exact hK _ _ rfl (Mod.refl _ _)
                    refine opsOkA_cons ?_ ?_
                    · intro K vs W hR hD hK
                      have dq21 : vs 21 = .bool true := hD 21 (by decide)
                      clear hD
                      try dsimp only at hK ⊢
                      simp only [Act.put, List.setIfInBounds_toArray, List.set_cons_succ, List.set_cons_zero] at hK
                      generalize vs 21 = vq21 at hK dq21 ⊢
                      subst vq21
                      go_wp2
                      exact hK _ _ rfl (Mod.refl _ _)
                    refine opsOkA_cons ?_ ?_
                    · intro K vs W hR hD hK
                      have dq21 : vs 21 = .bool true := hD 21 (by decide)
                      clear hD
                      try dsimp only at hK ⊢
                      simp only [Act.put, List.setIfInBounds_toArray, List.set_cons_succ, List.set_cons_zero] at hK
                      generalize vs 21 = vq21 at hK dq21 ⊢
                      subst vq21
                      go_wp2
                      exact hK _ _ rfl (Mod.refl _ _)
                    refine opsOkA_cons ?_ ?_
                    · intro K vs W hR hD hK
                      have dq21 : vs 21 = .bool true := hD 21 (by decide)
                      clear hD
                      try dsimp only at hK ⊢
                      simp only [Act.put, List.setIfInBounds_toArray, List.set_cons_succ, List.set_cons_zero] at hK
                      generalize vs 21 = vq21 at hK dq21 ⊢
                      subst vq21
                      go_wp2
                      exact hK _ _ rfl (Mod.refl _ _)
                    refine opsOkA_cons ?_ ?_
                    · intro K vs W hR hD hK
                      have dq21 : vs 21 = .bool true := hD 21 (by decide)
                      clear hD
                      try dsimp only at hK ⊢
                      simp only [Act.put, List.setIfInBounds_toArray, List.set_cons_succ, List.set_cons_zero] at hK
                      generalize vs 21 = vq21 at hK dq21 ⊢
                      subst vq21
                      go_wp2
                      exact hK _ _ rfl (Mod.refl _ _)
                    refine opsOkA_cons ?_ ?_
                    · intro K vs W hR hD hK
                      have dq18 : vs 18 = .bool true := hD 18 (by decide)
                      have dq21 : vs 21 = .bool true := hD 21 (by decide)
                      have dq40 : vs 40 = undef := hD 40 (by decide)
                      clear hD
                      try dsimp only at hK ⊢
                      simp only [Act.put, List.setIfInBounds_toArray, List.set_cons_succ, List.set_cons_zero] at hK
                      generalize vs 18 = vq18 at hK dq18 ⊢
                      subst vq18
                      generalize vs 21 = vq21 at hK dq21 ⊢
                      subst vq21
                      generalize vs 40 = vq40 at hK dq40 ⊢
                      subst vq40
                      go_wp2
                      exact hK _ _ rfl (Mod.refl _ _)
                    refine opsOkA_cons ?_ ?_
                    · intro K vs W hR hD hK
                      have dq18 : vs 18 = .bool true := hD 18 (by decide)
                      have dq41 : vs 41 = .bool true := hD 41 (by decide)
                      clear hD
                      try dsimp only at hK ⊢
                      simp only [Act.put, List.setIfInBounds_toArray, List.set_cons_succ, List.set_cons_zero] at hK
                      generalize vs 18 = vq18 at hK dq18 ⊢
                      subst vq18
                      generalize vs 41 = vq41 at hK dq41 ⊢
                      subst vq41
                      go_wp2
                      exact hK _ _ rfl (Mod.refl _ _)
                    exact opsOkA_nil
                  · intro vs wq11 hR hF
                    have dq42 : vs 42 = .bool true := hF 42 (by decide)
                    clear hF
                    try dsimp only
                    generalize vs 42 = vq42 at dq42 ⊢
                    subst dq42
                    replace HS := Lib.hid (HSd.out.step hR)
                    clear HSd hR
                    have hbbg := (HS.out.now).2.2.2.2.2.2.2.2.2.2.2.2.2.2.1
                    have qbg_0 := hbbg.cell 0 rfl
                    have qbg_1 := hbbg.cell 1 rfl
                    have qbg_2 := hbbg.cell 2 rfl
                    have lbg := hbbg.lt
                    clear hbbg
                    go_upto_region 22 with fail
                    clear qbg_0 qbg_1 qbg_2 lbg
                    have HSd := Lib.hid HS.out.drew
                    refine wp_region_inv3 (act := ?actde_r22_3) (Mod (fun _ => False)) (fun i => (de_r22_3_F q xq dx uc a2 n2 d2 bg ax cx an cn ln fb fo gb go hb ho).getD i (fun _ _ => True)) (fun i => de_r22_3_D.getD i []) (by kernel_rfl) (by kernel_rfl) (by kernel_rfl) (by kernel_rfl) (fun _ => Mod.refl _ _)
                      (fun _ _ _ h k => h.trans k (fun _ _ e => e) (fun _ _ e => e)) ?hactde_r22_3 (stable_list ?_) ?_ ?_
                    case hactde_r22_3 => intro vs; simp only [putAll, Nat.zero_add, Nat.reduceAdd, Act.put, List.setIfInBounds_toArray, List.set_cons_succ, List.set_cons_zero]; exact rfl
                    · unfold de_r22_3_F
                      exact stable_cons (stable_val _) <| stable_cons (stable_val _) <| stable_cons (stable_val _) <| stable_cons (stable_val _) <| stable_cons (stable_val _) <| stable_cons (stable_val _) <| stable_cons (stable_val _) <| stable_cons (stable_val _) <| stable_cons (stable_val _) <| stable_cons (stable_val _) <| stable_cons (stable_val _) <| stable_cons (stable_val _) <| stable_cons (stable_val _) <| stable_cons (stable_val _) <| stable_cons (stable_val _) <| stable_cons (stable_val _) <| stable_cons (stable_val _) <| stable_cons (stable_val _) <| stable_nil
                    · refine opsOkA_cons ?_ ?_
                      · intro K vs W hR hD hK
                        clear hD
                        try dsimp only at hK ⊢
                        simp only [Act.put, List.setIfInBounds_toArray, List.set_cons_succ, List.set_cons_zero] at hK
                        go_wp2
                        exact hK _ _ rfl (Mod.refl _ _)
                      refine opsOkA_cons ?_ ?_
                      · intro K vs W hR hD hK
                        clear hD
                        try dsimp only at hK ⊢
                        simp only [Act.put, List.setIfInBounds_toArray, List.set_cons_succ, List.set_cons_zero] at hK
                        go_wp2
                        exact hK _ _ rfl (Mod.refl _ _)
                      refine opsOkA_cons ?_ ?_
                      · intro K vs W hR hD hK
                        clear hD
                        try dsimp only at hK ⊢
                        simp only [Act.put, List.setIfInBounds_toArray, List.set_cons_succ, List.set_cons_zero] at hK
                        go_wp2
                        exact hK _ _ rfl (Mod.refl _ _)
                      refine opsOkA_cons ?_ ?_
                      · intro K vs W hR hD hK
                        have dq1 : vs 1 = .slice an ln cn := hD 1 (by decide)
                        have dq2 : vs 2 = .int .i64 (q : Int) := hD 2 (by decide)
                        clear hD
                        try dsimp only at hK ⊢
                        simp only [Act.put, List.setIfInBounds_toArray, List.set_cons_succ, List.set_cons_zero] at hK
                        generalize vs 1 = vq1 at hK dq1 ⊢
                        subst vq1
                        generalize vs 2 = vq2 at hK dq2 ⊢
                        subst vq2
                        have hix := HIf.out
                        go_wp2_with fail
                        exact hK _ _ rfl (Mod.refl _ _)
                      refine opsOkA_cons ?_ ?_
                      · intro K vs W hR hD hK
                        have dq3 : vs 3 = .pointer (some ⟨fb, fo, none⟩) := hD 3 (by decide)
                        clear hD
                        try dsimp only at hK ⊢
                        simp only [Act.put, List.setIfInBounds_toArray, List.set_cons_succ, List.set_cons_zero] at hK
                        generalize vs 3 = vq3 at hK dq3 ⊢
                        subst vq3
                        have c0 := (HSd.out.at (hR)).2.2.2.2.2.1
                        go_wp2
                        exact hK _ _ rfl (Mod.refl _ _)
                      refine opsOkA_cons ?_ ?_
                      · intro K vs W hR hD hK
                        have dq0 : vs 0 = .slice ax n2 cx := hD 0 (by decide)
                        have dq4 : vs 4 = .int .i64 (xq : Int) := hD 4 (by decide)
                        clear hD
                        try dsimp only at hK ⊢
                        simp only [Act.put, List.setIfInBounds_toArray, List.set_cons_succ, List.set_cons_zero] at hK
                        generalize vs 0 = vq0 at hK dq0 ⊢
                        subst vq0
                        generalize vs 4 = vq4 at hK dq4 ⊢
                        subst vq4
                        have hix := HIg.out
                        go_wp2_with fail
                        exact hK _ _ rfl (Mod.refl _ _)
                      refine opsOkA_cons ?_ ?_
                      · intro K vs W hR hD hK
                        have dq5 : vs 5 = .pointer (some ⟨gb, go, none⟩) := hD 5 (by decide)
                        clear hD
                        try dsimp only at hK ⊢
                        simp only [Act.put, List.setIfInBounds_toArray, List.set_cons_succ, List.set_cons_zero] at hK
                        generalize vs 5 = vq5 at hK dq5 ⊢
                        subst vq5
                        have c0 := (HSd.out.at (hR)).2.2.2.1
                        go_wp2
                        exact hK _ _ rfl (Mod.refl _ _)
                      refine opsOkA_cons ?_ ?_
                      · intro K vs W hR hD hK
                        clear hD
                        try dsimp only at hK ⊢
                        simp only [Act.put, List.setIfInBounds_toArray, List.set_cons_succ, List.set_cons_zero] at hK
                        go_wp2
                        exact hK _ _ rfl (Mod.refl _ _)
                      refine opsOkA_cons ?_ ?_
                      · intro K vs W hR hD hK
                        have dq7 : vs 7 = .pointer (some ⟨bg, 1, none⟩) := hD 7 (by decide)
                        clear hD
                        try dsimp only at hK ⊢
                        simp only [Act.put, List.setIfInBounds_toArray, List.set_cons_succ, List.set_cons_zero] at hK
                        generalize vs 7 = vq7 at hK dq7 ⊢
                        subst vq7
                        have q0 := ((HSd.out.at (hR)).2.2.2.2.2.2.2.2.2.2.2.2.2.2.1).cell 1 rfl
                        go_wp2
                        exact hK _ _ rfl (Mod.refl _ _)
                      refine opsOkA_cons ?_ ?_
                      · intro K vs W hR hD hK
                        clear hD
                        try dsimp only at hK ⊢
                        simp only [Act.put, List.setIfInBounds_toArray, List.set_cons_succ, List.set_cons_zero] at hK
                        go_wp2
                        exact hK _ _ rfl (Mod.refl _ _)
                      refine opsOkA_cons ?_ ?_
                      · intro K vs W hR hD hK
                        clear hD
                        try dsimp only at hK ⊢
                        simp only [Act.put, List.setIfInBounds_toArray, List.set_cons_succ, List.set_cons_zero] at hK
                        go_wp2
                        exact hK _ _ rfl (Mod.refl _ _)
                      refine opsOkA_cons ?_ ?_
                      · intro K vs W hR hD hK
                        have dq9 : vs 9 = .slice an ln cn := hD 9 (by decide)
                        have dq10 : vs 10 = .int .i64 (q : Int) := hD 10 (by decide)
                        clear hD
                        try dsimp only at hK ⊢
                        simp only [Act.put, List.setIfInBounds_toArray, List.set_cons_succ, List.set_cons_zero] at hK
                        generalize vs 9 = vq9 at hK dq9 ⊢
                        subst vq9
                        generalize vs 10 = vq10 at hK dq10 ⊢
                        subst vq10
                        have hix := HIf.out
                        go_wp2_with fail
                        exact hK _ _ rfl (Mod.refl _ _)
                      refine opsOkA_cons ?_ ?_
                      · intro K vs W hR hD hK
                        have dq11 : vs 11 = .pointer (some ⟨fb, fo, none⟩) := hD 11 (by decide)
                        clear hD
                        try dsimp only at hK ⊢
                        simp only [Act.put, List.setIfInBounds_toArray, List.set_cons_succ, List.set_cons_zero] at hK
                        generalize vs 11 = vq11 at hK dq11 ⊢
                        subst vq11
                        have c0 := (HSd.out.at (hR)).2.2.2.2.2.1
                        go_wp2
                        exact hK _ _ rfl (Mod.refl _ _)
                      refine opsOkA_cons ?_ ?_
                      · intro K vs W hR hD hK
                        have dq8 : vs 8 = .slice a2 n2 d2 := hD 8 (by decide)
                        have dq12 : vs 12 = .int .i64 (xq : Int) := hD 12 (by decide)
                        clear hD
                        try dsimp only at hK ⊢
                        simp only [Act.put, List.setIfInBounds_toArray, List.set_cons_succ, List.set_cons_zero] at hK
                        generalize vs 8 = vq8 at hK dq8 ⊢
                        subst vq8
                        generalize vs 12 = vq12 at hK dq12 ⊢
                        subst vq12
                        have hix := HIh.out
                        go_wp2_with fail
                        exact hK _ _ rfl (Mod.refl _ _)
                      refine opsOkA_cons ?_ ?_
                      · intro K vs W hR hD hK
                        have dq13 : vs 13 = .pointer (some ⟨hb, ho, none⟩) := hD 13 (by decide)
                        clear hD
                        try dsimp only at hK ⊢
                        simp only [Act.put, List.setIfInBounds_toArray, List.set_cons_succ, List.set_cons_zero] at hK
                        generalize vs 13 = vq13 at hK dq13 ⊢
                        subst vq13
                        go_wp2
                        exact hK _ _ rfl (Mod.refl _ _)
                      refine opsOkA_cons ?_ ?_
                      · intro K vs W hR hD hK
                        have dq14 : vs 14 = .pointer (some ⟨hb, ho + 2, none⟩) := hD 14 (by decide)
                        clear hD
                        try dsimp only at hK ⊢
                        simp only [Act.put, List.setIfInBounds_toArray, List.set_cons_succ, List.set_cons_zero] at hK
                        generalize vs 14 = vq14 at hK dq14 ⊢
                        subst vq14
                        have c2 := (HSd.out.at (hR)).1
                        go_wp2
                        exact hK _ _ rfl (Mod.refl _ _)
                      refine opsOkA_cons ?_ ?_
                      · intro K vs W hR hD hK
                        have dq6 : vs 6 = .int .i64 dx := hD 6 (by decide)
                        have dq15 : vs 15 = .int .i64 uc := hD 15 (by decide)
                        clear hD
                        try dsimp only at hK ⊢
                        simp only [Act.put, List.setIfInBounds_toArray, List.set_cons_succ, List.set_cons_zero] at hK
                        generalize vs 6 = vq6 at hK dq6 ⊢
                        subst vq6
                        generalize vs 15 = vq15 at hK dq15 ⊢
                        subst vq15
                        go_wp2
                        exact hK _ _ rfl (Mod.refl _ _)
                      refine opsOkA_cons ?_ ?_
                      · intro K vs W hR hD hK
                        have dq16 : vs 16 = .int .i64 (dx + uc) := hD 16 (by decide)
                        clear hD
                        try dsimp only at hK ⊢
                        simp only [Act.put, List.setIfInBounds_toArray, List.set_cons_succ, List.set_cons_zero] at hK
                        generalize vs 16 = vq16 at hK dq16 ⊢
                        subst vq16
                        go_wp2
                        exact hK _ _ rfl (Mod.refl _ _)
                      exact opsOkA_nil
                    · intro vs wq12 hR hF
                      have dq17 : vs 17 = .int .i64 (dx + uc) := hF 17 (by decide)
                      clear hF
                      try dsimp only
                      generalize vs 17 = vq17 at dq17 ⊢
                      subst dq17
                      replace HS := Lib.hid (HSd.out.step hR)
                      clear HSd hR
                      have hbbg := (HS.out.now).2.2.2.2.2.2.2.2.2.2.2.2.2.2.1
                      have qbg_0 := hbbg.cell 0 rfl
                      have qbg_1 := hbbg.cell 1 rfl
                      have qbg_2 := hbbg.cell 2 rfl
                      have lbg := hbbg.lt
                      clear hbbg
                      go_wp2_with fail
                      go_roundw
                      case rel => exact ⟨q + 1, dx + uc, hlq, by go_num, rfl, by rw [HTK.out, if_pos ⟨⟨rfl, by omega⟩, by omega⟩], (HS.out.now).2.2.2.2.2.2.1⟩
                      case measure => simp [intOf]; omega
                case neg =>
                  by_cases c4 : dx + uc < b1
                  case pos =>
                    have Z16 := Lib.hid (show decide (0 ≤ dx) = true from by simp; omega)
                    have Z20 := Lib.hid (show decide (b1 < 0) = false from by simp; omega)
                    have Z40 := Lib.hid (show decide (dx + uc < b1) = true from by simp; omega)
                    clear qbg_0 qbg_1 qbg_2 lbg
                    have HSd := Lib.hid HS.out.drew
                    refine wp_region_inv3 (act := ?actde_r21_4) (Mod (fun _ => False)) (fun i => (de_r21_4_F q xq b1 dx uc a2 n2 d2 bg ac cc ax cx an cn ln fb fo cb co gb go hb ho).getD i (fun _ _ => True)) (fun i => de_r21_4_D.getD i []) (by kernel_rfl) (by kernel_rfl) (by kernel_rfl) (by kernel_rfl) (fun _ => Mod.refl _ _)
                      (fun _ _ _ h k => h.trans k (fun _ _ e => e) (fun _ _ e => e)) ?hactde_r21_4 (stable_list ?_) ?_ ?_
                    case hactde_r21_4 => intro vs; simp only [putAll, Nat.zero_add, Nat.reduceAdd, Act.put, List.setIfInBounds_toArray, List.set_cons_succ, List.set_cons_zero]; exact rfl
                    · unfold de_r21_4_F
                      exact stable_cons (stable_val _) <| stable_cons (stable_val _) <| stable_cons (stable_val _) <| stable_cons (stable_val _) <| stable_cons (stable_val _) <| stable_cons (stable_val _) <| stable_cons (stable_val _) <| stable_cons (stable_val _) <| stable_cons (stable_val _) <| stable_cons (stable_val _) <| stable_cons (stable_val _) <| stable_cons (stable_val _) <| stable_cons (stable_val _) <| stable_cons (stable_val _) <| stable_cons (stable_val _) <| stable_cons (stable_val _) <| stable_cons (stable_val _) <| stable_cons (stable_val _) <| stable_cons (stable_val _) <| stable_cons (stable_val _) <| stable_cons (stable_val _) <| stable_cons (stable_val _) <| stable_cons (stable_val _) <| stable_cons (stable_val _) <| stable_cons (stable_val _) <| stable_cons (stable_val _) <| stable_cons (stable_val _) <| stable_cons (stable_val _) <| stable_cons (stable_val _) <| stable_cons (stable_val _) <| stable_cons (stable_val _) <| stable_cons (stable_val _) <| stable_cons (stable_val _) <| stable_cons (stable_val _) <| stable_cons (stable_val _) <| stable_cons (stable_val _) <| stable_cons (stable_val _) <| stable_cons (stable_val _) <| stable_cons (stable_val _) <| stable_cons (stable_val _) <| stable_cons (stable_val _) <| stable_cons (stable_val _) <| stable_cons (stable_val _) <| stable_nil
                    · refine opsOkA_cons ?_ ?_
                      · intro K vs W hR hD hK
                        clear hD
                        try dsimp only at hK ⊢
                        simp only [Act.put, List.setIfInBounds_toArray, List.set_cons_succ, List.set_cons_zero] at hK
                        go_wp2
                        exact hK _ _ rfl (Mod.refl _ _)
                      refine opsOkA_cons ?_ ?_
                      · intro K vs W hR hD hK
                        clear hD
                        try dsimp only at hK ⊢
                        simp only [Act.put, List.setIfInBounds_toArray, List.set_cons_succ, List.set_cons_zero] at hK
                        go_wp2
                        exact hK _ _ rfl (Mod.refl _ _)
                      refine opsOkA_cons ?_ ?_
                      · intro K vs W hR hD hK
                        clear hD
                        try dsimp only at hK ⊢
                        simp only [Act.put, List.setIfInBounds_toArray, List.set_cons_succ, List.set_cons_zero] at hK
                        go_wp2
                        exact hK _ _ rfl (Mod.refl _ _)
                      refine opsOkA_cons ?_ ?_
                      · intro K vs W hR hD hK
                        have dq1 : vs 1 = .slice an ln cn := hD 1 (by decide)
                        have dq2 : vs 2 = .int .i64 (q : Int) := hD 2 (by decide)
                        clear hD
                        try dsimp only at hK ⊢
                        simp only [Act.put, List.setIfInBounds_toArray, List.set_cons_succ, List.set_cons_zero] at hK
                        generalize vs 1 = vq1 at hK dq1 ⊢
                        subst vq1
                        generalize vs 2 = vq2 at hK dq2 ⊢
                        subst vq2
                        have hix := HIf.out
                        go_wp2_with fail
                        exact hK _ _ rfl (Mod.refl _ _)
                      refine opsOkA_cons ?_ ?_
                      · intro K vs W hR hD hK
                        have dq3 : vs 3 = .pointer (some ⟨fb, fo, none⟩) := hD 3 (by decide)
                        clear hD
                        try dsimp only at hK ⊢
                        simp only [Act.put, List.setIfInBounds_toArray, List.set_cons_succ, List.set_cons_zero] at hK
                        generalize vs 3 = vq3 at hK dq3 ⊢
                        subst vq3
                        have c0 := (HSd.out.at (hR)).2.2.2.2.2.1
                        go_wp2
                        exact hK _ _ rfl (Mod.refl _ _)
                      refine opsOkA_cons ?_ ?_
                      · intro K vs W hR hD hK
                        have dq0 : vs 0 = .slice ac n2 cc := hD 0 (by decide)
                        have dq4 : vs 4 = .int .i64 (xq : Int) := hD 4 (by decide)
                        clear hD
                        try dsimp only at hK ⊢
                        simp only [Act.put, List.setIfInBounds_toArray, List.set_cons_succ, List.set_cons_zero] at hK
                        generalize vs 0 = vq0 at hK dq0 ⊢
                        subst vq0
                        generalize vs 4 = vq4 at hK dq4 ⊢
                        subst vq4
                        have hix := HIc.out
                        go_wp2_with fail
                        exact hK _ _ rfl (Mod.refl _ _)
                      refine opsOkA_cons ?_ ?_
                      · intro K vs W hR hD hK
                        have dq5 : vs 5 = .pointer (some ⟨cb, co, none⟩) := hD 5 (by decide)
                        clear hD
                        try dsimp only at hK ⊢
                        simp only [Act.put, List.setIfInBounds_toArray, List.set_cons_succ, List.set_cons_zero] at hK
                        generalize vs 5 = vq5 at hK dq5 ⊢
                        subst vq5
                        have c0 := (HSd.out.at (hR)).2.2.2.2.1
                        go_wp2
                        exact hK _ _ rfl (Mod.refl _ _)
                      refine opsOkA_cons ?_ ?_
                      · intro K vs W hR hD hK
                        have dq6 : vs 6 = .bool false := hD 6 (by decide)
                        clear hD
                        try dsimp only at hK ⊢
                        simp only [Act.put, List.setIfInBounds_toArray, List.set_cons_succ, List.set_cons_zero] at hK
                        generalize vs 6 = vq6 at hK dq6 ⊢
                        subst vq6
                        go_wp2
                        exact hK _ _ rfl (Mod.refl _ _)
                      refine opsOkA_cons ?_ ?_
                      · intro K vs W hR hD hK
                        have dq7 : vs 7 = .bool true := hD 7 (by decide)
                        clear hD
                        try dsimp only at hK ⊢
                        simp only [Act.put, List.setIfInBounds_toArray, List.set_cons_succ, List.set_cons_zero] at hK
                        generalize vs 7 = vq7 at hK dq7 ⊢
                        subst vq7
                        go_wp2
                        exact hK _ _ rfl (Mod.refl _ _)
                      refine opsOkA_cons ?_ ?_
                      · intro K vs W hR hD hK
                        have dq8 : vs 8 = .bool true := hD 8 (by decide)
                        clear hD
                        try dsimp only at hK ⊢
                        simp only [Act.put, List.setIfInBounds_toArray, List.set_cons_succ, List.set_cons_zero] at hK
                        generalize vs 8 = vq8 at hK dq8 ⊢
                        subst vq8
                        go_wp2
                        exact hK _ _ rfl (Mod.refl _ _)
                      refine opsOkA_cons ?_ ?_
                      · intro K vs W hR hD hK
                        have dq8 : vs 8 = .bool true := hD 8 (by decide)
                        clear hD
                        try dsimp only at hK ⊢
                        simp only [Act.put, List.setIfInBounds_toArray, List.set_cons_succ, List.set_cons_zero] at hK
                        generalize vs 8 = vq8 at hK dq8 ⊢
                        subst vq8
                        go_wp2
                        exact hK _ _ rfl (Mod.refl _ _)
                      refine opsOkA_cons ?_ ?_
                      · intro K vs W hR hD hK
                        have dq8 : vs 8 = .bool true := hD 8 (by decide)
                        clear hD
                        try dsimp only at hK ⊢
                        simp only [Act.put, List.setIfInBounds_toArray, List.set_cons_succ, List.set_cons_zero] at hK
                        generalize vs 8 = vq8 at hK dq8 ⊢
                        subst vq8
                        go_wp2
                        exact hK _ _ rfl (Mod.refl _ _)
                      refine opsOkA_cons ?_ ?_
                      · intro K vs W hR hD hK
                        have dq8 : vs 8 = .bool true := hD 8 (by decide)
                        have dq10 : vs 10 = .slice an ln cn := hD 10 (by decide)
                        have dq11 : vs 11 = .int .i64 (q : Int) := hD 11 (by decide)
                        clear hD
                        try dsimp only at hK ⊢
                        simp only [Act.put, List.setIfInBounds_toArray, List.set_cons_succ, List.set_cons_zero] at hK
                        generalize vs 8 = vq8 at hK dq8 ⊢
                        subst vq8
                        generalize vs 10 = vq10 at hK dq10 ⊢
                        subst vq10
                        generalize vs 11 = vq11 at hK dq11 ⊢
                        subst vq11
                        have hix := HIf.out
                        go_wp2_with fail
                        exact hK _ _ rfl (Mod.refl _ _)
                      refine opsOkA_cons ?_ ?_
                      · intro K vs W hR hD hK
                        have dq8 : vs 8 = .bool true := hD 8 (by decide)
                        have dq12 : vs 12 = .pointer (some ⟨fb, fo, none⟩) := hD 12 (by decide)
                        clear hD
                        try dsimp only at hK ⊢
                        simp only [Act.put, List.setIfInBounds_toArray, List.set_cons_succ, List.set_cons_zero] at hK
                        generalize vs 8 = vq8 at hK dq8 ⊢
                        subst vq8
                        generalize vs 12 = vq12 at hK dq12 ⊢
                        subst vq12
                        have c0 := (HSd.out.at (hR)).2.2.2.2.2.1
                        go_wp2
                        exact hK _ _ rfl (Mod.refl _ _)
                      refine opsOkA_cons ?_ ?_
                      · intro K vs W hR hD hK
                        have dq8 : vs 8 = .bool true := hD 8 (by decide)
                        have dq9 : vs 9 = .slice ax n2 cx := hD 9 (by decide)
                        have dq13 : vs 13 = .int .i64 (xq : Int) := hD 13 (by decide)
                        clear hD
                        try dsimp only at hK ⊢
                        simp only [Act.put, List.setIfInBounds_toArray, List.set_cons_succ, List.set_cons_zero] at hK
                        generalize vs 8 = vq8 at hK dq8 ⊢
                        subst vq8
                        generalize vs 9 = vq9 at hK dq9 ⊢
                        subst vq9
                        generalize vs 13 = vq13 at hK dq13 ⊢
                        subst vq13
                        have hix := HIg.out
                        go_wp2_with fail
                        exact hK _ _ rfl (Mod.refl _ _)
                      refine opsOkA_cons ?_ ?_
                      · intro K vs W hR hD hK
                        have dq8 : vs 8 = .bool true := hD 8 (by decide)
                        have dq14 : vs 14 = .pointer (some ⟨gb, go, none⟩) := hD 14 (by decide)
                        clear hD
                        try dsimp only at hK ⊢
                        simp only [Act.put, List.setIfInBounds_toArray, List.set_cons_succ, List.set_cons_zero] at hK
                        generalize vs 8 = vq8 at hK dq8 ⊢
                        subst vq8
                        generalize vs 14 = vq14 at hK dq14 ⊢
                        subst vq14
                        have c0 := (HSd.out.at (hR)).2.2.2.1
                        go_wp2
                        exact hK _ _ rfl (Mod.refl _ _)
                      refine opsOkA_cons ?_ ?_
                      · intro K vs W hR hD hK
                        have dq8 : vs 8 = .bool true := hD 8 (by decide)
                        have dq15 : vs 15 = .int .i64 dx := hD 15 (by decide)
                        clear hD
                        try dsimp only at hK ⊢
                        simp only [Act.put, List.setIfInBounds_toArray, List.set_cons_succ, List.set_cons_zero] at hK
                        generalize vs 8 = vq8 at hK dq8 ⊢
                        subst vq8
                        generalize vs 15 = vq15 at hK dq15 ⊢
                        subst vq15
                        have zz := Z16.out
                        go_wp2
                        exact hK _ _ rfl (Mod.refl _ _)
                      refine opsOkA_cons ?_ ?_
                      · intro K vs W hR hD hK
                        have dq8 : vs 8 = .bool true := hD 8 (by decide)
                        have dq16 : vs 16 = .bool true := hD 16 (by decide)
                        clear hD
                        try dsimp only at hK ⊢
                        simp only [Act.put, List.setIfInBounds_toArray, List.set_cons_succ, List.set_cons_zero] at hK
                        generalize vs 8 = vq8 at hK dq8 ⊢
                        subst vq8
                        generalize vs 16 = vq16 at hK dq16 ⊢
                        subst vq16
                        go_wp2
                        exact hK _ _ rfl (Mod.refl _ _)
                      refine opsOkA_cons ?_ ?_
                      · intro K vs W hR hD hK
                        have dq17 : vs 17 = .bool true := hD 17 (by decide)
                        clear hD
                        try dsimp only at hK ⊢
                        simp only [Act.put, List.setIfInBounds_toArray, List.set_cons_succ, List.set_cons_zero] at hK
                        generalize vs 17 = vq17 at hK dq17 ⊢
                        subst vq17
                        go_wp2
                        exact hK _ _ rfl (Mod.refl _ _)
                      refine opsOkA_cons ?_ ?_
                      · intro K vs W hR hD hK
                        have dq18 : vs 18 = .bool true := hD 18 (by decide)
                        clear hD
                        try dsimp only at hK ⊢
                        simp only [Act.put, List.setIfInBounds_toArray, List.set_cons_succ, List.set_cons_zero] at hK
                        generalize vs 18 = vq18 at hK dq18 ⊢
                        subst vq18
                        go_wp2
                        exact hK _ _ rfl (Mod.refl _ _)
                      refine opsOkA_cons ?_ ?_
                      · intro K vs W hR hD hK
                        have dq18 : vs 18 = .bool true := hD 18 (by decide)
                        have dq19 : vs 19 = .int .i64 b1 := hD 19 (by decide)
                        clear hD
                        try dsimp only at hK ⊢
                        simp only [Act.put, List.setIfInBounds_toArray, List.set_cons_succ, List.set_cons_zero] at hK
                        generalize vs 18 = vq18 at hK dq18 ⊢
                        subst vq18
                        generalize vs 19 = vq19 at hK dq19 ⊢
                        subst vq19
                        have zz := Z20.out
                        go_wp2
                        exact hK _ _ rfl (Mod.refl _ _)
                      refine opsOkA_cons ?_ ?_
                      · intro K vs W hR hD hK
                        have dq18 : vs 18 = .bool true := hD 18 (by decide)
                        have dq20 : vs 20 = .bool false := hD 20 (by decide)
                        clear hD
                        try dsimp only at hK ⊢
                        simp only [Act.put, List.setIfInBounds_toArray, List.set_cons_succ, List.set_cons_zero] at hK
                        generalize vs 18 = vq18 at hK dq18 ⊢
                        subst vq18
                        generalize vs 20 = vq20 at hK dq20 ⊢
                        subst vq20
                        go_wp2
                        exact hK _ _ rfl (Mod.refl _ _)
                      refine opsOkA_cons ?_ ?_
                      · intro K vs W hR hD hK
                        have dq21 : vs 21 = .bool false := hD 21 (by decide)
                        clear hD
                        try dsimp only at hK ⊢
                        simp only [Act.put, List.setIfInBounds_toArray, List.set_cons_succ, List.set_cons_zero] at hK
                        generalize vs 21 = vq21 at hK dq21 ⊢
                        subst vq21
                        go_wp2
                        exact hK _ _ rfl (Mod.refl _ _)
                      refine opsOkA_cons ?_ ?_
                      · intro K vs W hR hD hK
                        have dq21 : vs 21 = .bool false := hD 21 (by decide)
                        clear hD
                        try dsimp only at hK ⊢
                        simp only [Act.put, List.setIfInBounds_toArray, List.set_cons_succ, List.set_cons_zero] at hK
                        generalize vs 21 = vq21 at hK dq21 ⊢
                        subst vq21
                        go_wp2
                        exact hK _ _ rfl (Mod.refl _ _)
                      refine opsOkA_cons ?_ ?_
                      · intro K vs W hR hD hK
                        have dq21 : vs 21 = .bool false := hD 21 (by decide)
                        clear hD
                        try dsimp only at hK ⊢
                        simp only [Act.put, List.setIfInBounds_toArray, List.set_cons_succ, List.set_cons_zero] at hK
                        generalize vs 21 = vq21 at hK dq21 ⊢
                        subst vq21
                        go_wp2
                        exact hK _ _ rfl (Mod.refl _ _)
                      refine opsOkA_cons ?_ ?_
                      · intro K vs W hR hD hK
                        have dq21 : vs 21 = .bool false := hD 21 (by decide)
                        have dq23 : vs 23 = .slice an ln cn := hD 23 (by decide)
                        have dq24 : vs 24 = .int .i64 (q : Int) := hD 24 (by decide)
                        clear hD
                        try dsimp only at hK ⊢
                        simp only [Act.put, List.setIfInBounds_toArray, List.set_cons_succ, List.set_cons_zero] at hK
                        generalize vs 21 = vq21 at hK dq21 ⊢
                        subst vq21
                        generalize vs 23 = vq23 at hK dq23 ⊢
                        subst vq23
                        generalize vs 24 = vq24 at hK dq24 ⊢
                        subst vq24
                        have hix := HIf.out
                        go_wp2_with fail
                        exact hK _ _ rfl (Mod.refl _ _)
                      refine opsOkA_cons ?_ ?_
                      · intro K vs W hR hD hK
                        have dq21 : vs 21 = .bool false := hD 21 (by decide)
                        have dq25 : vs 25 = .pointer (some ⟨fb, fo, none⟩) := hD 25 (by decide)
                        clear hD
                        try dsimp only at hK ⊢
                        simp only [Act.put, List.setIfInBounds_toArray, List.set_cons_succ, List.set_cons_zero] at hK
                        generalize vs 21 = vq21 at hK dq21 ⊢
                        subst vq21
                        generalize vs 25 = vq25 at hK dq25 ⊢
                        subst vq25
                        have c0 := (HSd.out.at (hR)).2.2.2.2.2.1
                        go_wp2
                        exact hK _ _ rfl (Mod.refl _ _)
                      refine opsOkA_cons ?_ ?_
                      · intro K vs W hR hD hK
                        have dq21 : vs 21 = .bool false := hD 21 (by decide)
                        have dq22 : vs 22 = .slice ax n2 cx := hD 22 (by decide)
                        have dq26 : vs 26 = .int .i64 (xq : Int) := hD 26 (by decide)
                        clear hD
                        try dsimp only at hK ⊢
                        simp only [Act.put, List.setIfInBounds_toArray, List.set_cons_succ, List.set_cons_zero] at hK
                        generalize vs 21 = vq21 at hK dq21 ⊢
                        subst vq21
                        generalize vs 22 = vq22 at hK dq22 ⊢
                        subst vq22
                        generalize vs 26 = vq26 at hK dq26 ⊢
                        subst vq26
                        have hix := HIg.out
                        go_wp2_with fail
                        exact hK _ _ rfl (Mod.refl _ _)
                      refine opsOkA_cons ?_ ?_
                      · intro K vs W hR hD hK
                        have dq21 : vs 21 = .bool false := hD 21 (by decide)
                        have dq27 : vs 27 = .pointer (some ⟨gb, go, none⟩) := hD 27 (by decide)
                        clear hD
                        try dsimp only at hK ⊢
                        simp only [Act.put, List.setIfInBounds_toArray, List.set_cons_succ, List.set_cons_zero] at hK
                        generalize vs 21 = vq21 at hK dq21 ⊢
                        subst vq21
                        generalize vs 27 = vq27 at hK dq27 ⊢
                        subst vq27
                        have c0 := (HSd.out.at (hR)).2.2.2.1
                        go_wp2
                        exact hK _ _ rfl (Mod.refl _ _)
                      refine opsOkA_cons ?_ ?_
                      · intro K vs W hR hD hK
                        have dq21 : vs 21 = .bool false := hD 21 (by decide)
                        clear hD
                        try dsimp only at hK ⊢
                        simp only [Act.put, List.setIfInBounds_toArray, List.set_cons_succ, List.set_cons_zero] at hK
                        generalize vs 21 = vq21 at hK dq21 ⊢
                        subst vq21
                        go_wp2
                        exact hK _ _ rfl (Mod.refl _ _)
                      refine opsOkA_cons ?_ ?_
                      · intro K vs W hR hD hK
                        have dq21 : vs 21 = .bool false := hD 21 (by decide)
                        have dq29 : vs 29 = .pointer (some ⟨bg, 1, none⟩) := hD 29 (by decide)
                        clear hD
                        try dsimp only at hK ⊢
                        simp only [Act.put, List.setIfInBounds_toArray, List.set_cons_succ, List.set_cons_zero] at hK
                        generalize vs 21 = vq21 at hK dq21 ⊢
                        subst vq21
                        generalize vs 29 = vq29 at hK dq29 ⊢
                        subst vq29
                        have q0 := ((HSd.out.at (hR)).2.2.2.2.2.2.2.2.2.2.2.2.2.2.1).cell 1 rfl
                        go_wp2
                        exact hK _ _ rfl (Mod.refl _ _)
                      refine opsOkA_cons ?_ ?_
                      · intro K vs W hR hD hK
                        have dq21 : vs 21 = .bool false := hD 21 (by decide)
                        clear hD
                        try dsimp only at hK ⊢
                        simp only [Act.put, List.setIfInBounds_toArray, List.set_cons_succ, List.set_cons_zero] at hK
                        generalize vs 21 = vq21 at hK dq21 ⊢
                        subst vq21
                        go_wp2
                        exact hK _ _ rfl (Mod.refl _ _)
                      refine opsOkA_cons ?_ ?_
                      · intro K vs W hR hD hK
                        have dq21 : vs 21 = .bool false := hD 21 (by decide)
                        clear hD
                        try dsimp only at hK ⊢
                        simp only [Act.put, List.setIfInBounds_toArray, List.set_cons_succ, List.set_cons_zero] at hK
                        generalize vs 21 = vq21 at hK dq21 ⊢
                        subst vq21
                        go_wp2
                        exact hK _ _ rfl (Mod.refl _ _)
                      refine opsOkA_cons ?_ ?_
                      · intro K vs W hR hD hK
                        have dq21 : vs 21 = .bool false := hD 21 (by decide)
                        have dq31 : vs 31 = .slice an ln cn := hD 31 (by decide)
                        have dq32 : vs 32 = .int .i64 (q : Int) := hD 32 (by decide)
                        clear hD
                        try dsimp only at hK ⊢
                        simp only [Act.put, List.setIfInBounds_toArray, List.set_cons_succ, List.set_cons_zero] at hK
                        generalize vs 21 = vq21 at hK dq21 ⊢
                        subst vq21
                        generalize vs 31 = vq31 at hK dq31 ⊢
                        subst vq31
                        generalize vs 32 = vq32 at hK dq32 ⊢
                        subst vq32
                        have hix := HIf.out
                        go_wp2_with fail
                        exact hK _ _ rfl (Mod.refl _ _)
                      refine opsOkA_cons ?_ ?_
                      · intro K vs W hR hD hK
                        have dq21 : vs 21 = .bool false := hD 21 (by decide)
                        have dq33 : vs 33 = .pointer (some ⟨fb, fo, none⟩) := hD 33 (by decide)
                        clear hD
                        try dsimp only at hK ⊢
                        simp only [Act.put, List.setIfInBounds_toArray, List.set_cons_succ, List.set_cons_zero] at hK
                        generalize vs 21 = vq21 at hK dq21 ⊢
                        subst vq21
                        generalize vs 33 = vq33 at hK dq33 ⊢
                        subst vq33
                        have c0 := (HSd.out.at (hR)).2.2.2.2.2.1
                        go_wp2
                        exact hK _ _ rfl (Mod.refl _ _)
                      refine opsOkA_cons ?_ ?_
                      · intro K vs W hR hD hK
                        have dq21 : vs 21 = .bool false := hD 21 (by decide)
                        have dq30 : vs 30 = .slice a2 n2 d2 := hD 30 (by decide)
                        have dq34 : vs 34 = .int .i64 (xq : Int) := hD 34 (by decide)
                        clear hD
                        try dsimp only at hK ⊢
                        simp only [Act.put, List.setIfInBounds_toArray, List.set_cons_succ, List.set_cons_zero] at hK
                        generalize vs 21 = vq21 at hK dq21 ⊢
                        subst vq21
                        generalize vs 30 = vq30 at hK dq30 ⊢
                        subst vq30
                        generalize vs 34 = vq34 at hK dq34 ⊢
                        subst vq34
                        have hix := HIh.out
                        go_wp2_with fail
                        exact hK _ _ rfl (Mod.refl _ _)
                      refine opsOkA_cons ?_ ?_
                      · intro K vs W hR hD hK
                        have dq21 : vs 21 = .bool false := hD 21 (by decide)
                        have dq35 : vs 35 = .pointer (some ⟨hb, ho, none⟩) := hD 35 (by decide)
                        clear hD
                        try dsimp only at hK ⊢
                        simp only [Act.put, List.setIfInBounds_toArray, List.set_cons_succ, List.set_cons_zero] at hK
                        generalize vs 21 = vq21 at hK dq21 ⊢
                        subst vq21
                        generalize vs 35 = vq35 at hK dq35 ⊢
                        subst vq35
                        go_wp2
                        exact hK _ _ rfl (Mod.refl _ _)
                      refine opsOkA_cons ?_ ?_
                      · intro K vs W hR hD hK
                        have dq21 : vs 21 = .bool false := hD 21 (by decide)
                        have dq36 : vs 36 = .pointer (some ⟨hb, ho + 2, none⟩) := hD 36 (by decide)
                        clear hD
                        try dsimp only at hK ⊢
                        simp only [Act.put, List.setIfInBounds_toArray, List.set_cons_succ, List.set_cons_zero] at hK
                        generalize vs 21 = vq21 at hK dq21 ⊢
                        subst vq21
                        generalize vs 36 = vq36 at hK dq36 ⊢
                        subst vq36
                        have c2 := (HSd.out.at (hR)).1
                        go_wp2
                        exact hK _ _ rfl (Mod.refl _ _)
                      refine opsOkA_cons ?_ ?_
                      · intro K vs W hR hD hK
                        have dq21 : vs 21 = .bool false := hD 21 (by decide)
                        have dq28 : vs 28 = .int .i64 dx := hD 28 (by decide)
                        have dq37 : vs 37 = .int .i64 uc := hD 37 (by decide)
                        clear hD
                        try dsimp only at hK ⊢
                        simp only [Act.put, List.setIfInBounds_toArray, List.set_cons_succ, List.set_cons_zero] at hK
                        generalize vs 21 = vq21 at hK dq21 ⊢
                        subst vq21
                        generalize vs 28 = vq28 at hK dq28 ⊢
                        subst vq28
                        generalize vs 37 = vq37 at hK dq37 ⊢
                        subst vq37
                        go_wp2
                        exact hK _ _ rfl (Mod.refl _ _)
                      refine opsOkA_cons ?_ ?_
                      · intro K vs W hR hD hK
                        have dq21 : vs 21 = .bool false := hD 21 (by decide)
                        clear hD
                        try dsimp only at hK ⊢
                        simp only [Act.put, List.setIfInBounds_toArray, List.set_cons_succ, List.set_cons_zero] at hK
                        generalize vs 21 = vq21 at hK dq21 ⊢
                        subst vq21
                        go_wp2
                        exact hK _ _ rfl (Mod.refl _ _)
                      refine opsOkA_cons ?_ ?_
                      · intro K vs W hR hD hK
                        have dq21 : vs 21 = .bool false := hD 21 (by decide)
                        have dq38 : vs 38 = .int .i64 (dx + uc) := hD 38 (by decide)
                        have dq39 : vs 39 = .int .i64 b1 := hD 39 (by decide)
                        clear hD
                        try dsimp only at hK ⊢
                        simp only [Act.put, List.setIfInBounds_toArray, List.set_cons_succ, List.set_cons_zero] at hK
                        generalize vs 21 = vq21 at hK dq21 ⊢
                        subst vq21
                        generalize vs 38 = vq38 at hK dq38 ⊢
                        subst vq38
                        generalize vs 39 = vq39 at hK dq39 ⊢
                        subst vq39
                        have zz := Z40.out
                        go_wp2
                        exact hK _ _ rfl (Mod.refl _ _)
                      refine opsOkA_cons ?_ ?_
                      · intro K vs W hR hD hK
                        have dq18 : vs 18 = .bool true := hD 18 (by decide)
                        have dq21 : vs 21 = .bool false := hD 21 (by decide)
                        have dq40 : vs 40 = .bool true := hD 40 (by decide)
                        clear hD
                        try dsimp only at hK ⊢
                        simp only [Act.put, List.setIfInBounds_toArray, List.set_cons_succ, List.set_cons_zero] at hK
                        generalize vs 18 = vq18 at hK dq18 ⊢
                        subst vq18
                        generalize vs 21 = vq21 at hK dq21 ⊢
                        subst vq21
                        generalize vs 40 = vq40 at hK dq40 ⊢
                        subst vq40
                        go_wp2
                        exact hK _ _ rfl (Mod.refl _ _)
                      refine opsOkA_cons ?_ ?_
                      · intro K vs W hR hD hK
                        have dq18 : vs 18 = .bool true := hD 18 (by decide)
                        have dq41 : vs 41 = .bool true := hD 41 (by decide)
                        clear hD
                        try dsimp only at hK ⊢
                        simp only [Act.put, List.setIfInBounds_toArray, List.set_cons_succ, List.set_cons_zero] at hK
                        generalize vs 18 = vq18 at hK dq18 ⊢
                        subst vq18
                        generalize vs 41 = vq41 at hK dq41 ⊢
                        subst vq41
                        go_wp2
                        exact hK _ _ rfl (Mod.refl _ _)
                      exact opsOkA_nil
                    · intro vs wq13 hR hF
                      have dq42 : vs 42 = .bool true := hF 42 (by decide)
                      clear hF
                      try dsimp only
                      generalize vs 42 = vq42 at dq42 ⊢
                      subst dq42
                      replace HS := Lib.hid (HSd.out.step hR)
                      clear HSd hR
                      have hbbg := (HS.out.now).2.2.2.2.2.2.2.2.2.2.2.2.2.2.1
                      have qbg_0 := hbbg.cell 0 rfl
                      have qbg_1 := hbbg.cell 1 rfl
                      have qbg_2 := hbbg.cell 2 rfl
                      have lbg := hbbg.lt
                      clear hbbg
                      go_upto_region 22 with fail
                      clear qbg_0 qbg_1 qbg_2 lbg
                      have HSd := Lib.hid HS.out.drew
                      refine wp_region_inv3 (act := ?actde_r22_5) (Mod (fun _ => False)) (fun i => (de_r22_5_F q xq dx uc a2 n2 d2 bg ax cx an cn ln fb fo gb go hb ho).getD i (fun _ _ => True)) (fun i => de_r22_5_D.getD i []) (by kernel_rfl) (by kernel_rfl) (by kernel_rfl) (by kernel_rfl) (fun _ => Mod.refl _ _)
                        (fun _ _ _ h k => h.trans k (fun _ _ e => e) (fun _ _ e => e)) ?hactde_r22_5 (stable_list ?_) ?_ ?_
                      case hactde_r22_5 => intro vs; simp only [putAll, Nat.zero_add, Nat.reduceAdd, Act.put, List.setIfInBounds_toArray, List.set_cons_succ, List.set_cons_zero]; exact rfl
                      · unfold de_r22_5_F
                        exact stable_cons (stable_val _) <| stable_cons (stable_val _) <| stable_cons (stable_val _) <| stable_cons (stable_val _) <| stable_cons (stable_val _) <| stable_cons (stable_val _) <| stable_cons (stable_val _) <| stable_cons (stable_val _) <| stable_cons (stable_val _) <| stable_cons (stable_val _) <| stable_cons (stable_val _) <| stable_cons (stable_val _) <| stable_cons (stable_val _) <| stable_cons (stable_val _) <| stable_cons (stable_val _) <| stable_cons (stable_val _) <| stable_cons (stable_val _) <| stable_cons (stable_val _) <| stable_nil
                      · refine opsOkA_cons ?_ ?_
                        · intro K vs W hR hD hK
                          clear hD
                          try dsimp only at hK ⊢
                          simp only [Act.put, List.setIfInBounds_toArray, List.set_cons_succ, List.set_cons_zero] at hK
                          go_wp2
                          exact hK _ _ rfl (Mod.refl _ _)
                        refine opsOkA_cons ?_ ?_
                        · intro K vs W hR hD hK
                          clear hD
                          try dsimp only at hK ⊢
                          simp only [Act.put, List.setIfInBounds_toArray, List.set_cons_succ, List.set_cons_zero] at hK
                          go_wp2
                          exact hK _ _ rfl (Mod.refl _ _)
                        refine opsOkA_cons ?_ ?_
                        · intro K vs W hR hD hK
                          clear hD
                          try dsimp only at hK ⊢
                          simp only [Act.put, List.setIfInBounds_toArray, List.set_cons_succ, List.set_cons_zero] at hK
                          go_wp2
                          exact hK _ _ rfl (Mod.refl _ _)
                        refine opsOkA_cons ?_ ?_
                        · intro K vs W hR hD hK
                          have dq1 : vs 1 = .slice an ln cn := hD 1 (by decide)
                          have dq2 : vs 2 = .int .i64 (q : Int) := hD 2 (by decide)
                          clear hD
                          try dsimp only at hK ⊢
                          simp only [Act.put, List.setIfInBounds_toArray, List.set_cons_succ, List.set_cons_zero] at hK
                          generalize vs 1 = vq1 at hK dq1 ⊢
                          subst vq1
                          generalize vs 2 = vq2 at hK dq2 ⊢
                          subst vq2
                          have hix := HIf.out
                          go_wp2_with fail
                          exact hK _ _ rfl (Mod.refl _ _)
                        refine opsOkA_cons ?_ ?_
                        · intro K vs W hR hD hK
                          have dq3 : vs 3 = .pointer (some ⟨fb, fo, none⟩) := hD 3 (by decide)
                          clear hD
                          try dsimp only at hK ⊢
                          simp only [Act.put, List.setIfInBounds_toArray, List.set_cons_succ, List.set_cons_zero] at hK
                          generalize vs 3 = vq3 at hK dq3 ⊢
                          subst vq3
                          have c0 := (HSd.out.at (hR)).2.2.2.2.2.1
                          go_wp2
                          exact hK _ _ rfl (Mod.refl _ _)
                        refine opsOkA_cons ?_ ?_
                        · intro K vs W hR hD hK
                          have dq0 : vs 0 = .slice ax n2 cx := hD 0 (by decide)
                          have dq4 : vs 4 = .int .i64 (xq : Int) := hD 4 (by decide)
                          clear hD
                          try dsimp only at hK ⊢
                          simp only [Act.put, List.setIfInBounds_toArray, List.set_cons_succ, List.set_cons_zero] at hK
                          generalize vs 0 = vq0 at hK dq0 ⊢
                          subst vq0
                          generalize vs 4 = vq4 at hK dq4 ⊢
                          subst vq4
                          have hix := HIg.out
                          go_wp2_with fail
                          exact hK _ _ rfl (Mod.refl _ _)
                        refine opsOkA_cons ?_ ?_
                        · intro K vs W hR hD hK
                          have dq5 : vs 5 = .pointer (some ⟨gb, go, none⟩) := hD 5 (by decide)
                          clear hD
                          try dsimp only at hK ⊢
                          simp only [Act.put, List.setIfInBounds_toArray, List.set_cons_succ, List.set_cons_zero] at hK
                          generalize vs 5 = vq5 at hK dq5 ⊢
                          subst vq5
                          have c0 := (HSd.out.at (hR)).2.2.2.1
                          go_wp2
                          exact hK _ _ rfl (Mod.refl _ _)
                        refine opsOkA_cons ?_ ?_
                        · intro K vs W hR hD hK
                          clear hD
                          try dsimp only at hK ⊢
                          simp only [Act.put, List.setIfInBounds_toArray, List.set_cons_succ, List.set_cons_zero] at hK
                          go_wp2
                          exact hK _ _ rfl (Mod.refl _ _)
                        refine opsOkA_cons ?_ ?_
                        · intro K vs W hR hD hK
                          have dq7 : vs 7 = .pointer (some ⟨bg, 1, none⟩) := hD 7 (by decide)
                          clear hD
                          try dsimp only at hK ⊢
                          simp only [Act.put, List.setIfInBounds_toArray, List.set_cons_succ, List.set_cons_zero] at hK
                          generalize vs 7 = vq7 at hK dq7 ⊢
                          subst vq7
                          have q0 := ((HSd.out.at (hR)).2.2.2.2.2.2.2.2.2.2.2.2.2.2.1).cell 1 rfl
                          go_wp2
                          exact hK _ _ rfl (Mod.refl _ _)
                        refine opsOkA_cons ?_ ?_
                        · intro K vs W hR hD hK
                          clear hD
                          try dsimp only at hK ⊢
                          simp only [Act.put, List.setIfInBounds_toArray, List.set_cons_succ, List.set_cons_zero] at hK
                          go_wp2
                          exact hK _ _ rfl (Mod.refl _ _)
                        refine opsOkA_cons ?_ ?_
                        · intro K vs W hR hD hK
                          clear hD
                          try dsimp only at hK ⊢
                          simp only [Act.put, List.setIfInBounds_toArray, List.set_cons_succ, List.set_cons_zero] at hK
                          go_wp2
                          exact hK _ _ rfl (Mod.refl _ _)
                        refine opsOkA_cons ?_ ?_
                        · intro K vs W hR hD hK
                          have dq9 : vs 9 = .slice an ln cn := hD 9 (by decide)
                          have dq10 : vs 10 = .int .i64 (q : Int) := hD 10 (by decide)
                          clear hD
                          try dsimp only at hK ⊢
                          simp only [Act.put, List.setIfInBounds_toArray, List.set_cons_succ, List.set_cons_zero] at hK
                          generalize vs 9 = vq9 at hK dq9 ⊢
                          subst vq9
                          generalize vs 10 = vq10 at hK dq10 ⊢
                          subst vq10
                          have hix := HIf.out
                          go_wp2_with fail
                          exact hK _ _ rfl (Mod.refl _ _)
                        refine opsOkA_cons ?_ ?_
                        · intro K vs W hR hD hK
                          have dq11 : vs 11 = .pointer (some ⟨fb, fo, none⟩) := hD 11 (by decide)
                          clear hD
                          try dsimp only at hK ⊢
                          simp only [Act.put, List.setIfInBounds_toArray, List.set_cons_succ, List.set_cons_zero] at hK
                          generalize vs 11 = vq11 at hK dq11 ⊢
                          subst vq11
                          have c0 := (HSd.out.at (hR)).2.2.2.2.2.1
                          go_wp2
                          exact hK _ _ rfl (Mod.refl _ _)
                        refine opsOkA_cons ?_ ?_
                        · intro K vs W hR hD hK
                          have dq8 : vs 8 = .slice a2 n2 d2 := hD 8 (by decide)
                          have dq12 : vs 12 = .int .i64 (xq : Int) := hD 12 (by decide)
                          clear hD
                          try dsimp only at hK ⊢
                          simp only [Act.put, List.setIfInBounds_toArray, List.set_cons_succ, List.set_cons_zero] at hK
                          generalize vs 8 = vq8 at hK dq8 ⊢
                          subst vq8
                          generalize vs 12 = vq12 at hK dq12 ⊢
                          subst vq12
                          have hix := HIh.out
                          go_wp2_with fail
                          exact hK _ _ rfl (Mod.refl _ _)
                        refine opsOkA_cons ?_ ?_
                        · intro K vs W hR hD hK
                          have dq13 : vs 13 = .pointer (some ⟨hb, ho, none⟩) := hD 13 (by decide)
                          clear hD
                          try dsimp only at hK ⊢
                          simp only [Act.put, List.setIfInBounds_toArray, List.set_cons_succ, List.set_cons_zero] at hK
                          generalize vs 13 = vq13 at hK dq13 ⊢
                          subst vq13
                          go_wp2
                          exact hK _ _ rfl (Mod.refl _ _)
                        refine opsOkA_cons ?_ ?_
                        · intro K vs W hR hD hK
                          have dq14 : vs 14 = .pointer (some ⟨hb, ho + 2, none⟩) := hD 14 (by decide)
                          clear hD
                          try dsimp only at hK ⊢
                          simp only [Act.put, List.setIfInBounds_toArray, List.set_cons_succ, List.set_cons_zero] at hK
                          generalize vs 14 = vq14 at hK dq14 ⊢
                          subst vq14
                          have c2 := (HSd.out.at (hR)).1
                          go_wp2
                          exact hK _ _ rfl (Mod.refl _ _)
                        refine opsOkA_cons ?_ ?_
                        · intro K vs W hR hD hK
                          have dq6 : vs 6 = .int .i64 dx := hD 6 (by decide)
                          have dq15 : vs 15 = .int .i64 uc := hD 15 (by decide)
                          clear hD
                          try dsimp only at hK ⊢
                          simp only [Act.put, List.setIfInBounds_toArray, List.set_cons_succ, List.set_cons_zero] at hK
                          generalize vs 6 = vq6 at hK dq6 ⊢
                          subst vq6
                          generalize vs 15 = vq15 at hK dq15 ⊢
                          subst vq15
                          go_wp2
                          exact hK _ _ rfl (Mod.refl _ _)
                        refine opsOkA_cons ?_ ?_
                        · intro K vs W hR hD hK
                          have dq16 : vs 16 = .int .i64 (dx + uc) := hD 16 (by decide)
                          clear hD
                          try dsimp only at hK ⊢
                          simp only [Act.put, List.setIfInBounds_toArray, List.set_cons_succ, List.set_cons_zero] at hK
                          generalize vs 16 = vq16 at hK dq16 ⊢
                          subst vq16
                          go_wp2
                          exact hK _ _ rfl (Mod.refl _ _)
                        exact opsOkA_nil
                      · intro vs wq14 hR hF
                        have dq17 : vs 17 = .int .i64 (dx + uc) := hF 17 (by decide)
                        clear hF
                        try dsimp only
                        generalize vs 17 = vq17 at dq17 ⊢
                        subst dq17
                        replace HS := Lib.hid (HSd.out.step hR)
                        clear HSd hR
                        have hbbg := (HS.out.now).2.2.2.2.2.2.2.2.2.2.2.2.2.2.1
                        have qbg_0 := hbbg.cell 0 rfl
                        have qbg_1 := hbbg.cell 1 rfl
                        have qbg_2 := hbbg.cell 2 rfl
                        have lbg := hbbg.lt
                        clear hbbg
                        go_wp2_with fail
                        go_roundw
                        case rel => exact ⟨q + 1, dx + uc, hlq, by go_num, rfl, by rw [HTK.out, if_pos ⟨⟨rfl, by omega⟩, by omega⟩], (HS.out.now).2.2.2.2.2.2.1⟩
                        case measure => simp [intOf]; omega
                  case neg =>
                    have Z16 := Lib.hid (show decide (0 ≤ dx) = true from by simp; omega)
                    have Z20 := Lib.hid (show decide (b1 < 0) = false from by simp; omega)
                    have Z40 := Lib.hid (show decide (dx + uc < b1) = false from by simp; omega)
                    clear qbg_0 qbg_1 qbg_2 lbg
                    have HSd := Lib.hid HS.out.drew
                    refine wp_region_inv3 (act := ?actde_r21_6) (Mod (fun _ => False)) (fun i => (de_r21_6_F q xq b1 dx uc a2 n2 d2 bg ac cc ax cx an cn ln fb fo cb co gb go hb ho).getD i (fun _ _ => True)) (fun i => de_r21_6_D.getD i []) (by kernel_rfl) (by kernel_rfl) (by kernel_rfl) (by kernel_rfl) (fun _ => Mod.refl _ _)
                      (fun _ _ _ h k => h.trans k (fun _ _ e => e) (fun _ _ e => e)) ?hactde_r21_6 (stable_list ?_) ?_ ?_
                    case hactde_r21_6 => intro vs; simp only [putAll, Nat.zero_add, Nat.reduceAdd, Act.put, List.setIfInBounds_toArray, List.set_cons_succ, List.set_cons_zero]; exact rfl
                    · unfold de_r21_6_F
                      exact stable_cons (stable_val _) <| stable_cons (stable_val _) <| stable_cons (stable_val _) <| stable_cons (stable_val _) <| stable_cons (stable_val _) <| stable_cons (stable_val _) <| stable_cons (stable_val _) <| stable_cons (stable_val _) <| stable_cons (stable_val _) <| stable_cons (stable_val _) <| stable_cons (stable_val _) <| stable_cons (stable_val _) <| stable_cons (stable_val _) <| stable_cons (stable_val _) <| stable_cons (stable_val _) <| stable_cons (stable_val _) <| stable_cons (stable_val _) <| stable_cons (stable_val _) <| stable_cons (stable_val _) <| stable_cons (stable_val _) <| stable_cons (stable_val _) <| stable_cons (stable_val _) <| stable_cons (stable_val _) <| stable_cons (stable_val _) <| stable_cons (stable_val _) <| stable_cons (stable_val _) <| stable_cons (stable_val _) <| stable_cons (stable_val _) <| stable_cons (stable_val _) <| stable_cons (stable_val _) <| stable_cons (stable_val _) <| stable_cons (stable_val _) <| stable_cons (stable_val _) <| stable_cons (stable_val _) <| stable_cons (stable_val _) <| stable_cons (stable_val _) <| stable_cons (stable_val _) <| stable_cons (stable_val _) <| stable_cons (stable_val _) <| stable_cons (stable_val _) <| stable_cons (stable_val _) <| stable_cons (stable_val _) <| stable_cons (stable_val _) <| stable_nil
                    · refine opsOkA_cons ?_ ?_
                      · intro K vs W hR hD hK
                        clear hD
                        try dsimp only at hK ⊢
                        simp only [Act.put, List.setIfInBounds_toArray, List.set_cons_succ, List.set_cons_zero] at hK
                        go_wp2
                        exact hK _ _ rfl (Mod.refl _ _)
                      refine opsOkA_cons ?_ ?_
                      · intro K vs W hR hD hK
                        clear hD
                        try dsimp only at hK ⊢
                        simp only [Act.put, List.setIfInBounds_toArray, List.set_cons_succ, List.set_cons_zero] at hK
                        go_wp2
                        exact hK _ _ rfl (Mod.refl _ _)
                      refine opsOkA_cons ?_ ?_
                      · intro K vs W hR hD hK
                        clear hD
                        try dsimp only at hK ⊢
                        simp only [Act.put, List.setIfInBounds_toArray, List.set_cons_succ, List.set_cons_zero] at hK
                        go_wp2
                        exact hK _ _ rfl (Mod.refl _ _)
                      refine opsOkA_cons ?_ ?_
                      · intro K vs W hR hD hK
                        have dq1 : vs 1 = .slice an ln cn := hD 1 (by decide)
                        have dq2 : vs 2 = .int .i64 (q : Int) := hD 2 (by decide)
                        clear hD
                        try dsimp only at hK ⊢
                        simp only [Act.put, List.setIfInBounds_toArray, List.set_cons_succ, List.set_cons_zero] at hK
                        generalize vs 1 = vq1 at hK dq1 ⊢
                        subst vq1
                        generalize vs 2 = vq2 at hK dq2 ⊢
                        subst vq2
                        have hix := HIf.out
                        go_wp2_with fail
                        exact hK _ _ rfl (Mod.refl _ _)
                      refine opsOkA_cons ?_ ?_
                      · intro K vs W hR hD hK
                        have dq3 : vs 3 = .pointer (some ⟨fb, fo, none⟩) := hD 3 (by decide)
                        clear hD
                        try dsimp only at hK ⊢
                        simp only [Act.put, List.setIfInBounds_toArray, List.set_cons_succ, List.set_cons_zero] at hK
                        generalize vs 3 = vq3 at hK dq3 ⊢
                        subst vq3
                        have c0 := (HSd.out.at (hR)).2.2.2.2.2.1
                        go_wp2
                        exact hK _ _ rfl (Mod.refl _ _)
                      refine opsOkA_cons ?_ ?_
                      · intro K vs W hR hD hK
                        have dq0 : vs 0 = .slice ac n2 cc := hD 0 (by decide)
                        have dq4 : vs 4 = .int .i64 (xq : Int) := hD 4 (by decide)
                        clear hD
                        try dsimp only at hK ⊢
                        simp only [Act.put, List.setIfInBounds_toArray, List.set_cons_succ, List.set_cons_zero] at hK
                        generalize vs 0 = vq0 at hK dq0 ⊢
                        subst vq0
                        generalize vs 4 = vq4 at hK dq4 ⊢
                        subst vq4
                        have hix := HIc.out
                        go_wp2_with fail
                        exact hK _ _ rfl (Mod.refl _ _)
                      refine opsOkA_cons ?_ ?_
                      · intro K vs W hR hD hK
                        have dq5 : vs 5 = .pointer (some ⟨cb, co, none⟩) := hD 5 (by decide)
                        clear hD
                        try dsimp only at hK ⊢
                        simp only [Act.put, List.setIfInBounds_toArray, List.set_cons_succ, List.set_cons_zero] at hK
                        generalize vs 5 = vq5 at hK dq5 ⊢
                        subst vq5
                        have c0 := (HSd.out.at (hR)).2.2.2.2.1
                        go_wp2
                        exact hK _ _ rfl (Mod.refl _ _)
                      refine opsOkA_cons ?_ ?_
                      · intro K vs W hR hD hK
                        have dq6 : vs 6 = .bool false := hD 6 (by decide)
                        clear hD
                        try dsimp only at hK ⊢
                        simp only [Act.put, List.setIfInBounds_toArray, List.set_cons_succ, List.set_cons_zero] at hK
                        generalize vs 6 = vq6 at hK dq6 ⊢
                        subst vq6
                        go_wp2
                        exact hK _ _ rfl (Mod.refl _ _)
                      refine opsOkA_cons ?_ ?_
                      · intro K vs W hR hD hK
                        have dq7 : vs 7 = .bool true := hD 7 (by decide)
                        clear hD
                        try dsimp only at hK ⊢
                        simp only [Act.put, List.setIfInBounds_toArray, List.set_cons_succ, List.set_cons_zero] at hK
                        generalize vs 7 = vq7 at hK dq7 ⊢
                        subst vq7
                        go_wp2
                        exact hK _ _ rfl (Mod.refl _ _)
                      refine opsOkA_cons ?_ ?_
                      · intro K vs W hR hD hK
                        have dq8 : vs 8 = .bool true := hD 8 (by decide)
                        clear hD
                        try dsimp only at hK ⊢
                        simp only [Act.put, List.setIfInBounds_toArray, List.set_cons_succ, List.set_cons_zero] at hK
                        generalize vs 8 = vq8 at hK dq8 ⊢
                        subst vq8
                        go_wp2
                        exact hK _ _ rfl (Mod.refl _ _)
                      refine opsOkA_cons ?_ ?_
                      · intro K vs W hR hD hK
                        have dq8 : vs 8 = .bool true := hD 8 (by decide)
                        clear hD
                        try dsimp only at hK ⊢
                        simp only [Act.put, List.setIfInBounds_toArray, List.set_cons_succ, List.set_cons_zero] at hK
                        generalize vs 8 = vq8 at hK dq8 ⊢
                        subst vq8
                        go_wp2
                        exact hK _ _ rfl (Mod.refl _ _)
                      refine opsOkA_cons ?_ ?_
                      · intro K vs W hR hD hK
                        have dq8 : vs 8 = .bool true := hD 8 (by decide)
                        clear hD
                        try dsimp only at hK ⊢
                        simp only [Act.put, List.setIfInBounds_toArray, List.set_cons_succ, List.set_cons_zero] at hK
                        generalize vs 8 = vq8 at hK dq8 ⊢
                        subst vq8
                        go_wp2
                        exact hK _ _ rfl (Mod.refl _ _)
                      refine opsOkA_cons ?_ ?_
                      · intro K vs W hR hD hK
                        have dq8 : vs 8 = .bool true := hD 8 (by decide)
                        have dq10 : vs 10 = .slice an ln cn := hD 10 (by decide)
                        have dq11 : vs 11 = .int .i64 (q : Int) := hD 11 (by decide)
                        clear hD
                        try dsimp only at hK ⊢
                        simp only [Act.put, List.setIfInBounds_toArray, List.set_cons_succ, List.set_cons_zero] at hK
                        generalize vs 8 = vq8 at hK dq8 ⊢
                        subst vq8
                        generalize vs 10 = vq10 at hK dq10 ⊢
                        subst vq10
                        generalize vs 11 = vq11 at hK dq11 ⊢
                        subst vq11
                        have hix := HIf.out
                        go_wp2_with fail
                        exact hK _ _ rfl (Mod.refl _ _)
                      refine opsOkA_cons ?_ ?_
                      · intro K vs W hR hD hK
                        have dq8 : vs 8 = .bool true := hD 8 (by decide)
                        have dq12 : vs 12 = .pointer (some ⟨fb, fo, none⟩) := hD 12 (by decide)
                        clear hD
                        try dsimp only at hK ⊢
                        simp only [Act.put, List.setIfInBounds_toArray, List.set_cons_succ, List.set_cons_zero] at hK
                        generalize vs 8 = vq8 at hK dq8 ⊢
                        subst vq8
                        generalize vs 12 = vq12 at hK dq12 ⊢
                        subst vq12
                        have c0 := (HSd.out.at (hR)).2.2.2.2.2.1
                        go_wp2
                        exact hK _ _ rfl (Mod.refl _ _)
                      refine opsOkA_cons ?_ ?_
                      · intro K vs W hR hD hK
                        have dq8 : vs 8 = .bool true := hD 8 (by decide)
                        have dq9 : vs 9 = .slice ax n2 cx := hD 9 (by decide)
                        have dq13 : vs 13 = .int .i64 (xq : Int) := hD 13 (by decide)
                        clear hD
                        try dsimp only at hK ⊢
                        simp only [Act.put, List.setIfInBounds_toArray, List.set_cons_succ, List.set_cons_zero] at hK
                        generalize vs 8 = vq8 at hK dq8 ⊢
                        subst vq8
                        generalize vs 9 = vq9 at hK dq9 ⊢
                        subst vq9
                        generalize vs 13 = vq13 at hK dq13 ⊢
                        subst vq13
                        have hix := HIg.out
                        go_wp2_with fail
                        exact hK _ _ rfl (Mod.refl _ _)
                      refine opsOkA_cons ?_ ?_
                      · intro K vs W hR hD hK
                        have dq8 : vs 8 = .bool true := hD 8 (by decide)
                        have dq14 : vs 14 = .pointer (some ⟨gb, go, none⟩) := hD 14 (by decide)
                        clear hD
                        try dsimp only at hK ⊢
                        simp only [Act.put, List.setIfInBounds_toArray, List.set_cons_succ, List.set_cons_zero] at hK
                        generalize vs 8 = vq8 at hK dq8 ⊢
                        subst vq8
                        generalize vs 14 = vq14 at hK dq14 ⊢
                        subst vq14
                        have c0 := (HSd.out.at (hR)).2.2.2.1
                        go_wp2
                        exact hK _ _ rfl (Mod.refl _ _)
                      refine opsOkA_cons ?_ ?_
                      · intro K vs W hR hD hK
                        have dq8 : vs 8 = .bool true := hD 8 (by decide)
                        have dq15 : vs 15 = .int .i64 dx := hD 15 (by decide)
                        clear hD
                        try dsimp only at hK ⊢
                        simp only [Act.put, List.setIfInBounds_toArray, List.set_cons_succ, List.set_cons_zero] at hK
                        generalize vs 8 = vq8 at hK dq8 ⊢
                        subst vq8
                        generalize vs 15 = vq15 at hK dq15 ⊢
                        subst vq15
                        have zz := Z16.out
                        go_wp2
                        exact hK _ _ rfl (Mod.refl _ _)
                      refine opsOkA_cons ?_ ?_
                      · intro K vs W hR hD hK
                        have dq8 : vs 8 = .bool true := hD 8 (by decide)
                        have dq16 : vs 16 = .bool true := hD 16 (by decide)
                        clear hD
                        try dsimp only at hK ⊢
                        simp only [Act.put, List.setIfInBounds_toArray, List.set_cons_succ, List.set_cons_zero] at hK
                        generalize vs 8 = vq8 at hK dq8 ⊢
                        subst vq8
                        generalize vs 16 = vq16 at hK dq16 ⊢
                        subst vq16
                        go_wp2
                        exact hK _ _ rfl (Mod.refl _ _)
                      refine opsOkA_cons ?_ ?_
                      · intro K vs W hR hD hK
                        have dq17 : vs 17 = .bool true := hD 17 (by decide)
                        clear hD
                        try dsimp only at hK ⊢
                        simp only [Act.put, List.setIfInBounds_toArray, List.set_cons_succ, List.set_cons_zero] at hK
                        generalize vs 17 = vq17 at hK dq17 ⊢
                        subst vq17
                        go_wp2
                        exact hK _ _ rfl (Mod.refl _ _)
                      refine opsOkA_cons ?_ ?_
                      · intro K vs W hR hD hK
                        have dq18 : vs 18 = .bool true := hD 18 (by decide)
                        clear hD
                        try dsimp only at hK ⊢
                        simp only [Act.put, List.setIfInBounds_toArray, List.set_cons_succ, List.set_cons_zero] at hK
                        generalize vs 18 = vq18 at hK dq18 ⊢
                        subst vq18
                        go_wp2
                        exact hK _ _ rfl (Mod.refl _ _)
                      refine opsOkA_cons ?_ ?_
                      · intro K vs W hR hD hK
                        have dq18 : vs 18 = .bool true := hD 18 (by decide)
                        have dq19 : vs 19 = .int .i64 b1 := hD 19 (by decide)
                        clear hD
                        try dsimp only at hK ⊢
                        simp only [Act.put, List.setIfInBounds_toArray, List.set_cons_succ, List.set_cons_zero] at hK
                        generalize vs 18 = vq18 at hK dq18 ⊢
                        subst vq18
                        generalize vs 19 = vq19 at hK dq19 ⊢
                        subst vq19
                        have zz := Z20.out
                        go_wp2
                        exact hK _ _ rfl (Mod.refl _ _)
                      refine opsOkA_cons ?_ ?_
                      · intro K vs W hR hD hK
                        have dq18 : vs 18 = .bool true := hD 18 (by decide)
                        have dq20 : vs 20 = .bool false := hD 20 (by decide)
                        clear hD
                        try dsimp only at hK ⊢
                        simp only [Act.put, List.setIfInBounds_toArray, List.set_cons_succ, List.set_cons_zero] at hK
                        generalize vs 18 = vq18 at hK dq18 ⊢
                        subst vq18
                        generalize vs 20 = vq20 at hK dq20 ⊢
                        subst vq20
                        go_wp2
                        exact hK _ _ rfl (Mod.refl _ _)
                      refine opsOkA_cons ?_ ?_
                      · intro K vs W hR hD hK
                        have dq21 : vs 21 = .bool false := hD 21 (by decide)
                        clear hD
                        try dsimp only at hK ⊢
                        simp only [Act.put, List.setIfInBounds_toArray, List.set_cons_succ, List.set_cons_zero] at hK
                        generalize vs 21 = vq21 at hK dq21 ⊢
                        subst vq21
                        go_wp2
                        exact hK _ _ rfl (Mod.refl _ _)
                      refine opsOkA_cons ?_ ?_
                      · intro K vs W hR hD hK
                        have dq21 : vs 21 = .bool false := hD 21 (by decide)
                        clear hD
                        try dsimp only at hK ⊢
                        simp only [Act.put, List.setIfInBounds_toArray, List.set_cons_succ, List.set_cons_zero] at hK
                        generalize vs 21 = vq21 at hK dq21 ⊢
                        subst vq21
                        go_wp2
                        exact hK _ _ rfl (Mod.refl _ _)
                      refine opsOkA_cons ?_ ?_
                      · intro K vs W hR hD hK
                        have dq21 : vs 21 = .bool false := hD 21 (by decide)
                        clear hD
                        try dsimp only at hK ⊢
                        simp only [Act.put, List.setIfInBounds_toArray, List.set_cons_succ, List.set_cons_zero] at hK
                        generalize vs 21 = vq21 at hK dq21 ⊢
                        subst vq21
                        go_wp2
                        exact hK _ _ rfl (Mod.refl _ _)
                      refine opsOkA_cons ?_ ?_
                      · intro K vs W hR hD hK
                        have dq21 : vs 21 = .bool false := hD 21 (by decide)
                        have dq23 : vs 23 = .slice an ln cn := hD 23 (by decide)
                        have dq24 : vs 24 = .int .i64 (q : Int) := hD 24 (by decide)
                        clear hD
                        try dsimp only at hK ⊢
                        simp only [Act.put, List.setIfInBounds_toArray, List.set_cons_succ, List.set_cons_zero] at hK
                        generalize vs 21 = vq21 at hK dq21 ⊢
                        subst vq21
                        generalize vs 23 = vq23 at hK dq23 ⊢
                        subst vq23
                        generalize vs 24 = vq24 at hK dq24 ⊢
                        subst vq24
                        have hix := HIf.out
                        go_wp2_with fail
                        exact hK _ _ rfl (Mod.refl _ _)
                      refine opsOkA_cons ?_ ?_
                      · intro K vs W hR hD hK
                        have dq21 : vs 21 = .bool false := hD 21 (by decide)
                        have dq25 : vs 25 = .pointer (some ⟨fb, fo, none⟩) := hD 25 (by decide)
                        clear hD
                        try dsimp only at hK ⊢
                        simp only [Act.put, List.setIfInBounds_toArray, List.set_cons_succ, List.set_cons_zero] at hK
                        generalize vs 21 = vq21 at hK dq21 ⊢
                        subst vq21
                        generalize vs 25 = vq25 at hK dq25 ⊢
                        subst vq25
                        have c0 := (HSd.out.at (hR)).2.2.2.2.2.1
                        go_wp2
                        exact hK _ _ rfl (Mod.refl _ _)
                      refine opsOkA_cons ?_ ?_
                      · intro K vs W hR hD hK
                        have dq21 : vs 21 = .bool false := hD 21 (by decide)
                        have dq22 : vs 22 = .slice ax n2 cx := hD 22 (by decide)
                        have dq26 : vs 26 = .int .i64 (xq : Int) := hD 26 (by decide)
                        clear hD
                        try dsimp only at hK ⊢
                        simp only [Act.put, List.setIfInBounds_toArray, List.set_cons_succ, List.set_cons_zero] at hK
                        generalize vs 21 = vq21 at hK dq21 ⊢
                        subst vq21
                        generalize vs 22 = vq22 at hK dq22 ⊢
                        subst vq22
                        generalize vs 26 = vq26 at hK dq26 ⊢
                        subst vq26
                        have hix := HIg.out
                        go_wp2_with fail
                        exact hK _ _ rfl (Mod.refl _ _)
                      refine opsOkA_cons ?_ ?_
                      · intro K vs W hR hD hK
                        have dq21 : vs 21 = .bool false := hD 21 (by decide)
                        have dq27 : vs 27 = .pointer (some ⟨gb, go, none⟩) := hD 27 (by decide)
                        clear hD
                        try dsimp only at hK ⊢
                        simp only [Act.put, List.setIfInBounds_toArray, List.set_cons_succ, List.set_cons_zero] at hK
                        generalize vs 21 = vq21 at hK dq21 ⊢
                        subst vq21
                        generalize vs 27 = vq27 at hK dq27 ⊢
                        subst vq27
                        have c0 := (HSd.out.at (hR)).2.2.2.1
                        go_wp2
                        exact hK _ _ rfl (Mod.refl _ _)
                      refine opsOkA_cons ?_ ?_
                      · intro K vs W hR hD hK
                        have dq21 : vs 21 = .bool false := hD 21 (by decide)
                        clear hD
                        try dsimp only at hK ⊢
                        simp only [Act.put, List.setIfInBounds_toArray, List.set_cons_succ, List.set_cons_zero] at hK
                        generalize vs 21 = vq21 at hK dq21 ⊢
                        subst vq21
                        go_wp2
                        exact hK _ _ rfl (Mod.refl _ _)
                      refine opsOkA_cons ?_ ?_
                      · intro K vs W hR hD hK
                        have dq21 : vs 21 = .bool false := hD 21 (by decide)
                        have dq29 : vs 29 = .pointer (some ⟨bg, 1, none⟩) := hD 29 (by decide)
                        clear hD
                        try dsimp only at hK ⊢
                        simp only [Act.put, List.setIfInBounds_toArray, List.set_cons_succ, List.set_cons_zero] at hK
                        generalize vs 21 = vq21 at hK dq21 ⊢
                        subst vq21
                        generalize vs 29 = vq29 at hK dq29 ⊢
                        subst vq29
                        have q0 := ((HSd.out.at (hR)).2.2.2.2.2.2.2.2.2.2.2.2.2.2.1).cell 1 rfl
                        go_wp2
                        exact hK _ _ rfl (Mod.refl _ _)
                      refine opsOkA_cons ?_ ?_
                      · intro K vs W hR hD hK
                        have dq21 : vs 21 = .bool false := hD 21 (by decide)
                        clear hD
                        try dsimp only at hK ⊢
                        simp only [Act.put, List.setIfInBounds_toArray, List.set_cons_succ, List.set_cons_zero] at hK
                        generalize vs 21 = vq21 at hK dq21 ⊢
                        subst vq21
                        go_wp2
                        exact hK _ _ rfl (Mod.refl _ _)
                      refine opsOkA_cons ?_ ?_
                      · intro K vs W hR hD hK
                        have dq21 : vs 21 = .bool false := hD 21 (by decide)
                        clear hD
                        try dsimp only at hK ⊢
                        simp only [Act.put, List.setIfInBounds_toArray, List.set_cons_succ, List.set_cons_zero] at hK
                        generalize vs 21 = vq21 at hK dq21 ⊢
                        subst vq21
                        go_wp2
                        exact hK _ _ rfl (Mod.refl _ _)
                      refine opsOkA_cons ?_ ?_
                      · intro K vs W hR hD hK
                        have dq21 : vs 21 = .bool false := hD 21 (by decide)
                        have dq31 : vs 31 = .slice an ln cn := hD 31 (by decide)
                        have dq32 : vs 32 = .int .i64 (q : Int) := hD 32 (by decide)
                        clear hD
                        try dsimp only at hK ⊢
                        simp only [Act.put, List.setIfInBounds_toArray, List.set_cons_succ, List.set_cons_zero] at hK
                        generalize vs 21 = vq21 at hK dq21 ⊢
                        subst vq21
                        generalize vs 31 = vq31 at hK dq31 ⊢
                        subst vq31
                        generalize vs 32 = vq32 at hK dq32 ⊢
                        subst vq32
                        have hix := HIf.out
                        go_wp2_with fail
                        exact hK _ _ rfl (Mod.refl _ _)
                      refine opsOkA_cons ?_ ?_
                      · intro K vs W hR hD hK
                        have dq21 : vs 21 = .bool false := hD 21 (by decide)
                        have dq33 : vs 33 = .pointer (some ⟨fb, fo, none⟩) := hD 33 (by decide)
                        clear hD
                        try dsimp only at hK ⊢
                        simp only [Act.put, List.setIfInBounds_toArray, List.set_cons_succ, List.set_cons_zero] at hK
                        generalize vs 21 = vq21 at hK dq21 ⊢
                        subst vq21
                        generalize vs 33 = vq33 at hK dq33 ⊢
                        subst vq33
                        have c0 := (HSd.out.at (hR)).2.2.2.2.2.1
                        go_wp2
                        exact hK _ _ rfl (Mod.refl _ _)
                      refine opsOkA_cons ?_ ?_
                      · intro K vs W hR hD hK
                        have dq21 : vs 21 = .bool false := hD 21 (by decide)
                        have dq30 : vs 30 = .slice a2 n2 d2 := hD 30 (by decide)
                        have dq34 : vs 34 = .int .i64 (xq : Int) := hD 34 (by decide)
                        clear hD
                        try dsimp only at hK ⊢
                        simp only [Act.put, List.setIfInBounds_toArray, List.set_cons_succ, List.set_cons_zero] at hK
                        generalize vs 21 = vq21 at hK dq21 ⊢
                        subst vq21
                        generalize vs 30 = vq30 at hK dq30 ⊢
                        subst vq30
                        generalize vs 34 = vq34 at hK dq34 ⊢
                        subst vq34
                        have hix := HIh.out
                        go_wp2_with fail
                        exact hK _ _ rfl (Mod.refl _ _)
                      refine opsOkA_cons ?_ ?_
                      · intro K vs W hR hD hK
                        have dq21 : vs 21 = .bool false := hD 21 (by decide)
                        have dq35 : vs 35 = .pointer (some ⟨hb, ho, none⟩) := hD 35 (by decide)
                        clear hD
                        try dsimp only at hK ⊢
                        simp only [Act.put, List.setIfInBounds_toArray, List.set_cons_succ, List.set_cons_zero] at hK
                        generalize vs 21 = vq21 at hK dq21 ⊢
                        subst vq21
                        generalize vs 35 = vq35 at hK dq35 ⊢
                        subst vq35
                        go_wp2
                        exact hK _ _ rfl (Mod.refl _ _)
                      refine opsOkA_cons ?_ ?_
                      · intro K vs W hR hD hK
                        have dq21 : vs 21 = .bool false := hD 21 (by decide)
                        have dq36 : vs 36 = .pointer (some ⟨hb, ho + 2, none⟩) := hD 36 (by decide)
                        clear hD
                        try dsimp only at hK ⊢
                        simp only [Act.put, List.setIfInBounds_toArray, List.set_cons_succ, List.set_cons_zero] at hK
                        generalize vs 21 = vq21 at hK dq21 ⊢
                        subst vq21
                        generalize vs 36 = vq36 at hK dq36 ⊢
                        subst vq36
                        have c2 := (HSd.out.at (hR)).1
                        go_wp2
                        exact hK _ _ rfl (Mod.refl _ _)
                      refine opsOkA_cons ?_ ?_
                      · intro K vs W hR hD hK
                        have dq21 : vs 21 = .bool false := hD 21 (by decide)
                        have dq28 : vs 28 = .int .i64 dx := hD 28 (by decide)
                        have dq37 : vs 37 = .int .i64 uc := hD 37 (by decide)
                        clear hD
                        try dsimp only at hK ⊢
                        simp only [Act.put, List.setIfInBounds_toArray, List.set_cons_succ, List.set_cons_zero] at hK
                        generalize vs 21 = vq21 at hK dq21 ⊢
                        subst vq21
                        generalize vs 28 = vq28 at hK dq28 ⊢
                        subst vq28
                        generalize vs 37 = vq37 at hK dq37 ⊢
                        subst vq37
                        go_wp2
                        exact hK _ _ rfl (Mod.refl _ _)
                      refine opsOkA_cons ?_ ?_
                      · intro K vs W hR hD hK
                        have dq21 : vs 21 = .bool false := hD 21 (by decide)
                        clear hD
                        try dsimp only at hK ⊢
                        simp only [Act.put, List.setIfInBounds_toArray, List.set_cons_succ, List.set_cons_zero] at hK
                        generalize vs 21 = vq21 at hK dq21 ⊢
                        subst vq21
                        go_wp2
                        exact hK _ _ rfl (Mod.refl _ _)
                      refine opsOkA_cons ?_ ?_
                      · intro K vs W hR hD hK
                        have dq21 : vs 21 = .bool false := hD 21 (by decide)
                        have dq38 : vs 38 = .int .i64 (dx + uc) := hD 38 (by decide)
                        have dq39 : vs 39 = .int .i64 b1 := hD 39 (by decide)
                        clear hD
                        try dsimp only at hK ⊢
                        simp only [Act.put, List.setIfInBounds_toArray, List.set_cons_succ, List.set_cons_zero] at hK
                        generalize vs 21 = vq21 at hK dq21 ⊢
                        subst vq21
                        generalize vs 38 = vq38 at hK dq38 ⊢
                        subst vq38
                        generalize vs 39 = vq39 at hK dq39 ⊢
                        subst vq39
                        have zz := Z40.out
                        go_wp2
                        exact hK _ _ rfl (Mod.refl _ _)
                      refine opsOkA_cons ?_ ?_
                      · intro K vs W hR hD hK
                        have dq18 : vs 18 = .bool true := hD 18 (by decide)
                        have dq21 : vs 21 = .bool false := hD 21 (by decide)
                        have dq40 : vs 40 = .bool false := hD 40 (by decide)
                        clear hD
                        try dsimp only at hK ⊢
                        simp only [Act.put, List.setIfInBounds_toArray, List.set_cons_succ, List.set_cons_zero] at hK
                        generalize vs 18 = vq18 at hK dq18 ⊢
                        subst vq18
                        generalize vs 21 = vq21 at hK dq21 ⊢
                        subst vq21
                        generalize vs 40 = vq40 at hK dq40 ⊢
                        subst vq40
                        go_wp2
                        exact hK _ _ rfl (Mod.refl _ _)
                      refine opsOkA_cons ?_ ?_
                      · intro K vs W hR hD hK
                        have dq18 : vs 18 = .bool true := hD 18 (by decide)
                        have dq41 : vs 41 = .bool false := hD 41 (by decide)
                        clear hD
                        try dsimp only at hK ⊢
                        simp only [Act.put, List.setIfInBounds_toArray, List.set_cons_succ, List.set_cons_zero] at hK
                        generalize vs 18 = vq18 at hK dq18 ⊢
                        subst vq18
                        generalize vs 41 = vq41 at hK dq41 ⊢
                        subst vq41
                        go_wp2
                        exact hK _ _ rfl (Mod.refl _ _)
                      exact opsOkA_nil
                    · intro vs wq15 hR hF
                      have dq42 : vs 42 = .bool false := hF 42 (by decide)
                      clear hF
                      try dsimp only
                      generalize vs 42 = vq42 at dq42 ⊢
                      subst dq42
                      replace HS := Lib.hid (HSd.out.step hR)
                      clear HSd hR
                      have hbbg := (HS.out.now).2.2.2.2.2.2.2.2.2.2.2.2.2.2.1
                      have qbg_0 := hbbg.cell 0 rfl
                      have qbg_1 := hbbg.cell 1 rfl
                      have qbg_2 := hbbg.cell 2 rfl
                      have lbg := hbbg.lt
                      clear hbbg
                      go_wp2_with fail
                      go_roundw
                      case rel => exact ⟨q + 1, b1, hlq, by go_num, rfl, by rw [HTK.out, if_neg (by omega)], (HS.out.now).2.2.2.2.2.2.1⟩
                      case measure => simp [intOf]; omega
          case neg =>
            obtain rfl : ln = q := by omega
            have z0 : decide ((ln : Int) < (ln : Int)) = false := by simp
            have hb := HB1.out
            rw [List.take_of_length_le (by rw [HLN.out]; exact Nat.le_refl _), HBF.out] at hb
            obtain rfl : dk = b1 := hb.symm
            clear HB1
            obtain ⟨yb, yo, hpl, e0⟩ := rd1 (HS.out.now).2.2.2.2.2.2.1 k hkd
            have hix := fun wx => run_indexS (P := Try.prog) wx 22 3 iI 1 Try.underlying22 hiI hsI ax n2 cx k hlk ((HS.out.now).2.2.2.2.2.2.1.some_ (by have := hlk; omega))
            rw [hpl] at hix
            have HIy := Lib.hid hix
            clear hix hpl
            rw [HDK.out] at e0
            replace HS := Lib.hid ((Ev.cell e0).and HS.out)
            clear e0
            have qy := (HS.out.now).1
            have hix := HIy.out
            have zn : (dk != dk) = false := by simp
            go_wp2_with fail
            go_roundw
            case rel => exact ⟨k + 1, hlk, by go_num, (HS.out.now).2.2.2.2.2.2.1⟩
            case measure => simp [intOf]; omega
    case neg =>
      obtain rfl : n2 = k := by omega
      have z0 : decide ((n2 : Int) < (n2 : Int)) = false := by simp
      go_wp2_with fail
      refine (round_any fr (n2 : Int) _ (by omega) (by omega)).mono ?_
      rintro e w' ⟨rfl, rfl⟩
      have hr0 := Int.emod_nonneg (fr) (b := (n2 : Int)) (by omega)
      have hr1 := Int.emod_lt_of_pos (fr) (b := (n2 : Int)) (by omega)
      obtain ⟨er, hr2⟩ := Int.eq_ofNat_of_zero_le hr0
      rw [hr2] at hr1 ⊢
      have HER := Lib.hid hr2
      have HERb := hr1
      clear hr0 hr1 hr2
      clear z0
      go_wp2_with fail
      refine (stroll_any G _ a1 n1 d1 a2 n2 d2 a3 n3 d3 ((HS.out.now).2.2.2.2.2.1) (by omega) (by omega) (er : Int) a4 n4 d4 st HN4.out ((HS.out.now).2.2.2.2.2.2.2.1) (by omega)).mono ?_
      rintro e wq16 ⟨v', rfl, ⟨aw, cw, rfl, hx'⟩, hmm⟩
      replace HS := Lib.hid (HS.out.step hmm)
      clear hmm
      replace HS := Lib.hid ((Ev.rd hx').and HS.out)
      clear hx'
      clear qbg_0 qbg_1 qbg_2 lbg
      have hbbg := (HS.out.now).2.2.2.2.1
      have qbg_0 := hbbg.cell 0 rfl
      have qbg_1 := hbbg.cell 1 rfl
      have qbg_2 := hbbg.cell 2 rfl
      have lbg := hbbg.lt
      clear hbbg
      obtain ⟨ws, hws⟩ : ∃ l, strollL G (er : Int) st = l := ⟨_, rfl⟩
      have hwk := stroll_wlk G (er : Int) st
      have hwl := stroll_len G (er : Int) st
      rw [hws] at HS hwk hwl ⊢
      have HWS := Lib.hid hws
      have HWK := Lib.hid hwk
      clear hws hwk
      obtain ⟨lw, hlw⟩ : ∃ n, ws.length = n := ⟨_, rfl⟩
      rw [hlw] at HS hwl ⊢
      have HLW := Lib.hid hlw
      have hl4 : lw ≤ 40 := by have := HN4.out; omega
      clear hlw hwl
      have hcw : lw ≤ cw := rd_cap ((HS.out.now).1)
      have hal : allE G ws = true := wlk_all G _ _ HWK.out
      have HAL := Lib.hid hal
      clear hal
      have hern : er < n2 := by omega
      have herd : er < d.length := by rw [HDL.out]; exact hern
      go_wp2_with fail
      replace HS := Lib.hid ((Ev.mod wq16).and HS.out)
      go_loopw [22, 23] (fun s i wr => ∃ (i0 : Nat) (s0 : Int), i0 ≤ lw ∧ i = .int .i64 i0 ∧ s = .int .i64 s0 ∧ s0 = wS G (ws.take i0) ∧ (∀ x ∈ ws.take i0, clB (shutL n2 sh) x = false) ∧ Mod (fun _ => False) wq16 wr) (fun s i _ => lw - (intOf i).toNat)
      case atStart => exact ⟨0, 0, by omega, rfl, rfl, rfl, (by intro x hx; simp at hx), Mod.refl _ _⟩
      case round =>
        obtain ⟨i0, s0, hi0, rfl, rfl, hs, hop, hmr⟩ := hrel
        obtain ⟨wl, hwo⟩ : ∃ x : World, x = wr := ⟨_, rfl⟩
        subst hwo
        replace HS := Lib.hid (HS.out.step hmr)
        clear hmr
        clear qbg_0 qbg_1 qbg_2 lbg
        have hbbg := (HS.out.now).2.2.2.2.2.1
        have qbg_0 := hbbg.cell 0 rfl
        have qbg_1 := hbbg.cell 1 rfl
        have qbg_2 := hbbg.cell 2 rfl
        have lbg := hbbg.lt
        clear hbbg
        by_cases hli : i0 < lw
        case pos =>
          have z0 : decide ((i0 : Int) < (lw : Int)) = true := by simp; omega
          have hil : i0 < ws.length := by rw [HLW.out]; exact hli
          have hxe : edB G ws[i0] = true := by have h := HAL.out; unfold allE at h; exact List.all_eq_true.1 h _ (List.getElem_mem hil)
          have hat : allE G (ws.take i0) = true := by have h := allE_append G (ws.take i0) (ws.drop i0); rw [List.take_append_drop, HAL.out] at h; exact (Bool.and_eq_true_iff.1 h.symm).1
          have hsb := wS_le G hmay.out (ws.take i0) hat
          have hl40 : (ws.take i0).length ≤ 40 := by have := List.length_take_le i0 ws; omega
          rw [← hs] at hsb
          have hs1 := hsb.1
          have hs2 : s0 ≤ 2621400 := by have := hsb.2; omega
          have hxo := of_decide_eq_true hxe
          obtain ⟨xw, hxw⟩ := Int.eq_ofNat_of_zero_le hxo.1
          have hxE : xw < G.E.length := by omega
          have hxn : xw < n2 := by rw [← he.out]; exact hxE
          have hxc : xw < (shutL n2 sh).length := by rw [HNC.out]; exact hxn
          have ht := wS_take G ws i0 hil
          rw [hxw, eAt_eq G xw hxE, ← hs] at ht
          have hwb := edgeW G hmay.out (xw : Int) ⟨by omega, by omega⟩
          rw [eAt_eq G xw hxE] at hwb
          have hcn : ∀ x ∈ ws.take (i0 + 1), clB (shutL n2 sh) x = false ∨ x = (xw : Int) := by intro x hx; rw [List.take_succ_eq_append_getElem hil, hxw] at hx; rcases List.mem_append.1 hx with h | h; exact .inl (hop x h); exact .inr (by simpa using h)
          have hle : (∀ x ∈ ws.take (i0 + 1), clB (shutL n2 sh) x = false) → (eAt G ws[i0]).2.1 = (vr : Int) → 0 ≤ dAt d er ∧ dAt d er ≤ wS G (ws.take (i0 + 1)) := fun h1 h2 => stroll_le HDF.out ws er i0 hil HWK.out h1 h2 hxe
          rw [hxw, eAt_eq G xw hxE, ht, dAt_eq d er herd] at hle
          have hca := clB_at (shutL n2 sh) xw hxc
          obtain ⟨ua, Hua0⟩ : ∃ qz, (G.E[xw]).1 = qz := ⟨_, rfl⟩
          have Hua := Lib.hid Hua0
          clear Hua0
          obtain ⟨ub, Hub0⟩ : ∃ qz, (G.E[xw]).2.1 = qz := ⟨_, rfl⟩
          have Hub := Lib.hid Hub0
          clear Hub0
          obtain ⟨uc, Huc0⟩ : ∃ qz, (G.E[xw]).2.2 = qz := ⟨_, rfl⟩
          have Huc := Lib.hid Huc0
          clear Huc0
          obtain ⟨dx, HDX0⟩ : ∃ qz, d[er] = qz := ⟨_, rfl⟩
          have HDX := Lib.hid HDX0
          clear HDX0
          obtain ⟨bv_, HCB0⟩ : ∃ qz, (shutL n2 sh)[xw] = qz := ⟨_, rfl⟩
          have HCB := Lib.hid HCB0
          clear HCB0
          rw [HCB.out] at hca
          rw [Huc.out] at ht hwb
          rw [Huc.out, Hub.out, HDX.out] at hle
          have hw1 := hwb.1
          have hw2 := hwb.2
          clear hwb hsb hat hl40 hxo
          have HXW := Lib.hid hxw
          have HT := Lib.hid ht
          have HCN := Lib.hid hcn
          have HLE := Lib.hid hle
          have HCA := Lib.hid hca
          have HS0 := Lib.hid hs
          clear hxw ht hcn hle hca hs hop hxe
          obtain ⟨fb, fo, hpl, e0⟩ := rd1 (HS.out.now).2.1 i0 hil
          have hix := fun wx => run_indexS (P := Try.prog) wx 22 3 iI 1 Try.underlying22 hiI hsI aw lw cw i0 hli ((HS.out.now).2.1.some_ (by have := hli; omega))
          rw [hpl] at hix
          have HIf := Lib.hid hix
          clear hix hpl
          rw [HXW.out] at e0
          replace HS := Lib.hid ((Ev.cell e0).and HS.out)
          clear e0
          obtain ⟨cb, co, hpl, e0⟩ := rdb (HS.out.now).2.2.2.2.2.1 xw hxc
          have hix := fun wx => run_indexS (P := Try.prog) wx 23 4 iB 1 Try.underlying23 hiB hsB ac n2 cc xw hxn ((HS.out.now).2.2.2.2.2.1.some_ (by have := hxn; omega))
          rw [hpl] at hix
          have HIc := Lib.hid hix
          clear hix hpl
          rw [HCB.out] at e0
          replace HS := Lib.hid ((Ev.cell e0).and HS.out)
          clear e0
          obtain ⟨gb, go, hpl, e0⟩ := rd1 (HS.out.now).2.2.2.2.2.1 er herd
          have hix := fun wx => run_indexS (P := Try.prog) wx 22 3 iI 1 Try.underlying22 hiI hsI ax n2 cx er hern ((HS.out.now).2.2.2.2.2.1.some_ (by have := hern; omega))
          rw [hpl] at hix
          have HIg := Lib.hid hix
          clear hix hpl
          rw [HDX.out] at e0
          replace HS := Lib.hid ((Ev.cell e0).and HS.out)
          clear e0
          obtain ⟨hb, ho, hpl, e0, e1, e2⟩ := rd3 (HS.out.now).2.2.2.2.2.2.2.2.2.2.1.re xw hxE
          have hix := fun wx => run_indexS (P := Try.prog) wx 26 43 iE 3 Try.underlying26 hiE hsE a2 n2 d2 xw hxn ((HS.out.now).2.2.2.2.2.2.2.2.2.2.1.re.some_ (by have := hxn; omega))
          rw [hpl] at hix
          have HIh := Lib.hid hix
          clear hix hpl
          rw [Hua.out] at e0
          replace HS := Lib.hid ((Ev.cell e0).and HS.out)
          clear e0
          rw [Hub.out] at e1
          replace HS := Lib.hid ((Ev.cell e1).and HS.out)
          clear e1
          rw [Huc.out] at e2
          replace HS := Lib.hid ((Ev.cell e2).and HS.out)
          clear e2
          cases bv_ with
          | true =>
            have qf := (HS.out.now).2.2.2.2.2.1
            have qc := (HS.out.now).2.2.2.2.1
            have hix1 := HIf.out
            have hix2 := HIc.out
            go_wp2_with fail
            refine (awake11_any _).mono ?_
            rintro e wq17 ⟨rfl, hmz⟩
            replace HS := Lib.hid (HS.out.step hmz)
            clear hmz
            clear qbg_0 qbg_1 qbg_2 lbg
            have hbbg := (HS.out.now).2.2.2.2.2.2.2.2.2.2.2.1
            have qbg_0 := hbbg.cell 0 rfl
            have qbg_1 := hbbg.cell 1 rfl
            have qbg_2 := hbbg.cell 2 rfl
            have lbg := hbbg.lt
            clear hbbg
            go_wp2_with fail
            go_ret
            exact ⟨rfl, (HS.out.now).2.2.2.2.2.2.2.2.2.2.2.2.2.2.2.2.2⟩
          | false =>
            have qf := (HS.out.now).2.2.2.2.2.1
            have qc := (HS.out.now).2.2.2.2.1
            have hix1 := HIf.out
            have hix2 := HIc.out
            have hno : ∀ x ∈ ws.take (i0 + 1), clB (shutL n2 sh) x = false := fun x hx => (HCN.out x hx).elim id (fun h => by rw [h]; exact HCA.out)
            have HNO := Lib.hid hno
            clear hno
            go_upto_region 33 with fail
            clear qf qc hix1 hix2 z0
            go_upto_region 33 with fail
            clear qbg_0 qbg_1 qbg_2 lbg
            have HSd := Lib.hid HS.out.drew
            have HST : ∀ (ix : Nat) (vx : Value) (wx wy : World), factOf (de_r33_7_F i0 xw s0 uc a2 n2 d2 bg fb fo hb ho lw cw aw) ix vx wx → Mod (fun _ => False) wx wy → factOf (de_r33_7_F i0 xw s0 uc a2 n2 d2 bg fb fo hb ho lw cw aw) ix vx wy := by
              refine fact_stays ?_
              intro f hf
              simp only [de_r33_7_F, List.mem_cons, List.not_mem_nil, or_false] at hf
              rcases hf with rfl | rfl | rfl | rfl | rfl | rfl | rfl | rfl | rfl | rfl | rfl <;> first | exact stable_val _ | exact stable_new
            have HSO : ∀ px ∈ (de_r33_7_F i0 xw s0 uc a2 n2 d2 bg fb fo hb ho lw cw aw), px.1 = true → ∀ (vx : Value) (wx wy : World), px.2 vx wx → px.2 vx wy := by
              intro f hf
              simp only [de_r33_7_F, List.mem_cons, List.not_mem_nil, or_false] at hf
              rcases hf with rfl | rfl | rfl | rfl | rfl | rfl | rfl | rfl | rfl | rfl | rfl <;> first | exact fun _ _ _ _ h => h | (intro h; cases h)
            refine wp_region_mut (Mod (fun _ => False)) (factOf (de_r33_7_F i0 xw s0 uc a2 n2 d2 bg fb fo hb ho lw cw aw)) (fun i => de_r33_7_C.getD i 1000) (Mod (fun _ => False) (World.drew wl)) 10 (fun i => de_r33_7_D.getD i []) 11 _ rfl rfl (by kernel_rfl) (by kernel_rfl) (by kernel_rfl) (by kernel_rfl) (by kernel_rfl) (fun _ => Mod.refl _ _)
              (fun _ _ _ h k => h.trans k (fun _ _ e => e) (fun _ _ e => e)) (Mod.refl _ _) ?_ ?_
            · refine opsOkM_cons ?_ ?_
              · intro K vs W hR hD hI hL hK
                clear hD
                have dqL : vs 11 = .int .i64 s0 := hL
                clear hL
                replace hI := hI (.inr (by kernel_rfl))
                simp only [putAll, Nat.zero_add, Nat.reduceAdd, Act.put, List.setIfInBounds_toArray, List.set_cons_succ, List.set_cons_zero] at hK ⊢
                generalize vs 11 = vqL at hK dqL ⊢
                subst vqL
                go_wp2
                exact hK _ _ rfl (fun _ _ _ h => h) (fun _ _ h => h) (Mod.refl _ _)
              refine opsOkM_cons ?_ ?_
              · intro K vs W hR hD hI hL hK
                clear hD
                clear hL
                replace hI := hI (.inr (by kernel_rfl))
                simp only [putAll, Nat.zero_add, Nat.reduceAdd, Act.put, List.setIfInBounds_toArray, List.set_cons_succ, List.set_cons_zero] at hK ⊢
                go_wp2
                exact hK _ _ rfl (fun _ _ _ h => h) (fun _ _ h => h) (Mod.refl _ _)
              refine opsOkM_cons ?_ ?_
              · intro K vs W hR hD hI hL hK
                have dq1 : vs 1 = .pointer (some ⟨bg, 1, none⟩) := hD 1 (by decide)
                clear hD
                clear hL
                replace hI := hI (.inr (by kernel_rfl))
                simp only [putAll, Nat.zero_add, Nat.reduceAdd, Act.put, List.setIfInBounds_toArray, List.set_cons_succ, List.set_cons_zero] at hK ⊢
                generalize vs 1 = vq1 at hK dq1 ⊢
                subst vq1
                have q0 := ((HSd.out.at (hI)).2.2.2.2.2.2.2.2.2.2.2.1).cell 1 rfl
                go_wp2
                exact hK _ _ rfl (fun _ _ _ h => h) (fun _ _ h => h) (Mod.refl _ _)
              refine opsOkM_cons ?_ ?_
              · intro K vs W hR hD hI hL hK
                clear hD
                clear hL
                replace hI := hI (.inr (by kernel_rfl))
                simp only [putAll, Nat.zero_add, Nat.reduceAdd, Act.put, List.setIfInBounds_toArray, List.set_cons_succ, List.set_cons_zero] at hK ⊢
                go_wp2
                exact hK _ _ rfl (fun _ _ _ h => h) (fun _ _ h => h) (Mod.refl _ _)
              refine opsOkM_cons ?_ ?_
              · intro K vs W hR hD hI hL hK
                clear hD
                clear hL
                replace hI := hI (.inr (by kernel_rfl))
                simp only [putAll, Nat.zero_add, Nat.reduceAdd, Act.put, List.setIfInBounds_toArray, List.set_cons_succ, List.set_cons_zero] at hK ⊢
                go_wp2
                exact hK _ _ rfl (fun _ _ _ h => h) (fun _ _ h => h) (Mod.refl _ _)
              refine opsOkM_cons ?_ ?_
              · intro K vs W hR hD hI hL hK
                have dq3 : vs 3 = .slice aw lw cw := hD 3 (by decide)
                have dq4 : vs 4 = .int .i64 (i0 : Int) := hD 4 (by decide)
                clear hD
                clear hL
                replace hI := hI (.inr (by kernel_rfl))
                simp only [putAll, Nat.zero_add, Nat.reduceAdd, Act.put, List.setIfInBounds_toArray, List.set_cons_succ, List.set_cons_zero] at hK ⊢
                generalize vs 3 = vq3 at hK dq3 ⊢
                subst vq3
                generalize vs 4 = vq4 at hK dq4 ⊢
                subst vq4
                have hix := HIf.out
                go_wp2_with fail
                exact hK _ _ rfl (fun _ _ _ h => h) (fun _ _ h => h) (Mod.refl _ _)
              refine opsOkM_cons ?_ ?_
              · intro K vs W hR hD hI hL hK
                have dq5 : vs 5 = .pointer (some ⟨fb, fo, none⟩) := hD 5 (by decide)
                clear hD
                clear hL
                replace hI := hI (.inr (by kernel_rfl))
                simp only [putAll, Nat.zero_add, Nat.reduceAdd, Act.put, List.setIfInBounds_toArray, List.set_cons_succ, List.set_cons_zero] at hK ⊢
                generalize vs 5 = vq5 at hK dq5 ⊢
                subst vq5
                have c0 := (HSd.out.at (hI)).2.2.2.2.2.1
                go_wp2
                exact hK _ _ rfl (fun _ _ _ h => h) (fun _ _ h => h) (Mod.refl _ _)
              refine opsOkM_cons ?_ ?_
              · intro K vs W hR hD hI hL hK
                have dq2 : vs 2 = .slice a2 n2 d2 := hD 2 (by decide)
                have dq6 : vs 6 = .int .i64 (xw : Int) := hD 6 (by decide)
                clear hD
                clear hL
                replace hI := hI (.inr (by kernel_rfl))
                simp only [putAll, Nat.zero_add, Nat.reduceAdd, Act.put, List.setIfInBounds_toArray, List.set_cons_succ, List.set_cons_zero] at hK ⊢
                generalize vs 2 = vq2 at hK dq2 ⊢
                subst vq2
                generalize vs 6 = vq6 at hK dq6 ⊢
                subst vq6
                have hix := HIh.out
                go_wp2_with fail
                exact hK _ _ rfl (fun _ _ _ h => h) (fun _ _ h => h) (Mod.refl _ _)
              refine opsOkM_cons ?_ ?_
              · intro K vs W hR hD hI hL hK
                have dq7 : vs 7 = .pointer (some ⟨hb, ho, none⟩) := hD 7 (by decide)
                clear hD
                clear hL
                replace hI := hI (.inr (by kernel_rfl))
                simp only [putAll, Nat.zero_add, Nat.reduceAdd, Act.put, List.setIfInBounds_toArray, List.set_cons_succ, List.set_cons_zero] at hK ⊢
                generalize vs 7 = vq7 at hK dq7 ⊢
                subst vq7
                go_wp2
                exact hK _ _ rfl (fun _ _ _ h => h) (fun _ _ h => h) (Mod.refl _ _)
              refine opsOkM_cons ?_ ?_
              · intro K vs W hR hD hI hL hK
                have dq8 : vs 8 = .pointer (some ⟨hb, ho + 2, none⟩) := hD 8 (by decide)
                clear hD
                clear hL
                replace hI := hI (.inr (by kernel_rfl))
                simp only [putAll, Nat.zero_add, Nat.reduceAdd, Act.put, List.setIfInBounds_toArray, List.set_cons_succ, List.set_cons_zero] at hK ⊢
                generalize vs 8 = vq8 at hK dq8 ⊢
                subst vq8
                have c2 := (HSd.out.at (hI)).1
                go_wp2
                exact hK _ _ rfl (fun _ _ _ h => h) (fun _ _ h => h) (Mod.refl _ _)
              refine opsOkM_cons ?_ ?_
              · intro K vs W hR hD hI hL hK
                have dq0 : vs 0 = .int .i64 s0 := hD 0 (by decide)
                have dq9 : vs 9 = .int .i64 uc := hD 9 (by decide)
                clear hD
                clear hL
                replace hI := hI (.inl rfl)
                simp only [putAll, Nat.zero_add, Nat.reduceAdd, Act.put, List.setIfInBounds_toArray, List.set_cons_succ, List.set_cons_zero] at hK ⊢
                generalize vs 0 = vq0 at hK dq0 ⊢
                subst vq0
                generalize vs 9 = vq9 at hK dq9 ⊢
                subst vq9
                go_wp2
                exact hK _ _ rfl (fun _ _ _ h => h) (fun h _ => absurd rfl h) (Mod.refl _ _)
              exact opsOkM_nil
            · intro vs wq18 hR hF
              have dq10 : vs 10 = .int .i64 (s0 + uc) := hF 10 (by decide) (by decide)
              clear hF
              simp only [putAll, Nat.zero_add, Nat.reduceAdd, Act.put, List.setIfInBounds_toArray, List.set_cons_succ, List.set_cons_zero]
              generalize vs 10 = vq10 at dq10 ⊢
              subst vq10
              replace HS := Lib.hid (HSd.out.step hR)
              clear HSd hR
              have hbbg := (HS.out.now).2.2.2.2.2.2.2.2.2.2.2.1
              have qbg_0 := hbbg.cell 0 rfl
              have qbg_1 := hbbg.cell 1 rfl
              have qbg_2 := hbbg.cell 2 rfl
              have lbg := hbbg.lt
              clear hbbg
              go_upto_region 34 with fail
              by_cases c1 : ub = (vr : Int)
              case neg =>
                have Z10 := Lib.hid (show (ub == (vr : Int)) = false from beq_eq_false_iff_ne.2 c1)
                clear c1
                clear qbg_0 qbg_1 qbg_2 lbg
                have HSd := Lib.hid HS.out.drew
                refine wp_region_inv3 (act := ?actde_r34_8) (Mod (fun _ => False)) (fun i => (de_r34_8_F i0 xw a2 n2 d2 bg vr ub fb fo hb ho lw cw aw).getD i (fun _ _ => True)) (fun i => de_r34_8_D.getD i []) (by kernel_rfl) (by kernel_rfl) (by kernel_rfl) (by kernel_rfl) (fun _ => Mod.refl _ _)
                  (fun _ _ _ h k => h.trans k (fun _ _ e => e) (fun _ _ e => e)) ?hactde_r34_8 (stable_list ?_) ?_ ?_
                case hactde_r34_8 => intro vs; simp only [putAll, Nat.zero_add, Nat.reduceAdd, Act.put, List.setIfInBounds_toArray, List.set_cons_succ, List.set_cons_zero]; exact rfl
                · unfold de_r34_8_F
                  exact stable_cons (stable_val _) <| stable_cons (stable_val _) <| stable_cons (stable_val _) <| stable_cons (stable_val _) <| stable_cons (stable_val _) <| stable_cons (stable_val _) <| stable_cons (stable_val _) <| stable_cons (stable_val _) <| stable_cons (stable_val _) <| stable_cons (stable_val _) <| stable_cons (stable_val _) <| stable_cons (stable_val _) <| stable_cons (stable_val _) <| stable_cons (stable_val _) <| stable_cons (stable_val _) <| stable_cons (stable_val _) <| stable_cons (stable_val _) <| stable_cons (stable_val _) <| stable_cons (stable_val _) <| stable_cons (stable_val _) <| stable_cons (stable_val _) <| stable_cons (stable_val _) <| stable_cons (stable_val _) <| stable_cons (stable_val _) <| stable_cons (stable_val _) <| stable_cons (stable_val _) <| stable_nil
                · refine opsOkA_cons ?_ ?_
                  · intro K vs W hR hD hK
                    clear hD
                    try dsimp only at hK ⊢
                    simp only [Act.put, List.setIfInBounds_toArray, List.set_cons_succ, List.set_cons_zero] at hK
                    go_wp2
                    exact hK _ _ rfl (Mod.refl _ _)
                  refine opsOkA_cons ?_ ?_
                  · intro K vs W hR hD hK
                    have dq0 : vs 0 = .pointer (some ⟨bg, 1, none⟩) := hD 0 (by decide)
                    clear hD
                    try dsimp only at hK ⊢
                    simp only [Act.put, List.setIfInBounds_toArray, List.set_cons_succ, List.set_cons_zero] at hK
                    generalize vs 0 = vq0 at hK dq0 ⊢
                    subst vq0
                    have q0 := ((HSd.out.at (hR)).2.2.2.2.2.2.2.2.2.2.2.1).cell 1 rfl
                    go_wp2
                    exact hK _ _ rfl (Mod.refl _ _)
                  refine opsOkA_cons ?_ ?_
                  · intro K vs W hR hD hK
                    clear hD
                    try dsimp only at hK ⊢
                    simp only [Act.put, List.setIfInBounds_toArray, List.set_cons_succ, List.set_cons_zero] at hK
                    go_wp2
                    exact hK _ _ rfl (Mod.refl _ _)
                  refine opsOkA_cons ?_ ?_
                  · intro K vs W hR hD hK
                    clear hD
                    try dsimp only at hK ⊢
                    simp only [Act.put, List.setIfInBounds_toArray, List.set_cons_succ, List.set_cons_zero] at hK
                    go_wp2
                    exact hK _ _ rfl (Mod.refl _ _)
                  refine opsOkA_cons ?_ ?_
                  · intro K vs W hR hD hK
                    have dq2 : vs 2 = .slice aw lw cw := hD 2 (by decide)
                    have dq3 : vs 3 = .int .i64 (i0 : Int) := hD 3 (by decide)
                    clear hD
                    try dsimp only at hK ⊢
                    simp only [Act.put, List.setIfInBounds_toArray, List.set_cons_succ, List.set_cons_zero] at hK
                    generalize vs 2 = vq2 at hK dq2 ⊢
                    subst vq2
                    generalize vs 3 = vq3 at hK dq3 ⊢
                    subst vq3
                    have hix := HIf.out
                    go_wp2_with fail
                    exact hK _ _ rfl (Mod.refl _ _)
                  refine opsOkA_cons ?_ ?_
                  · intro K vs W hR hD hK
                    have dq4 : vs 4 = .pointer (some ⟨fb, fo, none⟩) := hD 4 (by decide)
                    clear hD
                    try dsimp only at hK ⊢
                    simp only [Act.put, List.setIfInBounds_toArray, List.set_cons_succ, List.set_cons_zero] at hK
                    generalize vs 4 = vq4 at hK dq4 ⊢
                    subst vq4
                    have c0 := (HSd.out.at (hR)).2.2.2.2.2.1
                    go_wp2
                    exact hK _ _ rfl (Mod.refl _ _)
                  refine opsOkA_cons ?_ ?_
                  · intro K vs W hR hD hK
                    have dq1 : vs 1 = .slice a2 n2 d2 := hD 1 (by decide)
                    have dq5 : vs 5 = .int .i64 (xw : Int) := hD 5 (by decide)
                    clear hD
                    try dsimp only at hK ⊢
                    simp only [Act.put, List.setIfInBounds_toArray, List.set_cons_succ, List.set_cons_zero] at hK
                    generalize vs 1 = vq1 at hK dq1 ⊢
                    subst vq1
                    generalize vs 5 = vq5 at hK dq5 ⊢
                    subst vq5
                    have hix := HIh.out
                    go_wp2_with fail
                    exact hK _ _ rfl (Mod.refl _ _)
                  refine opsOkA_cons ?_ ?_
                  · intro K vs W hR hD hK
                    have dq6 : vs 6 = .pointer (some ⟨hb, ho, none⟩) := hD 6 (by decide)
                    clear hD
                    try dsimp only at hK ⊢
                    simp only [Act.put, List.setIfInBounds_toArray, List.set_cons_succ, List.set_cons_zero] at hK
                    generalize vs 6 = vq6 at hK dq6 ⊢
                    subst vq6
                    go_wp2
                    exact hK _ _ rfl (Mod.refl _ _)
                  refine opsOkA_cons ?_ ?_
                  · intro K vs W hR hD hK
                    have dq7 : vs 7 = .pointer (some ⟨hb, ho + 1, none⟩) := hD 7 (by decide)
                    clear hD
                    try dsimp only at hK ⊢
                    simp only [Act.put, List.setIfInBounds_toArray, List.set_cons_succ, List.set_cons_zero] at hK
                    generalize vs 7 = vq7 at hK dq7 ⊢
                    subst vq7
                    have c1 := (HSd.out.at (hR)).2.1
                    go_wp2
                    exact hK _ _ rfl (Mod.refl _ _)
                  refine opsOkA_cons ?_ ?_
                  · intro K vs W hR hD hK
                    clear hD
                    try dsimp only at hK ⊢
                    simp only [Act.put, List.setIfInBounds_toArray, List.set_cons_succ, List.set_cons_zero] at hK
                    go_wp2
                    exact hK _ _ rfl (Mod.refl _ _)
                  refine opsOkA_cons ?_ ?_
                  · intro K vs W hR hD hK
                    have dq8 : vs 8 = .int .i64 ub := hD 8 (by decide)
                    have dq9 : vs 9 = .int .i64 (vr : Int) := hD 9 (by decide)
                    clear hD
                    try dsimp only at hK ⊢
                    simp only [Act.put, List.setIfInBounds_toArray, List.set_cons_succ, List.set_cons_zero] at hK
                    generalize vs 8 = vq8 at hK dq8 ⊢
                    subst vq8
                    generalize vs 9 = vq9 at hK dq9 ⊢
                    subst vq9
                    have zz := Z10.out
                    go_wp2
                    exact hK _ _ rfl (Mod.refl _ _)
                  refine opsOkA_cons ?_ ?_
                  · intro K vs W hR hD hK
                    have dq10 : vs 10 = .bool false := hD 10 (by decide)
                    clear hD
                    try dsimp only at hK ⊢
                    simp only [Act.put, List.setIfInBounds_toArray, List.set_cons_succ, List.set_cons_zero] at hK
                    generalize vs 10 = vq10 at hK dq10 ⊢
                    subst vq10
                    go_wp2
                    exact hK _ _ rfl (Mod.refl _ _)
                  refine opsOkA_cons ?_ ?_
                  · intro K vs W hR hD hK
                    have dq11 : vs 11 = .bool false := hD 11 (by decide)
                    clear hD
                    try dsimp only at hK ⊢
                    simp only [Act.put, List.setIfInBounds_toArray, List.set_cons_succ, List.set_cons_zero] at hK
                    generalize vs 11 = vq11 at hK dq11 ⊢
                    subst vq11
                    go_wp2
                    exact hK _ _ rfl (Mod.refl _ _)
                  refine opsOkA_cons ?_ ?_
                  · intro K vs W hR hD hK
                    have dq11 : vs 11 = .bool false := hD 11 (by decide)
                    clear hD
                    try dsimp only at hK ⊢
                    simp only [Act.put, List.setIfInBounds_toArray, List.set_cons_succ, List.set_cons_zero] at hK
                    generalize vs 11 = vq11 at hK dq11 ⊢
                    subst vq11
                    go_wp2
                    exact hK _ _ rfl (Mod.refl _ _)
                  refine opsOkA_cons ?_ ?_
                  · intro K vs W hR hD hK
                    have dq11 : vs 11 = .bool false := hD 11 (by decide)
                    clear hD
                    try dsimp only at hK ⊢
                    simp only [Act.put, List.setIfInBounds_toArray, List.set_cons_succ, List.set_cons_zero] at hK
                    generalize vs 11 = vq11 at hK dq11 ⊢
                    subst vq11
                    go_wp2_with fail
                    exact hK _ _ rfl (Mod.refl _ _)
                  refine opsOkA_cons ?_ ?_
                  · intro K vs W hR hD hK
                    have dq11 : vs 11 = .bool false := hD 11 (by decide)
                    clear hD
                    try dsimp only at hK ⊢
                    simp only [Act.put, List.setIfInBounds_toArray, List.set_cons_succ, List.set_cons_zero] at hK
                    generalize vs 11 = vq11 at hK dq11 ⊢
                    subst vq11
                    go_wp2
                    exact hK _ _ rfl (Mod.refl _ _)
                  refine opsOkA_cons ?_ ?_
                  · intro K vs W hR hD hK
                    have dq11 : vs 11 = .bool false := hD 11 (by decide)
                    clear hD
                    try dsimp only at hK ⊢
                    simp only [Act.put, List.setIfInBounds_toArray, List.set_cons_succ, List.set_cons_zero] at hK
                    generalize vs 11 = vq11 at hK dq11 ⊢
                    subst vq11
                    go_wp2
                    exact hK _ _ rfl (Mod.refl _ _)
                  refine opsOkA_cons ?_ ?_
                  · intro K vs W hR hD hK
                    have dq11 : vs 11 = .bool false := hD 11 (by decide)
                    clear hD
                    try dsimp only at hK ⊢
                    simp only [Act.put, List.setIfInBounds_toArray, List.set_cons_succ, List.set_cons_zero] at hK
                    generalize vs 11 = vq11 at hK dq11 ⊢
                    subst vq11
                    go_wp2
                    exact hK _ _ rfl (Mod.refl _ _)
                  refine opsOkA_cons ?_ ?_
                  · intro K vs W hR hD hK
                    have dq17 : vs 17 = undef := hD 17 (by decide)
                    clear hD
                    try dsimp only at hK ⊢
                    simp only [Act.put, List.setIfInBounds_toArray, List.set_cons_succ, List.set_cons_zero] at hK
                    generalize vs 17 = vq17 at hK dq17 ⊢
                    subst vq17
                    go_wp2
                    exact hK _ _ rfl (Mod.refl _ _)
                  refine opsOkA_cons ?_ ?_
                  · intro K vs W hR hD hK
                    have dq17 : vs 17 = undef := hD 17 (by decide)
                    clear hD
                    try dsimp only at hK ⊢
                    simp only [Act.put, List.setIfInBounds_toArray, List.set_cons_succ, List.set_cons_zero] at hK
                    generalize vs 17 = vq17 at hK dq17 ⊢
                    subst vq17
                    go_wp2
                    exact hK _ _ rfl (Mod.refl _ _)
                  refine opsOkA_cons ?_ ?_
                  · intro K vs W hR hD hK
                    have dq17 : vs 17 = undef := hD 17 (by decide)
                    clear hD
                    try dsimp only at hK ⊢
                    simp only [Act.put, List.setIfInBounds_toArray, List.set_cons_succ, List.set_cons_zero] at hK
                    generalize vs 17 = vq17 at hK dq17 ⊢
                    subst vq17
                    go_wp2_with fail
                    exact hK _ _ rfl (Mod.refl _ _)
                  refine opsOkA_cons ?_ ?_
                  · intro K vs W hR hD hK
                    have dq17 : vs 17 = undef := hD 17 (by decide)
                    clear hD
                    try dsimp only at hK ⊢
                    simp only [Act.put, List.setIfInBounds_toArray, List.set_cons_succ, List.set_cons_zero] at hK
                    generalize vs 17 = vq17 at hK dq17 ⊢
                    subst vq17
                    go_wp2
                    exact hK _ _ rfl (Mod.refl _ _)
                  refine opsOkA_cons ?_ ?_
                  · intro K vs W hR hD hK
                    have dq17 : vs 17 = undef := hD 17 (by decide)
                    clear hD
                    try dsimp only at hK ⊢
                    simp only [Act.put, List.setIfInBounds_toArray, List.set_cons_succ, List.set_cons_zero] at hK
                    generalize vs 17 = vq17 at hK dq17 ⊢
                    subst vq17
                    go_wp2
                    exact hK _ _ rfl (Mod.refl _ _)
                  refine opsOkA_cons ?_ ?_
                  · intro K vs W hR hD hK
                    have dq17 : vs 17 = undef := hD 17 (by decide)
                    clear hD
                    try dsimp only at hK ⊢
                    simp only [Act.put, List.setIfInBounds_toArray, List.set_cons_succ, List.set_cons_zero] at hK
                    generalize vs 17 = vq17 at hK dq17 ⊢
                    subst vq17
                    go_wp2
                    exact hK _ _ rfl (Mod.refl _ _)
                  refine opsOkA_cons ?_ ?_
                  · intro K vs W hR hD hK
                    have dq11 : vs 11 = .bool false := hD 11 (by decide)
                    clear hD
                    try dsimp only at hK ⊢
                    simp only [Act.put, List.setIfInBounds_toArray, List.set_cons_succ, List.set_cons_zero] at hK
                    generalize vs 11 = vq11 at hK dq11 ⊢
                    subst vq11
                    go_wp2
                    exact hK _ _ rfl (Mod.refl _ _)
                  refine opsOkA_cons ?_ ?_
                  · intro K vs W hR hD hK
                    have dq11 : vs 11 = .bool false := hD 11 (by decide)
                    have dq24 : vs 24 = undef := hD 24 (by decide)
                    clear hD
                    try dsimp only at hK ⊢
                    simp only [Act.put, List.setIfInBounds_toArray, List.set_cons_succ, List.set_cons_zero] at hK
                    generalize vs 11 = vq11 at hK dq11 ⊢
                    subst vq11
                    generalize vs 24 = vq24 at hK dq24 ⊢
                    subst vq24
                    go_wp2
                    exact hK _ _ rfl (Mod.refl _ _)
                  exact opsOkA_nil
                · intro vs wq19 hR hF
                  have dq25 : vs 25 = .bool false := hF 25 (by decide)
                  clear hF
                  try dsimp only
                  generalize vs 25 = vq25 at dq25 ⊢
                  subst dq25
                  replace HS := Lib.hid (HSd.out.step hR)
                  clear HSd hR
                  have hbbg := (HS.out.now).2.2.2.2.2.2.2.2.2.2.2.1
                  have qbg_0 := hbbg.cell 0 rfl
                  have qbg_1 := hbbg.cell 1 rfl
                  have qbg_2 := hbbg.cell 2 rfl
                  have lbg := hbbg.lt
                  clear hbbg
                  go_wp2_with fail
                  go_roundw
                  case rel => exact ⟨i0 + 1, s0 + uc, hli, by go_num, rfl, HT.out.symm, HNO.out, (HS.out.now).2.2.2.2.2.2.1⟩
                  case measure => simp [intOf]; omega
              case pos =>
                have Z10 := Lib.hid (show (ub == (vr : Int)) = true from by rw [c1]; simp)
                have hle := HLE.out HNO.out c1
                have Z16 := Lib.hid (show decide (dx < 0) = false from by simp; omega)
                have Z23 := Lib.hid (show decide (s0 + uc < dx) = false from by simp; omega)
                clear hle
                clear c1
                clear qbg_0 qbg_1 qbg_2 lbg
                have HSd := Lib.hid HS.out.drew
                refine wp_region_inv3 (act := ?actde_r34_9) (Mod (fun _ => False)) (fun i => (de_r34_9_F i0 xw er s0 dx uc a2 n2 d2 bg vr ax cx ub fb fo gb go hb ho lw cw aw).getD i (fun _ _ => True)) (fun i => de_r34_9_D.getD i []) (by kernel_rfl) (by kernel_rfl) (by kernel_rfl) (by kernel_rfl) (fun _ => Mod.refl _ _)
                  (fun _ _ _ h k => h.trans k (fun _ _ e => e) (fun _ _ e => e)) ?hactde_r34_9 (stable_list ?_) ?_ ?_
                case hactde_r34_9 => intro vs; simp only [putAll, Nat.zero_add, Nat.reduceAdd, Act.put, List.setIfInBounds_toArray, List.set_cons_succ, List.set_cons_zero]; exact rfl
                · unfold de_r34_9_F
                  exact stable_cons (stable_val _) <| stable_cons (stable_val _) <| stable_cons (stable_val _) <| stable_cons (stable_val _) <| stable_cons (stable_val _) <| stable_cons (stable_val _) <| stable_cons (stable_val _) <| stable_cons (stable_val _) <| stable_cons (stable_val _) <| stable_cons (stable_val _) <| stable_cons (stable_val _) <| stable_cons (stable_val _) <| stable_cons (stable_val _) <| stable_cons (stable_val _) <| stable_cons (stable_val _) <| stable_cons (stable_val _) <| stable_cons (stable_val _) <| stable_cons (stable_val _) <| stable_cons (stable_val _) <| stable_cons (stable_val _) <| stable_cons (stable_val _) <| stable_cons (stable_val _) <| stable_cons (stable_val _) <| stable_cons (stable_val _) <| stable_cons (stable_val _) <| stable_cons (stable_val _) <| stable_nil
                · refine opsOkA_cons ?_ ?_
                  · intro K vs W hR hD hK
                    clear hD
                    try dsimp only at hK ⊢
                    simp only [Act.put, List.setIfInBounds_toArray, List.set_cons_succ, List.set_cons_zero] at hK
                    go_wp2
                    exact hK _ _ rfl (Mod.refl _ _)
                  refine opsOkA_cons ?_ ?_
                  · intro K vs W hR hD hK
                    have dq0 : vs 0 = .pointer (some ⟨bg, 1, none⟩) := hD 0 (by decide)
                    clear hD
                    try dsimp only at hK ⊢
                    simp only [Act.put, List.setIfInBounds_toArray, List.set_cons_succ, List.set_cons_zero] at hK
                    generalize vs 0 = vq0 at hK dq0 ⊢
                    subst vq0
                    have q0 := ((HSd.out.at (hR)).2.2.2.2.2.2.2.2.2.2.2.1).cell 1 rfl
                    go_wp2
                    exact hK _ _ rfl (Mod.refl _ _)
                  refine opsOkA_cons ?_ ?_
                  · intro K vs W hR hD hK
                    clear hD
                    try dsimp only at hK ⊢
                    simp only [Act.put, List.setIfInBounds_toArray, List.set_cons_succ, List.set_cons_zero] at hK
                    go_wp2
                    exact hK _ _ rfl (Mod.refl _ _)
                  refine opsOkA_cons ?_ ?_
                  · intro K vs W hR hD hK
                    clear hD
                    try dsimp only at hK ⊢
                    simp only [Act.put, List.setIfInBounds_toArray, List.set_cons_succ, List.set_cons_zero] at hK
                    go_wp2
                    exact hK _ _ rfl (Mod.refl _ _)
                  refine opsOkA_cons ?_ ?_
                  · intro K vs W hR hD hK
                    have dq2 : vs 2 = .slice aw lw cw := hD 2 (by decide)
                    have dq3 : vs 3 = .int .i64 (i0 : Int) := hD 3 (by decide)
                    clear hD
                    try dsimp only at hK ⊢
                    simp only [Act.put, List.setIfInBounds_toArray, List.set_cons_succ, List.set_cons_zero] at hK
                    generalize vs 2 = vq2 at hK dq2 ⊢
                    subst vq2
                    generalize vs 3 = vq3 at hK dq3 ⊢
                    subst vq3
                    have hix := HIf.out
                    go_wp2_with fail
                    exact hK _ _ rfl (Mod.refl _ _)
                  refine opsOkA_cons ?_ ?_
                  · intro K vs W hR hD hK
                    have dq4 : vs 4 = .pointer (some ⟨fb, fo, none⟩) := hD 4 (by decide)
                    clear hD
                    try dsimp only at hK ⊢
                    simp only [Act.put, List.setIfInBounds_toArray, List.set_cons_succ, List.set_cons_zero] at hK
                    generalize vs 4 = vq4 at hK dq4 ⊢
                    subst vq4
                    have c0 := (HSd.out.at (hR)).2.2.2.2.2.1
                    go_wp2
                    exact hK _ _ rfl (Mod.refl _ _)
                  refine opsOkA_cons ?_ ?_
                  · intro K vs W hR hD hK
                    have dq1 : vs 1 = .slice a2 n2 d2 := hD 1 (by decide)
                    have dq5 : vs 5 = .int .i64 (xw : Int) := hD 5 (by decide)
                    clear hD
                    try dsimp only at hK ⊢
                    simp only [Act.put, List.setIfInBounds_toArray, List.set_cons_succ, List.set_cons_zero] at hK
                    generalize vs 1 = vq1 at hK dq1 ⊢
                    subst vq1
                    generalize vs 5 = vq5 at hK dq5 ⊢
                    subst vq5
                    have hix := HIh.out
                    go_wp2_with fail
                    exact hK _ _ rfl (Mod.refl _ _)
                  refine opsOkA_cons ?_ ?_
                  · intro K vs W hR hD hK
                    have dq6 : vs 6 = .pointer (some ⟨hb, ho, none⟩) := hD 6 (by decide)
                    clear hD
                    try dsimp only at hK ⊢
                    simp only [Act.put, List.setIfInBounds_toArray, List.set_cons_succ, List.set_cons_zero] at hK
                    generalize vs 6 = vq6 at hK dq6 ⊢
                    subst vq6
                    go_wp2
                    exact hK _ _ rfl (Mod.refl _ _)
                  refine opsOkA_cons ?_ ?_
                  · intro K vs W hR hD hK
                    have dq7 : vs 7 = .pointer (some ⟨hb, ho + 1, none⟩) := hD 7 (by decide)
                    clear hD
                    try dsimp only at hK ⊢
                    simp only [Act.put, List.setIfInBounds_toArray, List.set_cons_succ, List.set_cons_zero] at hK
                    generalize vs 7 = vq7 at hK dq7 ⊢
                    subst vq7
                    have c1 := (HSd.out.at (hR)).2.1
                    go_wp2
                    exact hK _ _ rfl (Mod.refl _ _)
                  refine opsOkA_cons ?_ ?_
                  · intro K vs W hR hD hK
                    clear hD
                    try dsimp only at hK ⊢
                    simp only [Act.put, List.setIfInBounds_toArray, List.set_cons_succ, List.set_cons_zero] at hK
                    go_wp2
                    exact hK _ _ rfl (Mod.refl _ _)
                  refine opsOkA_cons ?_ ?_
                  · intro K vs W hR hD hK
                    have dq8 : vs 8 = .int .i64 ub := hD 8 (by decide)
                    have dq9 : vs 9 = .int .i64 (vr : Int) := hD 9 (by decide)
                    clear hD
                    try dsimp only at hK ⊢
                    simp only [Act.put, List.setIfInBounds_toArray, List.set_cons_succ, List.set_cons_zero] at hK
                    generalize vs 8 = vq8 at hK dq8 ⊢
                    subst vq8
                    generalize vs 9 = vq9 at hK dq9 ⊢
                    subst vq9
                    have zz := Z10.out
                    go_wp2
                    exact hK _ _ rfl (Mod.refl _ _)
                  refine opsOkA_cons ?_ ?_
                  · intro K vs W hR hD hK
                    have dq10 : vs 10 = .bool true := hD 10 (by decide)
                    clear hD
                    try dsimp only at hK ⊢
                    simp only [Act.put, List.setIfInBounds_toArray, List.set_cons_succ, List.set_cons_zero] at hK
                    generalize vs 10 = vq10 at hK dq10 ⊢
                    subst vq10
                    go_wp2
                    exact hK _ _ rfl (Mod.refl _ _)
                  refine opsOkA_cons ?_ ?_
                  · intro K vs W hR hD hK
                    have dq11 : vs 11 = .bool true := hD 11 (by decide)
                    clear hD
                    try dsimp only at hK ⊢
                    simp only [Act.put, List.setIfInBounds_toArray, List.set_cons_succ, List.set_cons_zero] at hK
                    generalize vs 11 = vq11 at hK dq11 ⊢
                    subst vq11
                    go_wp2
                    exact hK _ _ rfl (Mod.refl _ _)
                  refine opsOkA_cons ?_ ?_
                  · intro K vs W hR hD hK
                    have dq11 : vs 11 = .bool true := hD 11 (by decide)
                    clear hD
                    try dsimp only at hK ⊢
                    simp only [Act.put, List.setIfInBounds_toArray, List.set_cons_succ, List.set_cons_zero] at hK
                    generalize vs 11 = vq11 at hK dq11 ⊢
                    subst vq11
                    go_wp2
                    exact hK _ _ rfl (Mod.refl _ _)
                  refine opsOkA_cons ?_ ?_
                  · intro K vs W hR hD hK
                    have dq11 : vs 11 = .bool true := hD 11 (by decide)
                    have dq12 : vs 12 = .slice ax n2 cx := hD 12 (by decide)
                    have dq13 : vs 13 = .int .i64 (er : Int) := hD 13 (by decide)
                    clear hD
                    try dsimp only at hK ⊢
                    simp only [Act.put, List.setIfInBounds_toArray, List.set_cons_succ, List.set_cons_zero] at hK
                    generalize vs 11 = vq11 at hK dq11 ⊢
                    subst vq11
                    generalize vs 12 = vq12 at hK dq12 ⊢
                    subst vq12
                    generalize vs 13 = vq13 at hK dq13 ⊢
                    subst vq13
                    have hix := HIg.out
                    go_wp2_with fail
                    exact hK _ _ rfl (Mod.refl _ _)
                  refine opsOkA_cons ?_ ?_
                  · intro K vs W hR hD hK
                    have dq11 : vs 11 = .bool true := hD 11 (by decide)
                    have dq14 : vs 14 = .pointer (some ⟨gb, go, none⟩) := hD 14 (by decide)
                    clear hD
                    try dsimp only at hK ⊢
                    simp only [Act.put, List.setIfInBounds_toArray, List.set_cons_succ, List.set_cons_zero] at hK
                    generalize vs 11 = vq11 at hK dq11 ⊢
                    subst vq11
                    generalize vs 14 = vq14 at hK dq14 ⊢
                    subst vq14
                    have c0 := (HSd.out.at (hR)).2.2.2.1
                    go_wp2
                    exact hK _ _ rfl (Mod.refl _ _)
                  refine opsOkA_cons ?_ ?_
                  · intro K vs W hR hD hK
                    have dq11 : vs 11 = .bool true := hD 11 (by decide)
                    have dq15 : vs 15 = .int .i64 dx := hD 15 (by decide)
                    clear hD
                    try dsimp only at hK ⊢
                    simp only [Act.put, List.setIfInBounds_toArray, List.set_cons_succ, List.set_cons_zero] at hK
                    generalize vs 11 = vq11 at hK dq11 ⊢
                    subst vq11
                    generalize vs 15 = vq15 at hK dq15 ⊢
                    subst vq15
                    have zz := Z16.out
                    go_wp2
                    exact hK _ _ rfl (Mod.refl _ _)
                  refine opsOkA_cons ?_ ?_
                  · intro K vs W hR hD hK
                    have dq11 : vs 11 = .bool true := hD 11 (by decide)
                    have dq16 : vs 16 = .bool false := hD 16 (by decide)
                    clear hD
                    try dsimp only at hK ⊢
                    simp only [Act.put, List.setIfInBounds_toArray, List.set_cons_succ, List.set_cons_zero] at hK
                    generalize vs 11 = vq11 at hK dq11 ⊢
                    subst vq11
                    generalize vs 16 = vq16 at hK dq16 ⊢
                    subst vq16
                    go_wp2
                    exact hK _ _ rfl (Mod.refl _ _)
                  refine opsOkA_cons ?_ ?_
                  · intro K vs W hR hD hK
                    have dq17 : vs 17 = .bool false := hD 17 (by decide)
                    clear hD
                    try dsimp only at hK ⊢
                    simp only [Act.put, List.setIfInBounds_toArray, List.set_cons_succ, List.set_cons_zero] at hK
                    generalize vs 17 = vq17 at hK dq17 ⊢
                    subst vq17
                    go_wp2
                    exact hK _ _ rfl (Mod.refl _ _)
                  refine opsOkA_cons ?_ ?_
                  · intro K vs W hR hD hK
                    have dq17 : vs 17 = .bool false := hD 17 (by decide)
                    clear hD
                    try dsimp only at hK ⊢
                    simp only [Act.put, List.setIfInBounds_toArray, List.set_cons_succ, List.set_cons_zero] at hK
                    generalize vs 17 = vq17 at hK dq17 ⊢
                    subst vq17
                    go_wp2
                    exact hK _ _ rfl (Mod.refl _ _)
                  refine opsOkA_cons ?_ ?_
                  · intro K vs W hR hD hK
                    have dq17 : vs 17 = .bool false := hD 17 (by decide)
                    have dq18 : vs 18 = .slice ax n2 cx := hD 18 (by decide)
                    have dq19 : vs 19 = .int .i64 (er : Int) := hD 19 (by decide)
                    clear hD
                    try dsimp only at hK ⊢
                    simp only [Act.put, List.setIfInBounds_toArray, List.set_cons_succ, List.set_cons_zero] at hK
                    generalize vs 17 = vq17 at hK dq17 ⊢
                    subst vq17
                    generalize vs 18 = vq18 at hK dq18 ⊢
                    subst vq18
                    generalize vs 19 = vq19 at hK dq19 ⊢
                    subst vq19
                    have hix := HIg.out
                    go_wp2_with fail
                    exact hK _ _ rfl (Mod.refl _ _)
                  refine opsOkA_cons ?_ ?_
                  · intro K vs W hR hD hK
                    have dq17 : vs 17 = .bool false := hD 17 (by decide)
                    have dq20 : vs 20 = .pointer (some ⟨gb, go, none⟩) := hD 20 (by decide)
                    clear hD
                    try dsimp only at hK ⊢
                    simp only [Act.put, List.setIfInBounds_toArray, List.set_cons_succ, List.set_cons_zero] at hK
                    generalize vs 17 = vq17 at hK dq17 ⊢
                    subst vq17
                    generalize vs 20 = vq20 at hK dq20 ⊢
                    subst vq20
                    have c0 := (HSd.out.at (hR)).2.2.2.1
                    go_wp2
                    exact hK _ _ rfl (Mod.refl _ _)
                  refine opsOkA_cons ?_ ?_
                  · intro K vs W hR hD hK
                    have dq17 : vs 17 = .bool false := hD 17 (by decide)
                    clear hD
                    try dsimp only at hK ⊢
                    simp only [Act.put, List.setIfInBounds_toArray, List.set_cons_succ, List.set_cons_zero] at hK
                    generalize vs 17 = vq17 at hK dq17 ⊢
                    subst vq17
                    go_wp2
                    exact hK _ _ rfl (Mod.refl _ _)
                  refine opsOkA_cons ?_ ?_
                  · intro K vs W hR hD hK
                    have dq17 : vs 17 = .bool false := hD 17 (by decide)
                    have dq21 : vs 21 = .int .i64 dx := hD 21 (by decide)
                    have dq22 : vs 22 = .int .i64 (s0 + uc) := hD 22 (by decide)
                    clear hD
                    try dsimp only at hK ⊢
                    simp only [Act.put, List.setIfInBounds_toArray, List.set_cons_succ, List.set_cons_zero] at hK
                    generalize vs 17 = vq17 at hK dq17 ⊢
                    subst vq17
                    generalize vs 21 = vq21 at hK dq21 ⊢
                    subst vq21
                    generalize vs 22 = vq22 at hK dq22 ⊢
                    subst vq22
                    have zz := Z23.out
                    go_wp2
                    exact hK _ _ rfl (Mod.refl _ _)
                  refine opsOkA_cons ?_ ?_
                  · intro K vs W hR hD hK
                    have dq11 : vs 11 = .bool true := hD 11 (by decide)
                    have dq17 : vs 17 = .bool false := hD 17 (by decide)
                    have dq23 : vs 23 = .bool false := hD 23 (by decide)
                    clear hD
                    try dsimp only at hK ⊢
                    simp only [Act.put, List.setIfInBounds_toArray, List.set_cons_succ, List.set_cons_zero] at hK
                    generalize vs 11 = vq11 at hK dq11 ⊢
                    subst vq11
                    generalize vs 17 = vq17 at hK dq17 ⊢
                    subst vq17
                    generalize vs 23 = vq23 at hK dq23 ⊢
                    subst vq23
                    go_wp2
                    exact hK _ _ rfl (Mod.refl _ _)
                  refine opsOkA_cons ?_ ?_
                  · intro K vs W hR hD hK
                    have dq11 : vs 11 = .bool true := hD 11 (by decide)
                    have dq24 : vs 24 = .bool false := hD 24 (by decide)
                    clear hD
                    try dsimp only at hK ⊢
                    simp only [Act.put, List.setIfInBounds_toArray, List.set_cons_succ, List.set_cons_zero] at hK
                    generalize vs 11 = vq11 at hK dq11 ⊢
                    subst vq11
                    generalize vs 24 = vq24 at hK dq24 ⊢
                    subst vq24
                    go_wp2
                    exact hK _ _ rfl (Mod.refl _ _)
                  exact opsOkA_nil
                · intro vs wq20 hR hF
                  have dq25 : vs 25 = .bool false := hF 25 (by decide)
                  clear hF
                  try dsimp only
                  generalize vs 25 = vq25 at dq25 ⊢
                  subst dq25
                  replace HS := Lib.hid (HSd.out.step hR)
                  clear HSd hR
                  have hbbg := (HS.out.now).2.2.2.2.2.2.2.2.2.2.2.1
                  have qbg_0 := hbbg.cell 0 rfl
                  have qbg_1 := hbbg.cell 1 rfl
                  have qbg_2 := hbbg.cell 2 rfl
                  have lbg := hbbg.lt
                  clear hbbg
                  go_wp2_with fail
                  go_roundw
                  case rel => exact ⟨i0 + 1, s0 + uc, hli, by go_num, rfl, HT.out.symm, HNO.out, (HS.out.now).2.2.2.2.2.2.1⟩
                  case measure => simp [intOf]; omega
        case neg =>
          obtain rfl : lw = i0 := by omega
          have z0 : decide ((lw : Int) < (lw : Int)) = false := by simp
          go_wp2_with fail
          refine (awake11_any _).mono ?_
          rintro e wq21 ⟨rfl, hmz⟩
          replace HS := Lib.hid (HS.out.step hmz)
          clear hmz
          clear qbg_0 qbg_1 qbg_2 lbg
          have hbbg := (HS.out.now).2.2.2.2.2.1
          have qbg_0 := hbbg.cell 0 rfl
          have qbg_1 := hbbg.cell 1 rfl
          have qbg_2 := hbbg.cell 2 rfl
          have lbg := hbbg.lt
          clear hbbg
          go_wp2_with fail
          go_ret
          exact ⟨rfl, (HS.out.now).2.2.2.2.2.2.2.2.2.2.2⟩
theorem dbest_law (w : World) (a0 : Option Addr) (m c0 : Nat) (l : List Int) (ok : (encSlice (encInt .i64)).ok w (.slice a0 m c0, l)) (a5 : Option Addr) (n5 d5 : Nat) (sh : List Int) (ok5 : (encSlice (encInt .i64)).ok w (.slice a5 n5 d5, sh)) (nv : Int) (_ : (Lit.int .i64 nv).wf = true) (fr : Int) (_ : (Lit.int .i64 fr).wf = true) (a4 : Option Addr) (n4 d4 : Nat) (st : List Int) (ok4 : (encSlice (encInt .i64)).ok w (.slice a4 n4 d4, st)) :
    Calls Try.prog 4 #[.slice a0 m c0, .slice a5 n5 d5, .int .i64 nv, .int .i64 fr, .slice a4 n4 d4] w fun e w' => e = .returned (.bool true) ∧ Below w.heap.size w w' := by
  obtain ⟨hn, hr, _⟩ := ok_ints ok
  obtain ⟨hn4, hr4, _⟩ := ok_ints ok4
  obtain ⟨hn5, hr5, _⟩ := ok_ints ok5
  exact (dbest_all w a0 m c0 l hn hr a5 n5 d5 sh hn5 hr5 nv fr a4 n4 d4 st hn4 hr4).mono fun e w' h => ⟨h.1, h.2.below (Nat.le_refl _) (fun _ e => e.elim)⟩
end Go.Proofs.Ytgiojfihgdifbaa
