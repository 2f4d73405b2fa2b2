/- WalkJoins walked. -/
import Derived.Test.YtmpcpmgpnccphaaAwake8
import Derived.Test.YtmpcpmgpnccphaaWalk
import Derived.Test.YtmpcpmgpnccphaaStroll
import Derived.Test.YtmpcpmgpnccphaaRdT
import Derived.Test.YtmpcpmgpnccphaaRegion2
import Derived.Test.YtmpcpmgpnccphaaRound
import Derived.Test.YtmpcpmgpnccphaaOpens
import Derived.Deep.DeepCutAuto
import Derived.Deep.CutBlock
namespace Go.Proofs.Ytmpcpmgpnccphaa
open Go.RowKit Mile
set_option maxRecDepth 100000
/-- What each operation of the statement leaves. -/
def wj_r17_0_F (t : Nat) (er : Nat) (lw : Nat) (cw : Nat) (aw : Option Addr) (kk : Nat) (md : Int) (s1 : Int) (s2 : Int) (en : Int) : List (Value → World → Prop) :=
  [IsV (.bool true),
   IsV (.bool true),
   IsV (.bool true),
   IsV (.bool true),
   IsV (.bool true),
   IsV (.bool true),
   IsV (.bool true),
   IsV (.bool true),
   IsV (.bool true),
   IsV (.bool true),
   IsV (.bool true),
   IsV (.bool true),
   IsV (.bool true),
   IsV (.bool true),
   IsV (.int .i64 s1),
   IsV (.int .i64 s2),
   IsV (.int .i64 (s1 + s2)),
   IsV (.int .i64 (s1 + s2)),
   IsV (.bool true),
   IsV (.bool true),
   IsV (.bool true),
   IsV (.int .i64 en),
   IsV (.int .i64 en),
   IsV (.bool true),
   IsV (.bool true),
   IsV (.bool true),
   IsV (.pointer (some ⟨t, 0, none⟩)),
   IsV (.int .i64 (er : Int)),
   IsV (.slice aw lw cw),
   IsV (.bool true),
   IsV (.bool true),
   IsV (.bool true),
   IsV (.pointer (some ⟨t, 0, none⟩)),
   IsV (.int .i64 (er : Int)),
   IsV (.slice aw lw cw),
   IsV (.int .i64 (kk : Int)),
   IsV (.slice aw kk cw),
   IsV (.bool true),
   IsV (.bool true),
   IsV (.bool true),
   IsV (.pointer (some ⟨t, 0, none⟩)),
   IsV (.int .i64 md),
   IsV (.slice aw lw cw),
   IsV (.int .i64 (kk : Int)),
   IsV (.slice (dropA aw cw kk 1) (lw - kk) (cw - kk)),
   IsV (.bool true),
   IsV (.bool true),
   IsV (.bool true),
   IsV (.slice aw lw cw),
   IsV (.int .i64 (kk : Int)),
   IsV (.slice aw kk cw),
   IsV (.slice aw lw cw),
   IsV (.int .i64 (-1)),
   IsV (.int .i64 (kk : Int)),
   IsV (.slice aw lw cw),
   IsV (.int .i64 (lw : Int)),
   IsV (.int .i64 ((kk : Int) - (lw : Int))),
   IsV (.int .i64 (((kk : Int) - (lw : Int)))),
   IsV (.slice aw lw cw),
   IsV (.int .i64 (lw : Int)),
   IsV (.int .i64 (kk : Int)),
   IsV (.int .i64 ((lw : Int) - (kk : Int))),
   IsV (.int .i64 (((lw : Int) - (kk : Int)))),
   IsV (.int .i64 (-1)),
   IsV (.bool true),
   IsV (.bool true),
   IsV (.bool true),
   IsV (.bool true),
   IsV (.bool true),
   IsV (.bool true)]
def wj_r17_0_D : List (List Nat) := [[], [0], [1], [1, 2], [3], [4], [4, 5], [6], [7], [7, 8], [9], [10], [10, 11], [12], [13], [13], [13, 14, 15], [13], [13, 16, 17], [13, 18], [19], [20], [20], [20, 21, 22], [20, 23], [24], [25], [25], [25], [25, 26, 27, 28], [25, 29], [30], [31], [31], [31], [31], [31, 34, 35], [31, 32, 33, 36], [31, 37], [38], [39], [39], [39], [39], [39, 42, 43], [39, 40, 41, 44], [39, 45], [46], [47], [47], [47, 48, 49], [47], [47, 50, 51], [47], [47], [47, 54], [47, 53, 55], [47, 56], [47], [47, 58], [47], [47, 59, 60], [47, 61], [47, 57, 62], [47, 52, 63], [47, 64], [65], [66], [66, 67], [68]]

/-- What each operation of the statement leaves. -/
def wj_r17_1_F (t : Nat) (er : Nat) (lw : Nat) (cw : Nat) (aw : Option Addr) (kk : Nat) (md : Int) (s1 : Int) (s2 : Int) (en : Int) : List (Value → World → Prop) :=
  [IsV (.bool true),
   IsV (.bool true),
   IsV (.bool true),
   IsV (.bool true),
   IsV (.bool true),
   IsV (.bool true),
   IsV (.bool true),
   IsV (.bool true),
   IsV (.bool true),
   IsV (.bool true),
   IsV (.bool true),
   IsV (.bool true),
   IsV (.bool true),
   IsV (.bool true),
   IsV (.int .i64 s1),
   IsV (.int .i64 s2),
   IsV (.int .i64 (s1 + s2)),
   IsV (.int .i64 (s1 + s2)),
   IsV (.bool true),
   IsV (.bool true),
   IsV (.bool true),
   IsV (.int .i64 en),
   IsV (.int .i64 en),
   IsV (.bool true),
   IsV (.bool true),
   IsV (.bool true),
   IsV (.pointer (some ⟨t, 0, none⟩)),
   IsV (.int .i64 (er : Int)),
   IsV (.slice aw lw cw),
   IsV (.bool true),
   IsV (.bool true),
   IsV (.bool true),
   IsV (.pointer (some ⟨t, 0, none⟩)),
   IsV (.int .i64 (er : Int)),
   IsV (.slice aw lw cw),
   IsV (.int .i64 (kk : Int)),
   IsV (.slice aw kk cw),
   IsV (.bool true),
   IsV (.bool true),
   IsV (.bool true),
   IsV (.pointer (some ⟨t, 0, none⟩)),
   IsV (.int .i64 md),
   IsV (.slice aw lw cw),
   IsV (.int .i64 (kk : Int)),
   IsV (.slice (dropA aw cw kk 1) (lw - kk) (cw - kk)),
   IsV (.bool true),
   IsV (.bool true),
   IsV (.bool true),
   IsV (.slice aw lw cw),
   IsV (.int .i64 (kk : Int)),
   IsV (.slice aw kk cw),
   IsV (.slice aw lw cw),
   IsV (.int .i64 0),
   IsV (.int .i64 (kk : Int)),
   IsV (.slice aw lw cw),
   IsV (.int .i64 (lw : Int)),
   IsV (.int .i64 0),
   IsV (.int .i64 0),
   IsV (.slice aw lw cw),
   IsV (.int .i64 (lw : Int)),
   IsV (.int .i64 (kk : Int)),
   IsV (.int .i64 0),
   IsV (.int .i64 1),
   IsV (.int .i64 0),
   IsV (.bool true),
   IsV (.bool true),
   IsV (.bool true),
   IsV (.bool true),
   IsV (.bool true),
   IsV (.bool true)]
def wj_r17_1_D : List (List Nat) := [[], [0], [1], [1, 2], [3], [4], [4, 5], [6], [7], [7, 8], [9], [10], [10, 11], [12], [13], [13], [13, 14, 15], [13], [13, 16, 17], [13, 18], [19], [20], [20], [20, 21, 22], [20, 23], [24], [25], [25], [25], [25, 26, 27, 28], [25, 29], [30], [31], [31], [31], [31], [31, 34, 35], [31, 32, 33, 36], [31, 37], [38], [39], [39], [39], [39], [39, 42, 43], [39, 40, 41, 44], [39, 45], [46], [47], [47], [47, 48, 49], [47], [47, 50, 51], [47], [47], [47, 54], [47, 53, 55], [47, 56], [47], [47, 58], [47], [47, 59, 60], [47, 61], [47, 57, 62], [47, 52, 63], [47, 64], [65], [66], [66, 67], [68]]

/-- What each operation of the statement leaves. -/
def wj_r17_2_F (t : Nat) (er : Nat) (lw : Nat) (cw : Nat) (aw : Option Addr) (kk : Nat) (s1 : Int) (s2 : Int) (en : Int) : List (Value → World → Prop) :=
  [IsV (.bool true),
   IsV (.bool true),
   IsV (.bool true),
   IsV (.bool true),
   IsV (.bool true),
   IsV (.bool true),
   IsV (.bool true),
   IsV (.bool true),
   IsV (.bool true),
   IsV (.bool true),
   IsV (.bool true),
   IsV (.bool true),
   IsV (.bool true),
   IsV (.bool true),
   IsV (.int .i64 s1),
   IsV (.int .i64 s2),
   IsV (.int .i64 (s1 + s2)),
   IsV (.int .i64 (s1 + s2)),
   IsV (.bool true),
   IsV (.bool true),
   IsV (.bool true),
   IsV (.int .i64 en),
   IsV (.int .i64 en),
   IsV (.bool true),
   IsV (.bool true),
   IsV (.bool true),
   IsV (.pointer (some ⟨t, 0, none⟩)),
   IsV (.int .i64 (er : Int)),
   IsV (.slice aw lw cw),
   IsV (.bool true),
   IsV (.bool true),
   IsV (.bool true),
   IsV (.pointer (some ⟨t, 0, none⟩)),
   IsV (.int .i64 (er : Int)),
   IsV (.slice aw lw cw),
   IsV (.int .i64 (kk : Int)),
   IsV (.slice aw kk cw),
   IsV (.bool true),
   IsV (.bool true),
   IsV (.bool true),
   IsV (.pointer (some ⟨t, 0, none⟩)),
   IsV (.int .i64 (er : Int)),
   IsV (.slice aw lw cw),
   IsV (.int .i64 (kk : Int)),
   IsV (.slice (dropA aw cw kk 1) (lw - kk) (cw - kk)),
   IsV (.bool true),
   IsV (.bool true),
   IsV (.bool true),
   IsV (.slice aw lw cw),
   IsV (.int .i64 (kk : Int)),
   IsV (.slice aw kk cw),
   IsV (.slice aw lw cw),
   IsV (.int .i64 (-1)),
   IsV (.int .i64 (kk : Int)),
   IsV (.slice aw lw cw),
   IsV (.int .i64 (lw : Int)),
   IsV (.int .i64 ((kk : Int) - (lw : Int))),
   IsV (.int .i64 (((kk : Int) - (lw : Int)))),
   IsV (.slice aw lw cw),
   IsV (.int .i64 (lw : Int)),
   IsV (.int .i64 (kk : Int)),
   IsV (.int .i64 ((lw : Int) - (kk : Int))),
   IsV (.int .i64 (((lw : Int) - (kk : Int)))),
   IsV (.int .i64 (-1)),
   IsV (.bool true),
   IsV (.bool true),
   IsV (.bool true),
   IsV (.bool true),
   IsV (.bool true),
   IsV (.bool true)]
def wj_r17_2_D : List (List Nat) := [[], [0], [1], [1, 2], [3], [4], [4, 5], [6], [7], [7, 8], [9], [10], [10, 11], [12], [13], [13], [13, 14, 15], [13], [13, 16, 17], [13, 18], [19], [20], [20], [20, 21, 22], [20, 23], [24], [25], [25], [25], [25, 26, 27, 28], [25, 29], [30], [31], [31], [31], [31], [31, 34, 35], [31, 32, 33, 36], [31, 37], [38], [39], [39], [39], [39], [39, 42, 43], [39, 40, 41, 44], [39, 45], [46], [47], [47], [47, 48, 49], [47], [47, 50, 51], [47], [47], [47, 54], [47, 53, 55], [47, 56], [47], [47, 58], [47], [47, 59, 60], [47, 61], [47, 57, 62], [47, 52, 63], [47, 64], [65], [66], [66, 67], [68]]

/-- What each operation of the statement leaves. -/
def wj_r17_3_F (t : Nat) (er : Nat) (lw : Nat) (cw : Nat) (aw : Option Addr) (kk : Nat) (s1 : Int) (s2 : Int) (en : Int) : List (Value → World → Prop) :=
  [IsV (.bool true),
   IsV (.bool true),
   IsV (.bool true),
   IsV (.bool true),
   IsV (.bool true),
   IsV (.bool true),
   IsV (.bool true),
   IsV (.bool true),
   IsV (.bool true),
   IsV (.bool true),
   IsV (.bool true),
   IsV (.bool true),
   IsV (.bool true),
   IsV (.bool true),
   IsV (.int .i64 s1),
   IsV (.int .i64 s2),
   IsV (.int .i64 (s1 + s2)),
   IsV (.int .i64 (s1 + s2)),
   IsV (.bool true),
   IsV (.bool true),
   IsV (.bool true),
   IsV (.int .i64 en),
   IsV (.int .i64 en),
   IsV (.bool true),
   IsV (.bool true),
   IsV (.bool true),
   IsV (.pointer (some ⟨t, 0, none⟩)),
   IsV (.int .i64 (er : Int)),
   IsV (.slice aw lw cw),
   IsV (.bool true),
   IsV (.bool true),
   IsV (.bool true),
   IsV (.pointer (some ⟨t, 0, none⟩)),
   IsV (.int .i64 (er : Int)),
   IsV (.slice aw lw cw),
   IsV (.int .i64 (kk : Int)),
   IsV (.slice aw kk cw),
   IsV (.bool true),
   IsV (.bool true),
   IsV (.bool true),
   IsV (.pointer (some ⟨t, 0, none⟩)),
   IsV (.int .i64 (er : Int)),
   IsV (.slice aw lw cw),
   IsV (.int .i64 (kk : Int)),
   IsV (.slice (dropA aw cw kk 1) (lw - kk) (cw - kk)),
   IsV (.bool true),
   IsV (.bool true),
   IsV (.bool true),
   IsV (.slice aw lw cw),
   IsV (.int .i64 (kk : Int)),
   IsV (.slice aw kk cw),
   IsV (.slice aw lw cw),
   IsV (.int .i64 0),
   IsV (.int .i64 (kk : Int)),
   IsV (.slice aw lw cw),
   IsV (.int .i64 (lw : Int)),
   IsV (.int .i64 0),
   IsV (.int .i64 0),
   IsV (.slice aw lw cw),
   IsV (.int .i64 (lw : Int)),
   IsV (.int .i64 (kk : Int)),
   IsV (.int .i64 0),
   IsV (.int .i64 1),
   IsV (.int .i64 0),
   IsV (.bool true),
   IsV (.bool true),
   IsV (.bool true),
   IsV (.bool true),
   IsV (.bool true),
   IsV (.bool true)]
def wj_r17_3_D : List (List Nat) := [[], [0], [1], [1, 2], [3], [4], [4, 5], [6], [7], [7, 8], [9], [10], [10, 11], [12], [13], [13], [13, 14, 15], [13], [13, 16, 17], [13, 18], [19], [20], [20], [20, 21, 22], [20, 23], [24], [25], [25], [25], [25, 26, 27, 28], [25, 29], [30], [31], [31], [31], [31], [31, 34, 35], [31, 32, 33, 36], [31, 37], [38], [39], [39], [39], [39], [39, 42, 43], [39, 40, 41, 44], [39, 45], [46], [47], [47], [47, 48, 49], [47], [47, 50, 51], [47], [47], [47, 54], [47, 53, 55], [47, 56], [47], [47, 58], [47], [47, 59, 60], [47, 61], [47, 57, 62], [47, 52, 63], [47, 64], [65], [66], [66, 67], [68]]

set_option maxHeartbeats 32000000 in
theorem wjoins_all (w : World) (a0 : Option Addr) (m c0 : Nat) (l : List Int) (hm : l.length = m) (hr : Rd w 1 (.slice a0 m c0) m (l.map (Value.int .i64))) (from_ : Int) (a4 : Option Addr) (n4 d4 : Nat) (st : List Int) (hn4 : st.length = n4) (hr4 : Rd w 1 (.slice a4 n4 d4) n4 (st.map (Value.int .i64))) (cut : Int) :
    Calls Try.prog 8 #[.slice a0 m c0, .int .i64 from_, .slice a4 n4 d4, .int .i64 cut] w fun e w' => e = .returned (.bool true) ∧ Mod (fun _ => False) w w' := by
  obtain ⟨iI, hiI, hzI, hsI, hbI⟩ := info_parts GR.infoI
  have HN4 := Lib.hid hn4
  clear hn4
  by_cases hlen0 : m ≤ 100
  case neg =>
    have HS : Hid (Ev (Mod (fun _ => False) w) w) := Lib.hid (Ev.mod w)
    have z0 : decide (100 < (m : Int)) = true := by simp; omega
    have z1 : decide (100 < m) = true := by simp; omega
    go_enter Try.func8, Try.ntmps8
    go_wp2_with fail
    refine (awake8_any _).mono ?_
    rintro e wq1 ⟨rfl, hm⟩
    replace HS := Lib.hid (HS.out.step hm)
    clear hm
    go_wp2_with fail
    go_ret
    exact ⟨rfl, HS.out.now⟩
  by_cases hlen1 : n4 ≤ 40
  case neg =>
    have HS : Hid (Ev (Mod (fun _ => False) w) w) := Lib.hid (Ev.mod w)
    have y0 : decide (100 < (m : Int)) = false := by simp; omega
    have z0 : decide (40 < (n4 : Int)) = true := by simp; omega
    have z1 : decide (40 < n4) = true := by simp; omega
    go_enter Try.func8, Try.ntmps8
    go_wp2_with fail
    refine (awake8_any _).mono ?_
    rintro e wq2 ⟨rfl, hm⟩
    replace HS := Lib.hid (HS.out.step hm)
    clear hm
    go_wp2_with fail
    go_ret
    exact ⟨rfl, HS.out.now⟩
  have HS : Hid (Ev (Mod (fun _ => False) w) w) := Lib.hid (Ev.mod w)
  have y0 : decide (100 < (m : Int)) = false := by simp; omega
  have y1 : decide (40 < (n4 : Int)) = false := by simp; omega
  replace HS := Lib.hid ((Ev.rd hr).and HS.out)
  replace HS := Lib.hid ((Ev.rd hr4).and HS.out)
  clear hr hr4
  go_enter Try.func8, Try.ntmps8
  go_wp2_with fail
  refine (made8_any _ a0 m c0 l hm ((HS.out.now).2.1)).mono ?_
  rintro e wq3 ⟨a1, n1, d1, a2, n2, d2, a3, n3, d3, t, p, B, C, rfl, hg, hto, hmm⟩
  replace HS := Lib.hid (HS.out.step hmm)
  clear hmm
  replace HS := Lib.hid ((Ev.gv hg).and HS.out)
  replace HS := Lib.hid ((Ev.to hto).and HS.out)
  clear hg hto y0 y1
  have hmay := Lib.hid (town_may l)
  have hfew := Lib.hid (town_few l)
  obtain ⟨G, hG⟩ : ∃ G, townG l = G := ⟨_, rfl⟩
  rw [hG] at hmay hfew
  rw [hG] at HS
  clear hG
  have hn := Lib.hid ((HS.out.now).2.1.n)
  have he := Lib.hid ((HS.out.now).2.1.e)
  have hb := Lib.hid ((HS.out.now).2.1.b)
  have h1n : n1 ≤ 16 := by have := hfew.out.1.2; have := hn.out; omega
  have h2n : n2 ≤ 67 := by have := hfew.out.2.1.2; have := he.out; omega
  have h2p : 1 ≤ n2 := by have := hfew.out.2.1.1; have := he.out; omega
  have h3n : n3 ≤ 469 := by have := hfew.out.2.2; have := hb.out; omega
  go_wp2_with fail
  obtain ⟨bg, hbg⟩ : ∃ b, wq3.heap.size = b := ⟨_, rfl⟩
  obtain ⟨wq4, hwq4⟩ : ∃ W, World.alloc wq3 (.cells #[.slice a1 n1 d1, .slice a2 n2 d2, .slice a3 n3 d3] 28) = W := ⟨_, rfl⟩
  have hBbg : Blk wq4 bg 28 [.slice a1 n1 d1, .slice a2 n2 d2, .slice a3 n3 d3] := by rw [← hwq4, ← hbg]; exact Blk.new _ 28 [.slice a1 n1 d1, .slice a2 n2 d2, .slice a3 n3 d3]
  have hzbg : wq4.heap.size = bg + 1 := by rw [← hwq4, ← hbg]; exact heap_size_alloc _ _
  replace HS := Lib.hid (HS.out.step (w' := wq4) (by rw [← hwq4]; exact Mod.alloc _ _ _))
  replace HS := Lib.hid ((Ev.blk hBbg).and HS.out)
  try rw [hwq4]
  try rw [hbg]
  clear hzbg hBbg hbg hwq4
  have hbbg := (HS.out.now).1
  have qbg_0 := hbbg.cell 0 rfl
  have qbg_1 := hbbg.cell 1 rfl
  have qbg_2 := hbbg.cell 2 rfl
  have lbg := hbbg.lt
  clear hbbg
  go_wp2_with fail
  refine (round_any from_ (n2 : Int) _ (by omega) (by omega)).mono ?_
  rintro e w' ⟨rfl, rfl⟩
  have hr0 := Int.emod_nonneg (from_) (b := (n2 : Int)) (by omega)
  have hr1 := Int.emod_lt_of_pos (from_) (b := (n2 : Int)) (by omega)
  obtain ⟨er, hr2⟩ := Int.eq_ofNat_of_zero_le hr0
  rw [hr2] at hr1 ⊢
  have HE0 := Lib.hid hr2
  have HE0b := hr1
  clear hr0 hr1 hr2
  go_wp2_with fail
  refine (stroll_any G _ a1 n1 d1 a2 n2 d2 a3 n3 d3 ((HS.out.now).2.2.1) (by omega) (by omega) (er : Int) a4 n4 d4 st HN4.out ((HS.out.now).2.2.2.1) (by omega)).mono ?_
  rintro e wq5 ⟨v', rfl, ⟨aw, cw, rfl, hx'⟩, hmm⟩
  replace HS := Lib.hid (HS.out.step hmm)
  clear hmm
  replace HS := Lib.hid ((Ev.rd hx').and HS.out)
  clear hx'
  clear qbg_0 qbg_1 qbg_2 lbg
  have hbbg := (HS.out.now).2.1
  have qbg_0 := hbbg.cell 0 rfl
  have qbg_1 := hbbg.cell 1 rfl
  have qbg_2 := hbbg.cell 2 rfl
  have lbg := hbbg.lt
  clear hbbg
  obtain ⟨ws, hws⟩ : ∃ l, strollL G (er : Int) st = l := ⟨_, rfl⟩
  have hwk := stroll_wlk G (er : Int) st
  have hwl := stroll_len G (er : Int) st
  rw [hws] at HS hwk hwl ⊢
  have HWS := Lib.hid hws
  have HWK := Lib.hid hwk
  clear hws hwk
  obtain ⟨lw, hlw⟩ : ∃ n, ws.length = n := ⟨_, rfl⟩
  rw [hlw] at HS hwl ⊢
  have HLW := Lib.hid hlw
  have hl4 : lw ≤ 40 := by have := HN4.out; omega
  clear hlw hwl
  have hcw : lw ≤ cw := rd_cap ((HS.out.now).1)
  go_wp2_with fail
  refine (round_any cut ((lw : Int) + 1) _ (by omega) (by omega)).mono ?_
  rintro e w' ⟨rfl, rfl⟩
  have hr0 := Int.emod_nonneg cut (b := (lw : Int) + 1) (by omega)
  have hr1 := Int.emod_lt_of_pos cut (b := (lw : Int) + 1) (by omega)
  obtain ⟨kk, hr2⟩ := Int.eq_ofNat_of_zero_le hr0
  rw [hr2] at hr1 ⊢
  have hkk : kk ≤ lw := by omega
  clear hr0 hr1 hr2
  have hmid : wlk G (lastD (er : Int) (ws.take kk)) (ws.drop kk) = true ∧ wlk G (er : Int) (ws.take kk) = true := by have h := wlk_append G (er : Int) (ws.take kk) (ws.drop kk); rw [List.take_append_drop, HWK.out] at h; exact ⟨(Bool.and_eq_true_iff.1 h.symm).2, (Bool.and_eq_true_iff.1 h.symm).1⟩
  have hed : edB G (er : Int) = true := decide_eq_true ⟨by omega, by have := he.out; omega⟩
  have V1 : Hid (validB G (er : Int) ws = true) := Lib.hid (by unfold validB; rw [hed, HWK.out]; rfl)
  have V2 : Hid (validB G (er : Int) (ws.take kk) = true) := Lib.hid (by unfold validB; rw [hed, hmid.2]; rfl)
  obtain ⟨md, HMD0⟩ : ∃ qz, lastD (er : Int) (ws.take kk) = qz := ⟨_, rfl⟩
  have HMD := Lib.hid HMD0
  clear HMD0
  rw [HMD.out] at hmid
  have V3 : Hid (validB G md (ws.drop kk) = true) := Lib.hid (by unfold validB; rw [← HMD.out, valid_last G _ _ hmid.2, hed, HMD.out, hmid.1]; rfl)
  have A0 := wlk_all G _ _ HWK.out
  have A1 : Hid (allE G (ws.take kk) = true) := Lib.hid (wlk_all G _ _ hmid.2)
  have A2 : Hid (allE G (ws.drop kk) = true) := Lib.hid (wlk_all G _ _ hmid.1)
  have A3 := Lib.hid A0
  clear A0
  obtain ⟨s1, h1⟩ : ∃ s, wS G (ws.take kk) = s := ⟨_, rfl⟩
  obtain ⟨s2, h2⟩ : ∃ s, wS G (ws.drop kk) = s := ⟨_, rfl⟩
  have h3 := wS_append G (ws.take kk) (ws.drop kk)
  rw [List.take_append_drop, h1, h2] at h3
  have hb1 := wS_le G hmay.out _ A1.out
  have hb2 := wS_le G hmay.out _ A2.out
  rw [h1] at hb1
  rw [h2] at hb2
  have hlk : (ws.take kk).length ≤ 40 := by rw [List.length_take, HLW.out]; omega
  have hld : (ws.drop kk).length ≤ 40 := by rw [List.length_drop, HLW.out]; omega
  have q1 : 0 ≤ s1 := hb1.1
  have q2 : s1 ≤ 2621400 := by have := hb1.2; omega
  have q3 : 0 ≤ s2 := hb2.1
  have q4 : s2 ≤ 2621400 := by have := hb2.2; omega
  have W1 : Hid (wtN G (ws.take kk) = s1) := Lib.hid (by unfold wtN; rw [A1.out, if_pos rfl]; exact h1)
  have W2 : Hid (wtN G (ws.drop kk) = s2) := Lib.hid (by unfold wtN; rw [A2.out, if_pos rfl]; exact h2)
  have W3 : Hid (wtN G ws = s1 + s2) := Lib.hid (by unfold wtN; rw [A3.out, if_pos rfl]; exact h3)
  have E1 : Hid (endN G md (ws.drop kk) = endN G (er : Int) ws) := Lib.hid (by unfold endN; rw [V1.out, V3.out, if_pos rfl, if_pos rfl]; have h := lastD_append (er : Int) (ws.take kk) (ws.drop kk); rw [List.take_append_drop, HMD.out] at h; rw [h])
  obtain ⟨en, HEN0⟩ : ∃ qz, endN G (er : Int) ws = qz := ⟨_, rfl⟩
  have HEN := Lib.hid HEN0
  clear HEN0
  rw [HEN.out] at E1
  have CT := Lib.hid (cmpL_take ws kk (by rw [HLW.out]; exact hkk))
  rw [HLW.out] at CT
  clear hmid hed h1 h2 h3 hb1 hb2 hlk hld
  have LT : Hid ((ws.take kk).length = kk) := Lib.hid (by rw [List.length_take, HLW.out]; omega)
  have LD : Hid ((ws.drop kk).length = lw - kk) := Lib.hid (by rw [List.length_drop, HLW.out])
  replace HS := Lib.hid ((Ev.rd (rd_take ((HS.out.now).1) hkk)).and HS.out)
  replace HS := Lib.hid ((Ev.rd (rd_drop ((HS.out.now).2.1) hkk)).and HS.out)
  have htk := fun wx => run_takeS (P := Try.prog) wx 22 3 iI Try.underlying22 hiI aw lw cw kk (by omega)
  have hdk := fun wx => run_dropS (P := Try.prog) wx 22 3 iI 1 Try.underlying22 hiI hsI aw lw cw kk hkk
  by_cases h0 : 0 < kk
  case pos =>
    obtain ⟨k1, hk1⟩ : ∃ k1, kk = k1 + 1 := ⟨kk - 1, by omega⟩
    have hkl : k1 < ws.length := by rw [HLW.out]; omega
    have hkw : k1 < lw := by omega
    have hwx : ws[k1] = md := by have h := lastD_take (er : Int) ws k1 hkl; rw [← hk1, HMD.out] at h; exact h.symm
    have HWX := Lib.hid hwx
    clear hwx
    obtain ⟨eb, eo, hpl, e0⟩ := rd1 (HS.out.now).2.2.1 k1 hkl
    have hix := fun wx => run_indexS (P := Try.prog) wx 22 3 iI 1 Try.underlying22 hiI hsI aw lw cw k1 hkw ((HS.out.now).2.2.1.some_ (by have := hkw; omega))
    rw [hpl] at hix
    have HIe := Lib.hid hix
    clear hix hpl
    rw [HWX.out] at e0
    replace HS := Lib.hid ((Ev.cell e0).and HS.out)
    clear e0
    have qe := (HS.out.now).1
    have hix := HIe.out
    have z0 : decide ((0 : Int) < (kk : Int)) = true := by simp; omega
    have z1 : (kk : Int) - 1 = (k1 : Int) := by omega
    have HK1 := Lib.hid hk1
    clear hk1
    go_wp2_with fail
    refine (wweight_any t p B C G hmay.out _ ((HS.out.now).2.2.2.2.2.1) aw kk cw (ws.take kk) LT.out ((HS.out.now).2.2.1) (by omega)).mono ?_
    rintro e wq6 ⟨rfl, hmm⟩
    replace HS := Lib.hid (HS.out.step hmm)
    clear hmm
    clear qbg_0 qbg_1 qbg_2 lbg
    have hbbg := (HS.out.now).2.2.2.2.1
    have qbg_0 := hbbg.cell 0 rfl
    have qbg_1 := hbbg.cell 1 rfl
    have qbg_2 := hbbg.cell 2 rfl
    have lbg := hbbg.lt
    clear hbbg
    rw [W1.out, A1.out]
    go_wp2_with fail
    refine (wweight_any t p B C G hmay.out _ ((HS.out.now).2.2.2.2.2.1) (dropA aw cw kk 1) (lw - kk) (cw - kk) (ws.drop kk) LD.out ((HS.out.now).2.1) (by omega)).mono ?_
    rintro e wq7 ⟨rfl, hmm⟩
    replace HS := Lib.hid (HS.out.step hmm)
    clear hmm
    clear qbg_0 qbg_1 qbg_2 lbg
    have hbbg := (HS.out.now).2.2.2.2.1
    have qbg_0 := hbbg.cell 0 rfl
    have qbg_1 := hbbg.cell 1 rfl
    have qbg_2 := hbbg.cell 2 rfl
    have lbg := hbbg.lt
    clear hbbg
    rw [W2.out, A2.out]
    go_wp2_with fail
    refine (wweight_any t p B C G hmay.out _ ((HS.out.now).2.2.2.2.2.1) aw lw cw ws HLW.out ((HS.out.now).2.2.2.1) (by omega)).mono ?_
    rintro e wq8 ⟨rfl, hmm⟩
    replace HS := Lib.hid (HS.out.step hmm)
    clear hmm
    clear qbg_0 qbg_1 qbg_2 lbg
    have hbbg := (HS.out.now).2.2.2.2.1
    have qbg_0 := hbbg.cell 0 rfl
    have qbg_1 := hbbg.cell 1 rfl
    have qbg_2 := hbbg.cell 2 rfl
    have lbg := hbbg.lt
    clear hbbg
    rw [W3.out, A3.out]
    go_wp2_with fail
    refine (wend_any t p B C G _ ((HS.out.now).2.2.2.2.2.1) md (dropA aw cw kk 1) (lw - kk) (cw - kk) (ws.drop kk) LD.out ((HS.out.now).2.1) (by omega)).mono ?_
    rintro e wq9 ⟨rfl, hmm⟩
    replace HS := Lib.hid (HS.out.step hmm)
    clear hmm
    clear qbg_0 qbg_1 qbg_2 lbg
    have hbbg := (HS.out.now).2.2.2.2.1
    have qbg_0 := hbbg.cell 0 rfl
    have qbg_1 := hbbg.cell 1 rfl
    have qbg_2 := hbbg.cell 2 rfl
    have lbg := hbbg.lt
    clear hbbg
    rw [E1.out, V3.out]
    go_wp2_with fail
    refine (wend_any t p B C G _ ((HS.out.now).2.2.2.2.2.1) (er : Int) aw lw cw ws HLW.out ((HS.out.now).2.2.2.1) (by omega)).mono ?_
    rintro e wq10 ⟨rfl, hmm⟩
    replace HS := Lib.hid (HS.out.step hmm)
    clear hmm
    clear qbg_0 qbg_1 qbg_2 lbg
    have hbbg := (HS.out.now).2.2.2.2.1
    have qbg_0 := hbbg.cell 0 rfl
    have qbg_1 := hbbg.cell 1 rfl
    have qbg_2 := hbbg.cell 2 rfl
    have lbg := hbbg.lt
    clear hbbg
    rw [HEN.out, V1.out]
    by_cases hlt : kk < lw
    case pos =>
      have CV : Hid (cmpL (ws.take kk) ws = -1) := Lib.hid (by rw [CT.out, if_pos hlt])
      have m1 : min ((kk : Int) - (lw : Int)) 0 = (kk : Int) - (lw : Int) := by omega
      have m2 : max ((lw : Int) - (kk : Int)) 1 = (lw : Int) - (kk : Int) := by omega
      have m3 : Int.tdiv ((kk : Int) - (lw : Int)) ((lw : Int) - (kk : Int)) = -1 := by rw [show (kk : Int) - (lw : Int) = -((lw : Int) - (kk : Int)) by omega, Int.neg_tdiv, Int.tdiv_self (by omega)]
      have m4 : ¬ ((lw : Int) - (kk : Int) = 0) := by omega
      go_upto_region 17 with fail
      simp only [List.append]
      clear qbg_0 qbg_1 qbg_2 lbg
      have HSd := Lib.hid HS.out.drew
      refine wp_region_inv3 (act := ?actwj_r17_0) (Mod (fun _ => False)) (fun i => (wj_r17_0_F t er lw cw aw kk md s1 s2 en).getD i (fun _ _ => True)) (fun i => wj_r17_0_D.getD i []) (by kernel_rfl) (by kernel_rfl) (by kernel_rfl) (by kernel_rfl) (fun _ => Mod.refl _ _)
        (fun _ _ _ h k => h.trans k (fun _ _ e => e) (fun _ _ e => e)) ?hactwj_r17_0 (stable_list ?_) ?_ ?_
      case hactwj_r17_0 => intro vs; simp only [putAll, Nat.zero_add, Nat.reduceAdd, Act.put, List.setIfInBounds_toArray, List.set_cons_succ, List.set_cons_zero]; exact rfl
      · unfold wj_r17_0_F
        exact stable_cons (stable_val _) <| stable_cons (stable_val _) <| stable_cons (stable_val _) <| stable_cons (stable_val _) <| stable_cons (stable_val _) <| stable_cons (stable_val _) <| stable_cons (stable_val _) <| stable_cons (stable_val _) <| stable_cons (stable_val _) <| stable_cons (stable_val _) <| stable_cons (stable_val _) <| stable_cons (stable_val _) <| stable_cons (stable_val _) <| stable_cons (stable_val _) <| stable_cons (stable_val _) <| stable_cons (stable_val _) <| stable_cons (stable_val _) <| stable_cons (stable_val _) <| stable_cons (stable_val _) <| stable_cons (stable_val _) <| stable_cons (stable_val _) <| stable_cons (stable_val _) <| stable_cons (stable_val _) <| stable_cons (stable_val _) <| stable_cons (stable_val _) <| stable_cons (stable_val _) <| stable_cons (stable_val _) <| stable_cons (stable_val _) <| stable_cons (stable_val _) <| stable_cons (stable_val _) <| stable_cons (stable_val _) <| stable_cons (stable_val _) <| stable_cons (stable_val _) <| stable_cons (stable_val _) <| stable_cons (stable_val _) <| stable_cons (stable_val _) <| stable_cons (stable_val _) <| stable_cons (stable_val _) <| stable_cons (stable_val _) <| stable_cons (stable_val _) <| stable_cons (stable_val _) <| stable_cons (stable_val _) <| stable_cons (stable_val _) <| stable_cons (stable_val _) <| stable_cons (stable_val _) <| stable_cons (stable_val _) <| stable_cons (stable_val _) <| stable_cons (stable_val _) <| stable_cons (stable_val _) <| stable_cons (stable_val _) <| stable_cons (stable_val _) <| stable_cons (stable_val _) <| stable_cons (stable_val _) <| stable_cons (stable_val _) <| stable_cons (stable_val _) <| stable_cons (stable_val _) <| stable_cons (stable_val _) <| stable_cons (stable_val _) <| stable_cons (stable_val _) <| stable_cons (stable_val _) <| stable_cons (stable_val _) <| stable_cons (stable_val _) <| stable_cons (stable_val _) <| stable_cons (stable_val _) <| stable_cons (stable_val _) <| stable_cons (stable_val _) <| stable_cons (stable_val _) <| stable_cons (stable_val _) <| stable_cons (stable_val _) <| stable_cons (stable_val _) <| stable_nil
      · refine opsOkA_cons ?_ ?_
        · intro K vs W hR hD hK
          clear hD
          try dsimp only at hK ⊢
          simp only [Act.put, List.setIfInBounds_toArray, List.set_cons_succ, List.set_cons_zero] at hK
          go_wp2
          exact hK _ _ rfl (Mod.refl _ _)
        refine opsOkA_cons ?_ ?_
        · intro K vs W hR hD hK
          have dq0 : vs 0 = .bool true := hD 0 (by decide)
          clear hD
          try dsimp only at hK ⊢
          simp only [Act.put, List.setIfInBounds_toArray, List.set_cons_succ, List.set_cons_zero] at hK
          generalize vs 0 = vq0 at hK dq0 ⊢
          subst vq0
          go_wp2
          exact hK _ _ rfl (Mod.refl _ _)
        refine opsOkA_cons ?_ ?_
        · intro K vs W hR hD hK
          have dq1 : vs 1 = .bool true := hD 1 (by decide)
          clear hD
          try dsimp only at hK ⊢
          simp only [Act.put, List.setIfInBounds_toArray, List.set_cons_succ, List.set_cons_zero] at hK
          generalize vs 1 = vq1 at hK dq1 ⊢
          subst vq1
          go_wp2
          exact hK _ _ rfl (Mod.refl _ _)
        refine opsOkA_cons ?_ ?_
        · intro K vs W hR hD hK
          have dq1 : vs 1 = .bool true := hD 1 (by decide)
          have dq2 : vs 2 = .bool true := hD 2 (by decide)
          clear hD
          try dsimp only at hK ⊢
          simp only [Act.put, List.setIfInBounds_toArray, List.set_cons_succ, List.set_cons_zero] at hK
          generalize vs 1 = vq1 at hK dq1 ⊢
          subst vq1
          generalize vs 2 = vq2 at hK dq2 ⊢
          subst vq2
          go_wp2
          exact hK _ _ rfl (Mod.refl _ _)
        refine opsOkA_cons ?_ ?_
        · intro K vs W hR hD hK
          have dq3 : vs 3 = .bool true := hD 3 (by decide)
          clear hD
          try dsimp only at hK ⊢
          simp only [Act.put, List.setIfInBounds_toArray, List.set_cons_succ, List.set_cons_zero] at hK
          generalize vs 3 = vq3 at hK dq3 ⊢
          subst vq3
          go_wp2
          exact hK _ _ rfl (Mod.refl _ _)
        refine opsOkA_cons ?_ ?_
        · intro K vs W hR hD hK
          have dq4 : vs 4 = .bool true := hD 4 (by decide)
          clear hD
          try dsimp only at hK ⊢
          simp only [Act.put, List.setIfInBounds_toArray, List.set_cons_succ, List.set_cons_zero] at hK
          generalize vs 4 = vq4 at hK dq4 ⊢
          subst vq4
          go_wp2
          exact hK _ _ rfl (Mod.refl _ _)
        refine opsOkA_cons ?_ ?_
        · intro K vs W hR hD hK
          have dq4 : vs 4 = .bool true := hD 4 (by decide)
          have dq5 : vs 5 = .bool true := hD 5 (by decide)
          clear hD
          try dsimp only at hK ⊢
          simp only [Act.put, List.setIfInBounds_toArray, List.set_cons_succ, List.set_cons_zero] at hK
          generalize vs 4 = vq4 at hK dq4 ⊢
          subst vq4
          generalize vs 5 = vq5 at hK dq5 ⊢
          subst vq5
          go_wp2
          exact hK _ _ rfl (Mod.refl _ _)
        refine opsOkA_cons ?_ ?_
        · intro K vs W hR hD hK
          have dq6 : vs 6 = .bool true := hD 6 (by decide)
          clear hD
          try dsimp only at hK ⊢
          simp only [Act.put, List.setIfInBounds_toArray, List.set_cons_succ, List.set_cons_zero] at hK
          generalize vs 6 = vq6 at hK dq6 ⊢
          subst vq6
          go_wp2
          exact hK _ _ rfl (Mod.refl _ _)
        refine opsOkA_cons ?_ ?_
        · intro K vs W hR hD hK
          have dq7 : vs 7 = .bool true := hD 7 (by decide)
          clear hD
          try dsimp only at hK ⊢
          simp only [Act.put, List.setIfInBounds_toArray, List.set_cons_succ, List.set_cons_zero] at hK
          generalize vs 7 = vq7 at hK dq7 ⊢
          subst vq7
          go_wp2
          exact hK _ _ rfl (Mod.refl _ _)
        refine opsOkA_cons ?_ ?_
        · intro K vs W hR hD hK
          have dq7 : vs 7 = .bool true := hD 7 (by decide)
          have dq8 : vs 8 = .bool true := hD 8 (by decide)
          clear hD
          try dsimp only at hK ⊢
          simp only [Act.put, List.setIfInBounds_toArray, List.set_cons_succ, List.set_cons_zero] at hK
          generalize vs 7 = vq7 at hK dq7 ⊢
          subst vq7
          generalize vs 8 = vq8 at hK dq8 ⊢
          subst vq8
          go_wp2
          exact hK _ _ rfl (Mod.refl _ _)
        refine opsOkA_cons ?_ ?_
        · intro K vs W hR hD hK
          have dq9 : vs 9 = .bool true := hD 9 (by decide)
          clear hD
          try dsimp only at hK ⊢
          simp only [Act.put, List.setIfInBounds_toArray, List.set_cons_succ, List.set_cons_zero] at hK
          generalize vs 9 = vq9 at hK dq9 ⊢
          subst vq9
          go_wp2
          exact hK _ _ rfl (Mod.refl _ _)
        refine opsOkA_cons ?_ ?_
        · intro K vs W hR hD hK
          have dq10 : vs 10 = .bool true := hD 10 (by decide)
          clear hD
          try dsimp only at hK ⊢
          simp only [Act.put, List.setIfInBounds_toArray, List.set_cons_succ, List.set_cons_zero] at hK
          generalize vs 10 = vq10 at hK dq10 ⊢
          subst vq10
          go_wp2
          exact hK _ _ rfl (Mod.refl _ _)
        refine opsOkA_cons ?_ ?_
        · intro K vs W hR hD hK
          have dq10 : vs 10 = .bool true := hD 10 (by decide)
          have dq11 : vs 11 = .bool true := hD 11 (by decide)
          clear hD
          try dsimp only at hK ⊢
          simp only [Act.put, List.setIfInBounds_toArray, List.set_cons_succ, List.set_cons_zero] at hK
          generalize vs 10 = vq10 at hK dq10 ⊢
          subst vq10
          generalize vs 11 = vq11 at hK dq11 ⊢
          subst vq11
          go_wp2
          exact hK _ _ rfl (Mod.refl _ _)
        refine opsOkA_cons ?_ ?_
        · intro K vs W hR hD hK
          have dq12 : vs 12 = .bool true := hD 12 (by decide)
          clear hD
          try dsimp only at hK ⊢
          simp only [Act.put, List.setIfInBounds_toArray, List.set_cons_succ, List.set_cons_zero] at hK
          generalize vs 12 = vq12 at hK dq12 ⊢
          subst vq12
          go_wp2
          exact hK _ _ rfl (Mod.refl _ _)
        refine opsOkA_cons ?_ ?_
        · intro K vs W hR hD hK
          have dq13 : vs 13 = .bool true := hD 13 (by decide)
          clear hD
          try dsimp only at hK ⊢
          simp only [Act.put, List.setIfInBounds_toArray, List.set_cons_succ, List.set_cons_zero] at hK
          generalize vs 13 = vq13 at hK dq13 ⊢
          subst vq13
          go_wp2
          exact hK _ _ rfl (Mod.refl _ _)
        refine opsOkA_cons ?_ ?_
        · intro K vs W hR hD hK
          have dq13 : vs 13 = .bool true := hD 13 (by decide)
          clear hD
          try dsimp only at hK ⊢
          simp only [Act.put, List.setIfInBounds_toArray, List.set_cons_succ, List.set_cons_zero] at hK
          generalize vs 13 = vq13 at hK dq13 ⊢
          subst vq13
          go_wp2
          exact hK _ _ rfl (Mod.refl _ _)
        refine opsOkA_cons ?_ ?_
        · intro K vs W hR hD hK
          have dq13 : vs 13 = .bool true := hD 13 (by decide)
          have dq14 : vs 14 = .int .i64 s1 := hD 14 (by decide)
          have dq15 : vs 15 = .int .i64 s2 := hD 15 (by decide)
          clear hD
          try dsimp only at hK ⊢
          simp only [Act.put, List.setIfInBounds_toArray, List.set_cons_succ, List.set_cons_zero] at hK
          generalize vs 13 = vq13 at hK dq13 ⊢
          subst vq13
          generalize vs 14 = vq14 at hK dq14 ⊢
          subst vq14
          generalize vs 15 = vq15 at hK dq15 ⊢
          subst vq15
          go_wp2
          exact hK _ _ rfl (Mod.refl _ _)
        refine opsOkA_cons ?_ ?_
        · intro K vs W hR hD hK
          have dq13 : vs 13 = .bool true := hD 13 (by decide)
          clear hD
          try dsimp only at hK ⊢
          simp only [Act.put, List.setIfInBounds_toArray, List.set_cons_succ, List.set_cons_zero] at hK
          generalize vs 13 = vq13 at hK dq13 ⊢
          subst vq13
          go_wp2
          exact hK _ _ rfl (Mod.refl _ _)
        refine opsOkA_cons ?_ ?_
        · intro K vs W hR hD hK
          have dq13 : vs 13 = .bool true := hD 13 (by decide)
          have dq16 : vs 16 = .int .i64 (s1 + s2) := hD 16 (by decide)
          have dq17 : vs 17 = .int .i64 (s1 + s2) := hD 17 (by decide)
          clear hD
          try dsimp only at hK ⊢
          simp only [Act.put, List.setIfInBounds_toArray, List.set_cons_succ, List.set_cons_zero] at hK
          generalize vs 13 = vq13 at hK dq13 ⊢
          subst vq13
          generalize vs 16 = vq16 at hK dq16 ⊢
          subst vq16
          generalize vs 17 = vq17 at hK dq17 ⊢
          subst vq17
          go_wp2
          exact hK _ _ rfl (Mod.refl _ _)
        refine opsOkA_cons ?_ ?_
        · intro K vs W hR hD hK
          have dq13 : vs 13 = .bool true := hD 13 (by decide)
          have dq18 : vs 18 = .bool true := hD 18 (by decide)
          clear hD
          try dsimp only at hK ⊢
          simp only [Act.put, List.setIfInBounds_toArray, List.set_cons_succ, List.set_cons_zero] at hK
          generalize vs 13 = vq13 at hK dq13 ⊢
          subst vq13
          generalize vs 18 = vq18 at hK dq18 ⊢
          subst vq18
          go_wp2
          exact hK _ _ rfl (Mod.refl _ _)
        refine opsOkA_cons ?_ ?_
        · intro K vs W hR hD hK
          have dq19 : vs 19 = .bool true := hD 19 (by decide)
          clear hD
          try dsimp only at hK ⊢
          simp only [Act.put, List.setIfInBounds_toArray, List.set_cons_succ, List.set_cons_zero] at hK
          generalize vs 19 = vq19 at hK dq19 ⊢
          subst vq19
          go_wp2
          exact hK _ _ rfl (Mod.refl _ _)
        refine opsOkA_cons ?_ ?_
        · intro K vs W hR hD hK
          have dq20 : vs 20 = .bool true := hD 20 (by decide)
          clear hD
          try dsimp only at hK ⊢
          simp only [Act.put, List.setIfInBounds_toArray, List.set_cons_succ, List.set_cons_zero] at hK
          generalize vs 20 = vq20 at hK dq20 ⊢
          subst vq20
          go_wp2
          exact hK _ _ rfl (Mod.refl _ _)
        refine opsOkA_cons ?_ ?_
        · intro K vs W hR hD hK
          have dq20 : vs 20 = .bool true := hD 20 (by decide)
          clear hD
          try dsimp only at hK ⊢
          simp only [Act.put, List.setIfInBounds_toArray, List.set_cons_succ, List.set_cons_zero] at hK
          generalize vs 20 = vq20 at hK dq20 ⊢
          subst vq20
          go_wp2
          exact hK _ _ rfl (Mod.refl _ _)
        refine opsOkA_cons ?_ ?_
        · intro K vs W hR hD hK
          have dq20 : vs 20 = .bool true := hD 20 (by decide)
          have dq21 : vs 21 = .int .i64 en := hD 21 (by decide)
          have dq22 : vs 22 = .int .i64 en := hD 22 (by decide)
          clear hD
          try dsimp only at hK ⊢
          simp only [Act.put, List.setIfInBounds_toArray, List.set_cons_succ, List.set_cons_zero] at hK
          generalize vs 20 = vq20 at hK dq20 ⊢
          subst vq20
          generalize vs 21 = vq21 at hK dq21 ⊢
          subst vq21
          generalize vs 22 = vq22 at hK dq22 ⊢
          subst vq22
          go_wp2
          exact hK _ _ rfl (Mod.refl _ _)
        refine opsOkA_cons ?_ ?_
        · intro K vs W hR hD hK
          have dq20 : vs 20 = .bool true := hD 20 (by decide)
          have dq23 : vs 23 = .bool true := hD 23 (by decide)
          clear hD
          try dsimp only at hK ⊢
          simp only [Act.put, List.setIfInBounds_toArray, List.set_cons_succ, List.set_cons_zero] at hK
          generalize vs 20 = vq20 at hK dq20 ⊢
          subst vq20
          generalize vs 23 = vq23 at hK dq23 ⊢
          subst vq23
          go_wp2
          exact hK _ _ rfl (Mod.refl _ _)
        refine opsOkA_cons ?_ ?_
        · intro K vs W hR hD hK
          have dq24 : vs 24 = .bool true := hD 24 (by decide)
          clear hD
          try dsimp only at hK ⊢
          simp only [Act.put, List.setIfInBounds_toArray, List.set_cons_succ, List.set_cons_zero] at hK
          generalize vs 24 = vq24 at hK dq24 ⊢
          subst vq24
          go_wp2
          exact hK _ _ rfl (Mod.refl _ _)
        refine opsOkA_cons ?_ ?_
        · intro K vs W hR hD hK
          have dq25 : vs 25 = .bool true := hD 25 (by decide)
          clear hD
          try dsimp only at hK ⊢
          simp only [Act.put, List.setIfInBounds_toArray, List.set_cons_succ, List.set_cons_zero] at hK
          generalize vs 25 = vq25 at hK dq25 ⊢
          subst vq25
          go_wp2
          exact hK _ _ rfl (Mod.refl _ _)
        refine opsOkA_cons ?_ ?_
        · intro K vs W hR hD hK
          have dq25 : vs 25 = .bool true := hD 25 (by decide)
          clear hD
          try dsimp only at hK ⊢
          simp only [Act.put, List.setIfInBounds_toArray, List.set_cons_succ, List.set_cons_zero] at hK
          generalize vs 25 = vq25 at hK dq25 ⊢
          subst vq25
          go_wp2
          exact hK _ _ rfl (Mod.refl _ _)
        refine opsOkA_cons ?_ ?_
        · intro K vs W hR hD hK
          have dq25 : vs 25 = .bool true := hD 25 (by decide)
          clear hD
          try dsimp only at hK ⊢
          simp only [Act.put, List.setIfInBounds_toArray, List.set_cons_succ, List.set_cons_zero] at hK
          generalize vs 25 = vq25 at hK dq25 ⊢
          subst vq25
          go_wp2
          exact hK _ _ rfl (Mod.refl _ _)
        refine opsOkA_cons ?_ ?_
        · intro K vs W hR hD hK
          have dq25 : vs 25 = .bool true := hD 25 (by decide)
          have dq26 : vs 26 = .pointer (some ⟨t, 0, none⟩) := hD 26 (by decide)
          have dq27 : vs 27 = .int .i64 (er : Int) := hD 27 (by decide)
          have dq28 : vs 28 = .slice aw lw cw := hD 28 (by decide)
          clear hD
          try dsimp only at hK ⊢
          simp only [Act.put, List.setIfInBounds_toArray, List.set_cons_succ, List.set_cons_zero] at hK
          generalize vs 25 = vq25 at hK dq25 ⊢
          subst vq25
          generalize vs 26 = vq26 at hK dq26 ⊢
          subst vq26
          generalize vs 27 = vq27 at hK dq27 ⊢
          subst vq27
          generalize vs 28 = vq28 at hK dq28 ⊢
          subst vq28
          go_wp2_with (go_at_call 43; refine (wvalid_any t p B C G W ((HSd.out.at (hR)).2.2.2.2.2.1) (er : Int) aw lw cw ws HLW.out ((HSd.out.at (hR)).2.2.2.1) (by omega)).mono ?_; rintro e' w' ⟨rfl, hm'⟩; rw [V1.out])
          exact hK _ _ rfl hm'
        refine opsOkA_cons ?_ ?_
        · intro K vs W hR hD hK
          have dq25 : vs 25 = .bool true := hD 25 (by decide)
          have dq29 : vs 29 = .bool true := hD 29 (by decide)
          clear hD
          try dsimp only at hK ⊢
          simp only [Act.put, List.setIfInBounds_toArray, List.set_cons_succ, List.set_cons_zero] at hK
          generalize vs 25 = vq25 at hK dq25 ⊢
          subst vq25
          generalize vs 29 = vq29 at hK dq29 ⊢
          subst vq29
          go_wp2
          exact hK _ _ rfl (Mod.refl _ _)
        refine opsOkA_cons ?_ ?_
        · intro K vs W hR hD hK
          have dq30 : vs 30 = .bool true := hD 30 (by decide)
          clear hD
          try dsimp only at hK ⊢
          simp only [Act.put, List.setIfInBounds_toArray, List.set_cons_succ, List.set_cons_zero] at hK
          generalize vs 30 = vq30 at hK dq30 ⊢
          subst vq30
          go_wp2
          exact hK _ _ rfl (Mod.refl _ _)
        refine opsOkA_cons ?_ ?_
        · intro K vs W hR hD hK
          have dq31 : vs 31 = .bool true := hD 31 (by decide)
          clear hD
          try dsimp only at hK ⊢
          simp only [Act.put, List.setIfInBounds_toArray, List.set_cons_succ, List.set_cons_zero] at hK
          generalize vs 31 = vq31 at hK dq31 ⊢
          subst vq31
          go_wp2
          exact hK _ _ rfl (Mod.refl _ _)
        refine opsOkA_cons ?_ ?_
        · intro K vs W hR hD hK
          have dq31 : vs 31 = .bool true := hD 31 (by decide)
          clear hD
          try dsimp only at hK ⊢
          simp only [Act.put, List.setIfInBounds_toArray, List.set_cons_succ, List.set_cons_zero] at hK
          generalize vs 31 = vq31 at hK dq31 ⊢
          subst vq31
          go_wp2
          exact hK _ _ rfl (Mod.refl _ _)
        refine opsOkA_cons ?_ ?_
        · intro K vs W hR hD hK
          have dq31 : vs 31 = .bool true := hD 31 (by decide)
          clear hD
          try dsimp only at hK ⊢
          simp only [Act.put, List.setIfInBounds_toArray, List.set_cons_succ, List.set_cons_zero] at hK
          generalize vs 31 = vq31 at hK dq31 ⊢
          subst vq31
          go_wp2
          exact hK _ _ rfl (Mod.refl _ _)
        refine opsOkA_cons ?_ ?_
        · intro K vs W hR hD hK
          have dq31 : vs 31 = .bool true := hD 31 (by decide)
          clear hD
          try dsimp only at hK ⊢
          simp only [Act.put, List.setIfInBounds_toArray, List.set_cons_succ, List.set_cons_zero] at hK
          generalize vs 31 = vq31 at hK dq31 ⊢
          subst vq31
          go_wp2
          exact hK _ _ rfl (Mod.refl _ _)
        refine opsOkA_cons ?_ ?_
        · intro K vs W hR hD hK
          have dq31 : vs 31 = .bool true := hD 31 (by decide)
          have dq34 : vs 34 = .slice aw lw cw := hD 34 (by decide)
          have dq35 : vs 35 = .int .i64 (kk : Int) := hD 35 (by decide)
          clear hD
          try dsimp only at hK ⊢
          simp only [Act.put, List.setIfInBounds_toArray, List.set_cons_succ, List.set_cons_zero] at hK
          generalize vs 31 = vq31 at hK dq31 ⊢
          subst vq31
          generalize vs 34 = vq34 at hK dq34 ⊢
          subst vq34
          generalize vs 35 = vq35 at hK dq35 ⊢
          subst vq35
          go_wp2_with fail
          exact hK _ _ rfl (Mod.refl _ _)
        refine opsOkA_cons ?_ ?_
        · intro K vs W hR hD hK
          have dq31 : vs 31 = .bool true := hD 31 (by decide)
          have dq32 : vs 32 = .pointer (some ⟨t, 0, none⟩) := hD 32 (by decide)
          have dq33 : vs 33 = .int .i64 (er : Int) := hD 33 (by decide)
          have dq36 : vs 36 = .slice aw kk cw := hD 36 (by decide)
          clear hD
          try dsimp only at hK ⊢
          simp only [Act.put, List.setIfInBounds_toArray, List.set_cons_succ, List.set_cons_zero] at hK
          generalize vs 31 = vq31 at hK dq31 ⊢
          subst vq31
          generalize vs 32 = vq32 at hK dq32 ⊢
          subst vq32
          generalize vs 33 = vq33 at hK dq33 ⊢
          subst vq33
          generalize vs 36 = vq36 at hK dq36 ⊢
          subst vq36
          go_wp2_with (go_at_call 43; refine (wvalid_any t p B C G W ((HSd.out.at (hR)).2.2.2.2.2.1) (er : Int) aw kk cw (ws.take kk) LT.out ((HSd.out.at (hR)).2.2.1) (by omega)).mono ?_; rintro e' w' ⟨rfl, hm'⟩; rw [V2.out])
          exact hK _ _ rfl hm'
        refine opsOkA_cons ?_ ?_
        · intro K vs W hR hD hK
          have dq31 : vs 31 = .bool true := hD 31 (by decide)
          have dq37 : vs 37 = .bool true := hD 37 (by decide)
          clear hD
          try dsimp only at hK ⊢
          simp only [Act.put, List.setIfInBounds_toArray, List.set_cons_succ, List.set_cons_zero] at hK
          generalize vs 31 = vq31 at hK dq31 ⊢
          subst vq31
          generalize vs 37 = vq37 at hK dq37 ⊢
          subst vq37
          go_wp2
          exact hK _ _ rfl (Mod.refl _ _)
        refine opsOkA_cons ?_ ?_
        · intro K vs W hR hD hK
          have dq38 : vs 38 = .bool true := hD 38 (by decide)
          clear hD
          try dsimp only at hK ⊢
          simp only [Act.put, List.setIfInBounds_toArray, List.set_cons_succ, List.set_cons_zero] at hK
          generalize vs 38 = vq38 at hK dq38 ⊢
          subst vq38
          go_wp2
          exact hK _ _ rfl (Mod.refl _ _)
        refine opsOkA_cons ?_ ?_
        · intro K vs W hR hD hK
          have dq39 : vs 39 = .bool true := hD 39 (by decide)
          clear hD
          try dsimp only at hK ⊢
          simp only [Act.put, List.setIfInBounds_toArray, List.set_cons_succ, List.set_cons_zero] at hK
          generalize vs 39 = vq39 at hK dq39 ⊢
          subst vq39
          go_wp2
          exact hK _ _ rfl (Mod.refl _ _)
        refine opsOkA_cons ?_ ?_
        · intro K vs W hR hD hK
          have dq39 : vs 39 = .bool true := hD 39 (by decide)
          clear hD
          try dsimp only at hK ⊢
          simp only [Act.put, List.setIfInBounds_toArray, List.set_cons_succ, List.set_cons_zero] at hK
          generalize vs 39 = vq39 at hK dq39 ⊢
          subst vq39
          go_wp2
          exact hK _ _ rfl (Mod.refl _ _)
        refine opsOkA_cons ?_ ?_
        · intro K vs W hR hD hK
          have dq39 : vs 39 = .bool true := hD 39 (by decide)
          clear hD
          try dsimp only at hK ⊢
          simp only [Act.put, List.setIfInBounds_toArray, List.set_cons_succ, List.set_cons_zero] at hK
          generalize vs 39 = vq39 at hK dq39 ⊢
          subst vq39
          go_wp2
          exact hK _ _ rfl (Mod.refl _ _)
        refine opsOkA_cons ?_ ?_
        · intro K vs W hR hD hK
          have dq39 : vs 39 = .bool true := hD 39 (by decide)
          clear hD
          try dsimp only at hK ⊢
          simp only [Act.put, List.setIfInBounds_toArray, List.set_cons_succ, List.set_cons_zero] at hK
          generalize vs 39 = vq39 at hK dq39 ⊢
          subst vq39
          go_wp2
          exact hK _ _ rfl (Mod.refl _ _)
        refine opsOkA_cons ?_ ?_
        · intro K vs W hR hD hK
          have dq39 : vs 39 = .bool true := hD 39 (by decide)
          have dq42 : vs 42 = .slice aw lw cw := hD 42 (by decide)
          have dq43 : vs 43 = .int .i64 (kk : Int) := hD 43 (by decide)
          clear hD
          try dsimp only at hK ⊢
          simp only [Act.put, List.setIfInBounds_toArray, List.set_cons_succ, List.set_cons_zero] at hK
          generalize vs 39 = vq39 at hK dq39 ⊢
          subst vq39
          generalize vs 42 = vq42 at hK dq42 ⊢
          subst vq42
          generalize vs 43 = vq43 at hK dq43 ⊢
          subst vq43
          go_wp2_with fail
          exact hK _ _ rfl (Mod.refl _ _)
        refine opsOkA_cons ?_ ?_
        · intro K vs W hR hD hK
          have dq39 : vs 39 = .bool true := hD 39 (by decide)
          have dq40 : vs 40 = .pointer (some ⟨t, 0, none⟩) := hD 40 (by decide)
          have dq41 : vs 41 = .int .i64 md := hD 41 (by decide)
          have dq44 : vs 44 = .slice (dropA aw cw kk 1) (lw - kk) (cw - kk) := hD 44 (by decide)
          clear hD
          try dsimp only at hK ⊢
          simp only [Act.put, List.setIfInBounds_toArray, List.set_cons_succ, List.set_cons_zero] at hK
          generalize vs 39 = vq39 at hK dq39 ⊢
          subst vq39
          generalize vs 40 = vq40 at hK dq40 ⊢
          subst vq40
          generalize vs 41 = vq41 at hK dq41 ⊢
          subst vq41
          generalize vs 44 = vq44 at hK dq44 ⊢
          subst vq44
          go_wp2_with (go_at_call 43; refine (wvalid_any t p B C G W ((HSd.out.at (hR)).2.2.2.2.2.1) md (dropA aw cw kk 1) (lw - kk) (cw - kk) (ws.drop kk) LD.out ((HSd.out.at (hR)).2.1) (by omega)).mono ?_; rintro e' w' ⟨rfl, hm'⟩; rw [V3.out])
          exact hK _ _ rfl hm'
        refine opsOkA_cons ?_ ?_
        · intro K vs W hR hD hK
          have dq39 : vs 39 = .bool true := hD 39 (by decide)
          have dq45 : vs 45 = .bool true := hD 45 (by decide)
          clear hD
          try dsimp only at hK ⊢
          simp only [Act.put, List.setIfInBounds_toArray, List.set_cons_succ, List.set_cons_zero] at hK
          generalize vs 39 = vq39 at hK dq39 ⊢
          subst vq39
          generalize vs 45 = vq45 at hK dq45 ⊢
          subst vq45
          go_wp2
          exact hK _ _ rfl (Mod.refl _ _)
        refine opsOkA_cons ?_ ?_
        · intro K vs W hR hD hK
          have dq46 : vs 46 = .bool true := hD 46 (by decide)
          clear hD
          try dsimp only at hK ⊢
          simp only [Act.put, List.setIfInBounds_toArray, List.set_cons_succ, List.set_cons_zero] at hK
          generalize vs 46 = vq46 at hK dq46 ⊢
          subst vq46
          go_wp2
          exact hK _ _ rfl (Mod.refl _ _)
        refine opsOkA_cons ?_ ?_
        · intro K vs W hR hD hK
          have dq47 : vs 47 = .bool true := hD 47 (by decide)
          clear hD
          try dsimp only at hK ⊢
          simp only [Act.put, List.setIfInBounds_toArray, List.set_cons_succ, List.set_cons_zero] at hK
          generalize vs 47 = vq47 at hK dq47 ⊢
          subst vq47
          go_wp2
          exact hK _ _ rfl (Mod.refl _ _)
        refine opsOkA_cons ?_ ?_
        · intro K vs W hR hD hK
          have dq47 : vs 47 = .bool true := hD 47 (by decide)
          clear hD
          try dsimp only at hK ⊢
          simp only [Act.put, List.setIfInBounds_toArray, List.set_cons_succ, List.set_cons_zero] at hK
          generalize vs 47 = vq47 at hK dq47 ⊢
          subst vq47
          go_wp2
          exact hK _ _ rfl (Mod.refl _ _)
        refine opsOkA_cons ?_ ?_
        · intro K vs W hR hD hK
          have dq47 : vs 47 = .bool true := hD 47 (by decide)
          have dq48 : vs 48 = .slice aw lw cw := hD 48 (by decide)
          have dq49 : vs 49 = .int .i64 (kk : Int) := hD 49 (by decide)
          clear hD
          try dsimp only at hK ⊢
          simp only [Act.put, List.setIfInBounds_toArray, List.set_cons_succ, List.set_cons_zero] at hK
          generalize vs 47 = vq47 at hK dq47 ⊢
          subst vq47
          generalize vs 48 = vq48 at hK dq48 ⊢
          subst vq48
          generalize vs 49 = vq49 at hK dq49 ⊢
          subst vq49
          go_wp2_with fail
          exact hK _ _ rfl (Mod.refl _ _)
        refine opsOkA_cons ?_ ?_
        · intro K vs W hR hD hK
          have dq47 : vs 47 = .bool true := hD 47 (by decide)
          clear hD
          try dsimp only at hK ⊢
          simp only [Act.put, List.setIfInBounds_toArray, List.set_cons_succ, List.set_cons_zero] at hK
          generalize vs 47 = vq47 at hK dq47 ⊢
          subst vq47
          go_wp2
          exact hK _ _ rfl (Mod.refl _ _)
        refine opsOkA_cons ?_ ?_
        · intro K vs W hR hD hK
          have dq47 : vs 47 = .bool true := hD 47 (by decide)
          have dq50 : vs 50 = .slice aw kk cw := hD 50 (by decide)
          have dq51 : vs 51 = .slice aw lw cw := hD 51 (by decide)
          clear hD
          try dsimp only at hK ⊢
          simp only [Act.put, List.setIfInBounds_toArray, List.set_cons_succ, List.set_cons_zero] at hK
          generalize vs 47 = vq47 at hK dq47 ⊢
          subst vq47
          generalize vs 50 = vq50 at hK dq50 ⊢
          subst vq50
          generalize vs 51 = vq51 at hK dq51 ⊢
          subst vq51
          go_wp2_with (go_at_call 45; refine (wcmp_any W aw kk cw (ws.take kk) LT.out ((HSd.out.at (hR)).2.2.1) (by omega) aw lw cw ws HLW.out ((HSd.out.at (hR)).2.2.2.1) (by omega)).mono ?_; rintro e' w' ⟨rfl, hm'⟩; rw [CV.out])
          exact hK _ _ rfl hm'
        refine opsOkA_cons ?_ ?_
        · intro K vs W hR hD hK
          have dq47 : vs 47 = .bool true := hD 47 (by decide)
          clear hD
          try dsimp only at hK ⊢
          simp only [Act.put, List.setIfInBounds_toArray, List.set_cons_succ, List.set_cons_zero] at hK
          generalize vs 47 = vq47 at hK dq47 ⊢
          subst vq47
          go_wp2
          exact hK _ _ rfl (Mod.refl _ _)
        refine opsOkA_cons ?_ ?_
        · intro K vs W hR hD hK
          have dq47 : vs 47 = .bool true := hD 47 (by decide)
          clear hD
          try dsimp only at hK ⊢
          simp only [Act.put, List.setIfInBounds_toArray, List.set_cons_succ, List.set_cons_zero] at hK
          generalize vs 47 = vq47 at hK dq47 ⊢
          subst vq47
          go_wp2
          exact hK _ _ rfl (Mod.refl _ _)
        refine opsOkA_cons ?_ ?_
        · intro K vs W hR hD hK
          have dq47 : vs 47 = .bool true := hD 47 (by decide)
          have dq54 : vs 54 = .slice aw lw cw := hD 54 (by decide)
          clear hD
          try dsimp only at hK ⊢
          simp only [Act.put, List.setIfInBounds_toArray, List.set_cons_succ, List.set_cons_zero] at hK
          generalize vs 47 = vq47 at hK dq47 ⊢
          subst vq47
          generalize vs 54 = vq54 at hK dq54 ⊢
          subst vq54
          go_wp2_with fail
          exact hK _ _ rfl (Mod.refl _ _)
        refine opsOkA_cons ?_ ?_
        · intro K vs W hR hD hK
          have dq47 : vs 47 = .bool true := hD 47 (by decide)
          have dq53 : vs 53 = .int .i64 (kk : Int) := hD 53 (by decide)
          have dq55 : vs 55 = .int .i64 (lw : Int) := hD 55 (by decide)
          clear hD
          try dsimp only at hK ⊢
          simp only [Act.put, List.setIfInBounds_toArray, List.set_cons_succ, List.set_cons_zero] at hK
          generalize vs 47 = vq47 at hK dq47 ⊢
          subst vq47
          generalize vs 53 = vq53 at hK dq53 ⊢
          subst vq53
          generalize vs 55 = vq55 at hK dq55 ⊢
          subst vq55
          go_wp2
          exact hK _ _ rfl (Mod.refl _ _)
        refine opsOkA_cons ?_ ?_
        · intro K vs W hR hD hK
          have dq47 : vs 47 = .bool true := hD 47 (by decide)
          have dq56 : vs 56 = .int .i64 ((kk : Int) - (lw : Int)) := hD 56 (by decide)
          clear hD
          try dsimp only at hK ⊢
          simp only [Act.put, List.setIfInBounds_toArray, List.set_cons_succ, List.set_cons_zero] at hK
          generalize vs 47 = vq47 at hK dq47 ⊢
          subst vq47
          generalize vs 56 = vq56 at hK dq56 ⊢
          subst vq56
          go_wp2_with fail
          exact hK _ _ rfl (Mod.refl _ _)
        refine opsOkA_cons ?_ ?_
        · intro K vs W hR hD hK
          have dq47 : vs 47 = .bool true := hD 47 (by decide)
          clear hD
          try dsimp only at hK ⊢
          simp only [Act.put, List.setIfInBounds_toArray, List.set_cons_succ, List.set_cons_zero] at hK
          generalize vs 47 = vq47 at hK dq47 ⊢
          subst vq47
          go_wp2
          exact hK _ _ rfl (Mod.refl _ _)
        refine opsOkA_cons ?_ ?_
        · intro K vs W hR hD hK
          have dq47 : vs 47 = .bool true := hD 47 (by decide)
          have dq58 : vs 58 = .slice aw lw cw := hD 58 (by decide)
          clear hD
          try dsimp only at hK ⊢
          simp only [Act.put, List.setIfInBounds_toArray, List.set_cons_succ, List.set_cons_zero] at hK
          generalize vs 47 = vq47 at hK dq47 ⊢
          subst vq47
          generalize vs 58 = vq58 at hK dq58 ⊢
          subst vq58
          go_wp2_with fail
          exact hK _ _ rfl (Mod.refl _ _)
        refine opsOkA_cons ?_ ?_
        · intro K vs W hR hD hK
          have dq47 : vs 47 = .bool true := hD 47 (by decide)
          clear hD
          try dsimp only at hK ⊢
          simp only [Act.put, List.setIfInBounds_toArray, List.set_cons_succ, List.set_cons_zero] at hK
          generalize vs 47 = vq47 at hK dq47 ⊢
          subst vq47
          go_wp2
          exact hK _ _ rfl (Mod.refl _ _)
        refine opsOkA_cons ?_ ?_
        · intro K vs W hR hD hK
          have dq47 : vs 47 = .bool true := hD 47 (by decide)
          have dq59 : vs 59 = .int .i64 (lw : Int) := hD 59 (by decide)
          have dq60 : vs 60 = .int .i64 (kk : Int) := hD 60 (by decide)
          clear hD
          try dsimp only at hK ⊢
          simp only [Act.put, List.setIfInBounds_toArray, List.set_cons_succ, List.set_cons_zero] at hK
          generalize vs 47 = vq47 at hK dq47 ⊢
          subst vq47
          generalize vs 59 = vq59 at hK dq59 ⊢
          subst vq59
          generalize vs 60 = vq60 at hK dq60 ⊢
          subst vq60
          go_wp2
          exact hK _ _ rfl (Mod.refl _ _)
        refine opsOkA_cons ?_ ?_
        · intro K vs W hR hD hK
          have dq47 : vs 47 = .bool true := hD 47 (by decide)
          have dq61 : vs 61 = .int .i64 ((lw : Int) - (kk : Int)) := hD 61 (by decide)
          clear hD
          try dsimp only at hK ⊢
          simp only [Act.put, List.setIfInBounds_toArray, List.set_cons_succ, List.set_cons_zero] at hK
          generalize vs 47 = vq47 at hK dq47 ⊢
          subst vq47
          generalize vs 61 = vq61 at hK dq61 ⊢
          subst vq61
          go_wp2_with fail
          exact hK _ _ rfl (Mod.refl _ _)
        refine opsOkA_cons ?_ ?_
        · intro K vs W hR hD hK
          have dq47 : vs 47 = .bool true := hD 47 (by decide)
          have dq57 : vs 57 = .int .i64 (((kk : Int) - (lw : Int))) := hD 57 (by decide)
          have dq62 : vs 62 = .int .i64 (((lw : Int) - (kk : Int))) := hD 62 (by decide)
          clear hD
          try dsimp only at hK ⊢
          simp only [Act.put, List.setIfInBounds_toArray, List.set_cons_succ, List.set_cons_zero] at hK
          generalize vs 47 = vq47 at hK dq47 ⊢
          subst vq47
          generalize vs 57 = vq57 at hK dq57 ⊢
          subst vq57
          generalize vs 62 = vq62 at hK dq62 ⊢
          subst vq62
          go_wp2
          exact hK _ _ rfl (Mod.refl _ _)
        refine opsOkA_cons ?_ ?_
        · intro K vs W hR hD hK
          have dq47 : vs 47 = .bool true := hD 47 (by decide)
          have dq52 : vs 52 = .int .i64 (-1) := hD 52 (by decide)
          have dq63 : vs 63 = .int .i64 (-1) := hD 63 (by decide)
          clear hD
          try dsimp only at hK ⊢
          simp only [Act.put, List.setIfInBounds_toArray, List.set_cons_succ, List.set_cons_zero] at hK
          generalize vs 47 = vq47 at hK dq47 ⊢
          subst vq47
          generalize vs 52 = vq52 at hK dq52 ⊢
          subst vq52
          generalize vs 63 = vq63 at hK dq63 ⊢
          subst vq63
          go_wp2
          exact hK _ _ rfl (Mod.refl _ _)
        refine opsOkA_cons ?_ ?_
        · intro K vs W hR hD hK
          have dq47 : vs 47 = .bool true := hD 47 (by decide)
          have dq64 : vs 64 = .bool true := hD 64 (by decide)
          clear hD
          try dsimp only at hK ⊢
          simp only [Act.put, List.setIfInBounds_toArray, List.set_cons_succ, List.set_cons_zero] at hK
          generalize vs 47 = vq47 at hK dq47 ⊢
          subst vq47
          generalize vs 64 = vq64 at hK dq64 ⊢
          subst vq64
          go_wp2
          exact hK _ _ rfl (Mod.refl _ _)
        refine opsOkA_cons ?_ ?_
        · intro K vs W hR hD hK
          have dq65 : vs 65 = .bool true := hD 65 (by decide)
          clear hD
          try dsimp only at hK ⊢
          simp only [Act.put, List.setIfInBounds_toArray, List.set_cons_succ, List.set_cons_zero] at hK
          generalize vs 65 = vq65 at hK dq65 ⊢
          subst vq65
          go_wp2
          exact hK _ _ rfl (Mod.refl _ _)
        refine opsOkA_cons ?_ ?_
        · intro K vs W hR hD hK
          have dq66 : vs 66 = .bool true := hD 66 (by decide)
          clear hD
          try dsimp only at hK ⊢
          simp only [Act.put, List.setIfInBounds_toArray, List.set_cons_succ, List.set_cons_zero] at hK
          generalize vs 66 = vq66 at hK dq66 ⊢
          subst vq66
          go_wp2_with (go_at_call 36; refine (awake8_any W).mono ?_; rintro e' w' ⟨rfl, hm'⟩)
          exact hK _ _ rfl hm'
        refine opsOkA_cons ?_ ?_
        · intro K vs W hR hD hK
          have dq66 : vs 66 = .bool true := hD 66 (by decide)
          have dq67 : vs 67 = .bool true := hD 67 (by decide)
          clear hD
          try dsimp only at hK ⊢
          simp only [Act.put, List.setIfInBounds_toArray, List.set_cons_succ, List.set_cons_zero] at hK
          generalize vs 66 = vq66 at hK dq66 ⊢
          subst vq66
          generalize vs 67 = vq67 at hK dq67 ⊢
          subst vq67
          go_wp2
          exact hK _ _ rfl (Mod.refl _ _)
        refine opsOkA_cons ?_ ?_
        · intro K vs W hR hD hK
          have dq68 : vs 68 = .bool true := hD 68 (by decide)
          clear hD
          try dsimp only at hK ⊢
          simp only [Act.put, List.setIfInBounds_toArray, List.set_cons_succ, List.set_cons_zero] at hK
          generalize vs 68 = vq68 at hK dq68 ⊢
          subst vq68
          go_wp2
          exact hK _ _ rfl (Mod.refl _ _)
        exact opsOkA_nil
      · intro vs wq11 hR hF
        have dq69 : vs 69 = .bool true := hF 69 (by decide)
        clear hF
        try dsimp only
        generalize vs 69 = vq69 at dq69 ⊢
        subst dq69
        replace HS := Lib.hid (HSd.out.step hR)
        clear HSd hR
        have hbbg := (HS.out.now).2.2.2.2.1
        have qbg_0 := hbbg.cell 0 rfl
        have qbg_1 := hbbg.cell 1 rfl
        have qbg_2 := hbbg.cell 2 rfl
        have lbg := hbbg.lt
        clear hbbg
        go_wp2_with fail
        go_ret
        exact ⟨rfl, (HS.out.now).2.2.2.2.2.2.2.2.2⟩
    case neg =>
      have CV : Hid (cmpL (ws.take kk) ws = 0) := Lib.hid (by rw [CT.out, if_neg hlt])
      go_upto_region 17 with fail
      simp only [List.append]
      clear qbg_0 qbg_1 qbg_2 lbg
      have HSd := Lib.hid HS.out.drew
      refine wp_region_inv3 (act := ?actwj_r17_1) (Mod (fun _ => False)) (fun i => (wj_r17_1_F t er lw cw aw kk md s1 s2 en).getD i (fun _ _ => True)) (fun i => wj_r17_1_D.getD i []) (by kernel_rfl) (by kernel_rfl) (by kernel_rfl) (by kernel_rfl) (fun _ => Mod.refl _ _)
        (fun _ _ _ h k => h.trans k (fun _ _ e => e) (fun _ _ e => e)) ?hactwj_r17_1 (stable_list ?_) ?_ ?_
      case hactwj_r17_1 => intro vs; simp only [putAll, Nat.zero_add, Nat.reduceAdd, Act.put, List.setIfInBounds_toArray, List.set_cons_succ, List.set_cons_zero]; exact rfl
      · unfold wj_r17_1_F
        exact stable_cons (stable_val _) <| stable_cons (stable_val _) <| stable_cons (stable_val _) <| stable_cons (stable_val _) <| stable_cons (stable_val _) <| stable_cons (stable_val _) <| stable_cons (stable_val _) <| stable_cons (stable_val _) <| stable_cons (stable_val _) <| stable_cons (stable_val _) <| stable_cons (stable_val _) <| stable_cons (stable_val _) <| stable_cons (stable_val _) <| stable_cons (stable_val _) <| stable_cons (stable_val _) <| stable_cons (stable_val _) <| stable_cons (stable_val _) <| stable_cons (stable_val _) <| stable_cons (stable_val _) <| stable_cons (stable_val _) <| stable_cons (stable_val _) <| stable_cons (stable_val _) <| stable_cons (stable_val _) <| stable_cons (stable_val _) <| stable_cons (stable_val _) <| stable_cons (stable_val _) <| stable_cons (stable_val _) <| stable_cons (stable_val _) <| stable_cons (stable_val _) <| stable_cons (stable_val _) <| stable_cons (stable_val _) <| stable_cons (stable_val _) <| stable_cons (stable_val _) <| stable_cons (stable_val _) <| stable_cons (stable_val _) <| stable_cons (stable_val _) <| stable_cons (stable_val _) <| stable_cons (stable_val _) <| stable_cons (stable_val _) <| stable_cons (stable_val _) <| stable_cons (stable_val _) <| stable_cons (stable_val _) <| stable_cons (stable_val _) <| stable_cons (stable_val _) <| stable_cons (stable_val _) <| stable_cons (stable_val _) <| stable_cons (stable_val _) <| stable_cons (stable_val _) <| stable_cons (stable_val _) <| stable_cons (stable_val _) <| stable_cons (stable_val _) <| stable_cons (stable_val _) <| stable_cons (stable_val _) <| stable_cons (stable_val _) <| stable_cons (stable_val _) <| stable_cons (stable_val _) <| stable_cons (stable_val _) <| stable_cons (stable_val _) <| stable_cons (stable_val _) <| stable_cons (stable_val _) <| stable_cons (stable_val _) <| stable_cons (stable_val _) <| stable_cons (stable_val _) <| stable_cons (stable_val _) <| stable_cons (stable_val _) <| stable_cons (stable_val _) <| stable_cons (stable_val _) <| stable_cons (stable_val _) <| stable_cons (stable_val _) <| stable_cons (stable_val _) <| stable_nil
      · refine opsOkA_cons ?_ ?_
        · intro K vs W hR hD hK
          clear hD
          try dsimp only at hK ⊢
          simp only [Act.put, List.setIfInBounds_toArray, List.set_cons_succ, List.set_cons_zero] at hK
          go_wp2
          exact hK _ _ rfl (Mod.refl _ _)
        refine opsOkA_cons ?_ ?_
        · intro K vs W hR hD hK
          have dq0 : vs 0 = .bool true := hD 0 (by decide)
          clear hD
          try dsimp only at hK ⊢
          simp only [Act.put, List.setIfInBounds_toArray, List.set_cons_succ, List.set_cons_zero] at hK
          generalize vs 0 = vq0 at hK dq0 ⊢
          subst vq0
          go_wp2
          exact hK _ _ rfl (Mod.refl _ _)
        refine opsOkA_cons ?_ ?_
        · intro K vs W hR hD hK
          have dq1 : vs 1 = .bool true := hD 1 (by decide)
          clear hD
          try dsimp only at hK ⊢
          simp only [Act.put, List.setIfInBounds_toArray, List.set_cons_succ, List.set_cons_zero] at hK
          generalize vs 1 = vq1 at hK dq1 ⊢
          subst vq1
          go_wp2
          exact hK _ _ rfl (Mod.refl _ _)
        refine opsOkA_cons ?_ ?_
        · intro K vs W hR hD hK
          have dq1 : vs 1 = .bool true := hD 1 (by decide)
          have dq2 : vs 2 = .bool true := hD 2 (by decide)
          clear hD
          try dsimp only at hK ⊢
          simp only [Act.put, List.setIfInBounds_toArray, List.set_cons_succ, List.set_cons_zero] at hK
          generalize vs 1 = vq1 at hK dq1 ⊢
          subst vq1
          generalize vs 2 = vq2 at hK dq2 ⊢
          subst vq2
          go_wp2
          exact hK _ _ rfl (Mod.refl _ _)
        refine opsOkA_cons ?_ ?_
        · intro K vs W hR hD hK
          have dq3 : vs 3 = .bool true := hD 3 (by decide)
          clear hD
          try dsimp only at hK ⊢
          simp only [Act.put, List.setIfInBounds_toArray, List.set_cons_succ, List.set_cons_zero] at hK
          generalize vs 3 = vq3 at hK dq3 ⊢
          subst vq3
          go_wp2
          exact hK _ _ rfl (Mod.refl _ _)
        refine opsOkA_cons ?_ ?_
        · intro K vs W hR hD hK
          have dq4 : vs 4 = .bool true := hD 4 (by decide)
          clear hD
          try dsimp only at hK ⊢
          simp only [Act.put, List.setIfInBounds_toArray, List.set_cons_succ, List.set_cons_zero] at hK
          generalize vs 4 = vq4 at hK dq4 ⊢
          subst vq4
          go_wp2
          exact hK _ _ rfl (Mod.refl _ _)
        refine opsOkA_cons ?_ ?_
        · intro K vs W hR hD hK
          have dq4 : vs 4 = .bool true := hD 4 (by decide)
          have dq5 : vs 5 = .bool true := hD 5 (by decide)
          clear hD
          try dsimp only at hK ⊢
          simp only [Act.put, List.setIfInBounds_toArray, List.set_cons_succ, List.set_cons_zero] at hK
          generalize vs 4 = vq4 at hK dq4 ⊢
          subst vq4
          generalize vs 5 = vq5 at hK dq5 ⊢
          subst vq5
          go_wp2
          exact hK _ _ rfl (Mod.refl _ _)
        refine opsOkA_cons ?_ ?_
        · intro K vs W hR hD hK
          have dq6 : vs 6 = .bool true := hD 6 (by decide)
          clear hD
          try dsimp only at hK ⊢
          simp only [Act.put, List.setIfInBounds_toArray, List.set_cons_succ, List.set_cons_zero] at hK
          generalize vs 6 = vq6 at hK dq6 ⊢
          subst vq6
          go_wp2
          exact hK _ _ rfl (Mod.refl _ _)
        refine opsOkA_cons ?_ ?_
        · intro K vs W hR hD hK
          have dq7 : vs 7 = .bool true := hD 7 (by decide)
          clear hD
          try dsimp only at hK ⊢
          simp only [Act.put, List.setIfInBounds_toArray, List.set_cons_succ, List.set_cons_zero] at hK
          generalize vs 7 = vq7 at hK dq7 ⊢
          subst vq7
          go_wp2
          exact hK _ _ rfl (Mod.refl _ _)
        refine opsOkA_cons ?_ ?_
        · intro K vs W hR hD hK
          have dq7 : vs 7 = .bool true := hD 7 (by decide)
          have dq8 : vs 8 = .bool true := hD 8 (by decide)
          clear hD
          try dsimp only at hK ⊢
          simp only [Act.put, List.setIfInBounds_toArray, List.set_cons_succ, List.set_cons_zero] at hK
          generalize vs 7 = vq7 at hK dq7 ⊢
          subst vq7
          generalize vs 8 = vq8 at hK dq8 ⊢
          subst vq8
          go_wp2
          exact hK _ _ rfl (Mod.refl _ _)
        refine opsOkA_cons ?_ ?_
        · intro K vs W hR hD hK
          have dq9 : vs 9 = .bool true := hD 9 (by decide)
          clear hD
          try dsimp only at hK ⊢
          simp only [Act.put, List.setIfInBounds_toArray, List.set_cons_succ, List.set_cons_zero] at hK
          generalize vs 9 = vq9 at hK dq9 ⊢
          subst vq9
          go_wp2
          exact hK _ _ rfl (Mod.refl _ _)
        refine opsOkA_cons ?_ ?_
        · intro K vs W hR hD hK
          have dq10 : vs 10 = .bool true := hD 10 (by decide)
          clear hD
          try dsimp only at hK ⊢
          simp only [Act.put, List.setIfInBounds_toArray, List.set_cons_succ, List.set_cons_zero] at hK
          generalize vs 10 = vq10 at hK dq10 ⊢
          subst vq10
          go_wp2
          exact hK _ _ rfl (Mod.refl _ _)
        refine opsOkA_cons ?_ ?_
        · intro K vs W hR hD hK
          have dq10 : vs 10 = .bool true := hD 10 (by decide)
          have dq11 : vs 11 = .bool true := hD 11 (by decide)
          clear hD
          try dsimp only at hK ⊢
          simp only [Act.put, List.setIfInBounds_toArray, List.set_cons_succ, List.set_cons_zero] at hK
          generalize vs 10 = vq10 at hK dq10 ⊢
          subst vq10
          generalize vs 11 = vq11 at hK dq11 ⊢
          subst vq11
          go_wp2
          exact hK _ _ rfl (Mod.refl _ _)
        refine opsOkA_cons ?_ ?_
        · intro K vs W hR hD hK
          have dq12 : vs 12 = .bool true := hD 12 (by decide)
          clear hD
          try dsimp only at hK ⊢
          simp only [Act.put, List.setIfInBounds_toArray, List.set_cons_succ, List.set_cons_zero] at hK
          generalize vs 12 = vq12 at hK dq12 ⊢
          subst vq12
          go_wp2
          exact hK _ _ rfl (Mod.refl _ _)
        refine opsOkA_cons ?_ ?_
        · intro K vs W hR hD hK
          have dq13 : vs 13 = .bool true := hD 13 (by decide)
          clear hD
          try dsimp only at hK ⊢
          simp only [Act.put, List.setIfInBounds_toArray, List.set_cons_succ, List.set_cons_zero] at hK
          generalize vs 13 = vq13 at hK dq13 ⊢
          subst vq13
          go_wp2
          exact hK _ _ rfl (Mod.refl _ _)
        refine opsOkA_cons ?_ ?_
        · intro K vs W hR hD hK
          have dq13 : vs 13 = .bool true := hD 13 (by decide)
          clear hD
          try dsimp only at hK ⊢
          simp only [Act.put, List.setIfInBounds_toArray, List.set_cons_succ, List.set_cons_zero] at hK
          generalize vs 13 = vq13 at hK dq13 ⊢
          subst vq13
          go_wp2
          exact hK _ _ rfl (Mod.refl _ _)
        refine opsOkA_cons ?_ ?_
        · intro K vs W hR hD hK
          have dq13 : vs 13 = .bool true := hD 13 (by decide)
          have dq14 : vs 14 = .int .i64 s1 := hD 14 (by decide)
          have dq15 : vs 15 = .int .i64 s2 := hD 15 (by decide)
          clear hD
          try dsimp only at hK ⊢
          simp only [Act.put, List.setIfInBounds_toArray, List.set_cons_succ, List.set_cons_zero] at hK
          generalize vs 13 = vq13 at hK dq13 ⊢
          subst vq13
          generalize vs 14 = vq14 at hK dq14 ⊢
          subst vq14
          generalize vs 15 = vq15 at hK dq15 ⊢
          subst vq15
          go_wp2
          exact hK _ _ rfl (Mod.refl _ _)
        refine opsOkA_cons ?_ ?_
        · intro K vs W hR hD hK
          have dq13 : vs 13 = .bool true := hD 13 (by decide)
          clear hD
          try dsimp only at hK ⊢
          simp only [Act.put, List.setIfInBounds_toArray, List.set_cons_succ, List.set_cons_zero] at hK
          generalize vs 13 = vq13 at hK dq13 ⊢
          subst vq13
          go_wp2
          exact hK _ _ rfl (Mod.refl _ _)
        refine opsOkA_cons ?_ ?_
        · intro K vs W hR hD hK
          have dq13 : vs 13 = .bool true := hD 13 (by decide)
          have dq16 : vs 16 = .int .i64 (s1 + s2) := hD 16 (by decide)
          have dq17 : vs 17 = .int .i64 (s1 + s2) := hD 17 (by decide)
          clear hD
          try dsimp only at hK ⊢
          simp only [Act.put, List.setIfInBounds_toArray, List.set_cons_succ, List.set_cons_zero] at hK
          generalize vs 13 = vq13 at hK dq13 ⊢
          subst vq13
          generalize vs 16 = vq16 at hK dq16 ⊢
          subst vq16
          generalize vs 17 = vq17 at hK dq17 ⊢
          subst vq17
          go_wp2
          exact hK _ _ rfl (Mod.refl _ _)
        refine opsOkA_cons ?_ ?_
        · intro K vs W hR hD hK
          have dq13 : vs 13 = .bool true := hD 13 (by decide)
          have dq18 : vs 18 = .bool true := hD 18 (by decide)
          clear hD
          try dsimp only at hK ⊢
          simp only [Act.put, List.setIfInBounds_toArray, List.set_cons_succ, List.set_cons_zero] at hK
          generalize vs 13 = vq13 at hK dq13 ⊢
          subst vq13
          generalize vs 18 = vq18 at hK dq18 ⊢
          subst vq18
          go_wp2
          exact hK _ _ rfl (Mod.refl _ _)
        refine opsOkA_cons ?_ ?_
        · intro K vs W hR hD hK
          have dq19 : vs 19 = .bool true := hD 19 (by decide)
          clear hD
          try dsimp only at hK ⊢
          simp only [Act.put, List.setIfInBounds_toArray, List.set_cons_succ, List.set_cons_zero] at hK
          generalize vs 19 = vq19 at hK dq19 ⊢
          subst vq19
          go_wp2
          exact hK _ _ rfl (Mod.refl _ _)
        refine opsOkA_cons ?_ ?_
        · intro K vs W hR hD hK
          have dq20 : vs 20 = .bool true := hD 20 (by decide)
          clear hD
          try dsimp only at hK ⊢
          simp only [Act.put, List.setIfInBounds_toArray, List.set_cons_succ, List.set_cons_zero] at hK
          generalize vs 20 = vq20 at hK dq20 ⊢
          subst vq20
          go_wp2
          exact hK _ _ rfl (Mod.refl _ _)
        refine opsOkA_cons ?_ ?_
        · intro K vs W hR hD hK
          have dq20 : vs 20 = .bool true := hD 20 (by decide)
          clear hD
          try dsimp only at hK ⊢
          simp only [Act.put, List.setIfInBounds_toArray, List.set_cons_succ, List.set_cons_zero] at hK
          generalize vs 20 = vq20 at hK dq20 ⊢
          subst vq20
          go_wp2
          exact hK _ _ rfl (Mod.refl _ _)
        refine opsOkA_cons ?_ ?_
        · intro K vs W hR hD hK
          have dq20 : vs 20 = .bool true := hD 20 (by decide)
          have dq21 : vs 21 = .int .i64 en := hD 21 (by decide)
          have dq22 : vs 22 = .int .i64 en := hD 22 (by decide)
          clear hD
          try dsimp only at hK ⊢
          simp only [Act.put, List.setIfInBounds_toArray, List.set_cons_succ, List.set_cons_zero] at hK
          generalize vs 20 = vq20 at hK dq20 ⊢
          subst vq20
          generalize vs 21 = vq21 at hK dq21 ⊢
          subst vq21
          generalize vs 22 = vq22 at hK dq22 ⊢
          subst vq22
          go_wp2
          exact hK _ _ rfl (Mod.refl _ _)
        refine opsOkA_cons ?_ ?_
        · intro K vs W hR hD hK
          have dq20 : vs 20 = .bool true := hD 20 (by decide)
          have dq23 : vs 23 = .bool true := hD 23 (by decide)
          clear hD
          try dsimp only at hK ⊢
          simp only [Act.put, List.setIfInBounds_toArray, List.set_cons_succ, List.set_cons_zero] at hK
          generalize vs 20 = vq20 at hK dq20 ⊢
          subst vq20
          generalize vs 23 = vq23 at hK dq23 ⊢
          subst vq23
          go_wp2
          exact hK _ _ rfl (Mod.refl _ _)
        refine opsOkA_cons ?_ ?_
        · intro K vs W hR hD hK
          have dq24 : vs 24 = .bool true := hD 24 (by decide)
          clear hD
          try dsimp only at hK ⊢
          simp only [Act.put, List.setIfInBounds_toArray, List.set_cons_succ, List.set_cons_zero] at hK
          generalize vs 24 = vq24 at hK dq24 ⊢
          subst vq24
          go_wp2
          exact hK _ _ rfl (Mod.refl _ _)
        refine opsOkA_cons ?_ ?_
        · intro K vs W hR hD hK
          have dq25 : vs 25 = .bool true := hD 25 (by decide)
          clear hD
          try dsimp only at hK ⊢
          simp only [Act.put, List.setIfInBounds_toArray, List.set_cons_succ, List.set_cons_zero] at hK
          generalize vs 25 = vq25 at hK dq25 ⊢
          subst vq25
          go_wp2
          exact hK _ _ rfl (Mod.refl _ _)
        refine opsOkA_cons ?_ ?_
        · intro K vs W hR hD hK
          have dq25 : vs 25 = .bool true := hD 25 (by decide)
          clear hD
          try dsimp only at hK ⊢
          simp only [Act.put, List.setIfInBounds_toArray, List.set_cons_succ, List.set_cons_zero] at hK
          generalize vs 25 = vq25 at hK dq25 ⊢
          subst vq25
          go_wp2
          exact hK _ _ rfl (Mod.refl _ _)
        refine opsOkA_cons ?_ ?_
        · intro K vs W hR hD hK
          have dq25 : vs 25 = .bool true := hD 25 (by decide)
          clear hD
          try dsimp only at hK ⊢
          simp only [Act.put, List.setIfInBounds_toArray, List.set_cons_succ, List.set_cons_zero] at hK
          generalize vs 25 = vq25 at hK dq25 ⊢
          subst vq25
          go_wp2
          exact hK _ _ rfl (Mod.refl _ _)
        refine opsOkA_cons ?_ ?_
        · intro K vs W hR hD hK
          have dq25 : vs 25 = .bool true := hD 25 (by decide)
          have dq26 : vs 26 = .pointer (some ⟨t, 0, none⟩) := hD 26 (by decide)
          have dq27 : vs 27 = .int .i64 (er : Int) := hD 27 (by decide)
          have dq28 : vs 28 = .slice aw lw cw := hD 28 (by decide)
          clear hD
          try dsimp only at hK ⊢
          simp only [Act.put, List.setIfInBounds_toArray, List.set_cons_succ, List.set_cons_zero] at hK
          generalize vs 25 = vq25 at hK dq25 ⊢
          subst vq25
          generalize vs 26 = vq26 at hK dq26 ⊢
          subst vq26
          generalize vs 27 = vq27 at hK dq27 ⊢
          subst vq27
          generalize vs 28 = vq28 at hK dq28 ⊢
          subst vq28
          go_wp2_with (go_at_call 43; refine (wvalid_any t p B C G W ((HSd.out.at (hR)).2.2.2.2.2.1) (er : Int) aw lw cw ws HLW.out ((HSd.out.at (hR)).2.2.2.1) (by omega)).mono ?_; rintro e' w' ⟨rfl, hm'⟩; rw [V1.out])
          exact hK _ _ rfl hm'
        refine opsOkA_cons ?_ ?_
        · intro K vs W hR hD hK
          have dq25 : vs 25 = .bool true := hD 25 (by decide)
          have dq29 : vs 29 = .bool true := hD 29 (by decide)
          clear hD
          try dsimp only at hK ⊢
          simp only [Act.put, List.setIfInBounds_toArray, List.set_cons_succ, List.set_cons_zero] at hK
          generalize vs 25 = vq25 at hK dq25 ⊢
          subst vq25
          generalize vs 29 = vq29 at hK dq29 ⊢
          subst vq29
          go_wp2
          exact hK _ _ rfl (Mod.refl _ _)
        refine opsOkA_cons ?_ ?_
        · intro K vs W hR hD hK
          have dq30 : vs 30 = .bool true := hD 30 (by decide)
          clear hD
          try dsimp only at hK ⊢
          simp only [Act.put, List.setIfInBounds_toArray, List.set_cons_succ, List.set_cons_zero] at hK
          generalize vs 30 = vq30 at hK dq30 ⊢
          subst vq30
          go_wp2
          exact hK _ _ rfl (Mod.refl _ _)
        refine opsOkA_cons ?_ ?_
        · intro K vs W hR hD hK
          have dq31 : vs 31 = .bool true := hD 31 (by decide)
          clear hD
          try dsimp only at hK ⊢
          simp only [Act.put, List.setIfInBounds_toArray, List.set_cons_succ, List.set_cons_zero] at hK
          generalize vs 31 = vq31 at hK dq31 ⊢
          subst vq31
          go_wp2
          exact hK _ _ rfl (Mod.refl _ _)
        refine opsOkA_cons ?_ ?_
        · intro K vs W hR hD hK
          have dq31 : vs 31 = .bool true := hD 31 (by decide)
          clear hD
          try dsimp only at hK ⊢
          simp only [Act.put, List.setIfInBounds_toArray, List.set_cons_succ, List.set_cons_zero] at hK
          generalize vs 31 = vq31 at hK dq31 ⊢
          subst vq31
          go_wp2
          exact hK _ _ rfl (Mod.refl _ _)
        refine opsOkA_cons ?_ ?_
        · intro K vs W hR hD hK
          have dq31 : vs 31 = .bool true := hD 31 (by decide)
          clear hD
          try dsimp only at hK ⊢
          simp only [Act.put, List.setIfInBounds_toArray, List.set_cons_succ, List.set_cons_zero] at hK
          generalize vs 31 = vq31 at hK dq31 ⊢
          subst vq31
          go_wp2
          exact hK _ _ rfl (Mod.refl _ _)
        refine opsOkA_cons ?_ ?_
        · intro K vs W hR hD hK
          have dq31 : vs 31 = .bool true := hD 31 (by decide)
          clear hD
          try dsimp only at hK ⊢
          simp only [Act.put, List.setIfInBounds_toArray, List.set_cons_succ, List.set_cons_zero] at hK
          generalize vs 31 = vq31 at hK dq31 ⊢
          subst vq31
          go_wp2
          exact hK _ _ rfl (Mod.refl _ _)
        refine opsOkA_cons ?_ ?_
        · intro K vs W hR hD hK
          have dq31 : vs 31 = .bool true := hD 31 (by decide)
          have dq34 : vs 34 = .slice aw lw cw := hD 34 (by decide)
          have dq35 : vs 35 = .int .i64 (kk : Int) := hD 35 (by decide)
          clear hD
          try dsimp only at hK ⊢
          simp only [Act.put, List.setIfInBounds_toArray, List.set_cons_succ, List.set_cons_zero] at hK
          generalize vs 31 = vq31 at hK dq31 ⊢
          subst vq31
          generalize vs 34 = vq34 at hK dq34 ⊢
          subst vq34
          generalize vs 35 = vq35 at hK dq35 ⊢
          subst vq35
          go_wp2_with fail
          exact hK _ _ rfl (Mod.refl _ _)
        refine opsOkA_cons ?_ ?_
        · intro K vs W hR hD hK
          have dq31 : vs 31 = .bool true := hD 31 (by decide)
          have dq32 : vs 32 = .pointer (some ⟨t, 0, none⟩) := hD 32 (by decide)
          have dq33 : vs 33 = .int .i64 (er : Int) := hD 33 (by decide)
          have dq36 : vs 36 = .slice aw kk cw := hD 36 (by decide)
          clear hD
          try dsimp only at hK ⊢
          simp only [Act.put, List.setIfInBounds_toArray, List.set_cons_succ, List.set_cons_zero] at hK
          generalize vs 31 = vq31 at hK dq31 ⊢
          subst vq31
          generalize vs 32 = vq32 at hK dq32 ⊢
          subst vq32
          generalize vs 33 = vq33 at hK dq33 ⊢
          subst vq33
          generalize vs 36 = vq36 at hK dq36 ⊢
          subst vq36
          go_wp2_with (go_at_call 43; refine (wvalid_any t p B C G W ((HSd.out.at (hR)).2.2.2.2.2.1) (er : Int) aw kk cw (ws.take kk) LT.out ((HSd.out.at (hR)).2.2.1) (by omega)).mono ?_; rintro e' w' ⟨rfl, hm'⟩; rw [V2.out])
          exact hK _ _ rfl hm'
        refine opsOkA_cons ?_ ?_
        · intro K vs W hR hD hK
          have dq31 : vs 31 = .bool true := hD 31 (by decide)
          have dq37 : vs 37 = .bool true := hD 37 (by decide)
          clear hD
          try dsimp only at hK ⊢
          simp only [Act.put, List.setIfInBounds_toArray, List.set_cons_succ, List.set_cons_zero] at hK
          generalize vs 31 = vq31 at hK dq31 ⊢
          subst vq31
          generalize vs 37 = vq37 at hK dq37 ⊢
          subst vq37
          go_wp2
          exact hK _ _ rfl (Mod.refl _ _)
        refine opsOkA_cons ?_ ?_
        · intro K vs W hR hD hK
          have dq38 : vs 38 = .bool true := hD 38 (by decide)
          clear hD
          try dsimp only at hK ⊢
          simp only [Act.put, List.setIfInBounds_toArray, List.set_cons_succ, List.set_cons_zero] at hK
          generalize vs 38 = vq38 at hK dq38 ⊢
          subst vq38
          go_wp2
          exact hK _ _ rfl (Mod.refl _ _)
        refine opsOkA_cons ?_ ?_
        · intro K vs W hR hD hK
          have dq39 : vs 39 = .bool true := hD 39 (by decide)
          clear hD
          try dsimp only at hK ⊢
          simp only [Act.put, List.setIfInBounds_toArray, List.set_cons_succ, List.set_cons_zero] at hK
          generalize vs 39 = vq39 at hK dq39 ⊢
          subst vq39
          go_wp2
          exact hK _ _ rfl (Mod.refl _ _)
        refine opsOkA_cons ?_ ?_
        · intro K vs W hR hD hK
          have dq39 : vs 39 = .bool true := hD 39 (by decide)
          clear hD
          try dsimp only at hK ⊢
          simp only [Act.put, List.setIfInBounds_toArray, List.set_cons_succ, List.set_cons_zero] at hK
          generalize vs 39 = vq39 at hK dq39 ⊢
          subst vq39
          go_wp2
          exact hK _ _ rfl (Mod.refl _ _)
        refine opsOkA_cons ?_ ?_
        · intro K vs W hR hD hK
          have dq39 : vs 39 = .bool true := hD 39 (by decide)
          clear hD
          try dsimp only at hK ⊢
          simp only [Act.put, List.setIfInBounds_toArray, List.set_cons_succ, List.set_cons_zero] at hK
          generalize vs 39 = vq39 at hK dq39 ⊢
          subst vq39
          go_wp2
          exact hK _ _ rfl (Mod.refl _ _)
        refine opsOkA_cons ?_ ?_
        · intro K vs W hR hD hK
          have dq39 : vs 39 = .bool true := hD 39 (by decide)
          clear hD
          try dsimp only at hK ⊢
          simp only [Act.put, List.setIfInBounds_toArray, List.set_cons_succ, List.set_cons_zero] at hK
          generalize vs 39 = vq39 at hK dq39 ⊢
          subst vq39
          go_wp2
          exact hK _ _ rfl (Mod.refl _ _)
        refine opsOkA_cons ?_ ?_
        · intro K vs W hR hD hK
          have dq39 : vs 39 = .bool true := hD 39 (by decide)
          have dq42 : vs 42 = .slice aw lw cw := hD 42 (by decide)
          have dq43 : vs 43 = .int .i64 (kk : Int) := hD 43 (by decide)
          clear hD
          try dsimp only at hK ⊢
          simp only [Act.put, List.setIfInBounds_toArray, List.set_cons_succ, List.set_cons_zero] at hK
          generalize vs 39 = vq39 at hK dq39 ⊢
          subst vq39
          generalize vs 42 = vq42 at hK dq42 ⊢
          subst vq42
          generalize vs 43 = vq43 at hK dq43 ⊢
          subst vq43
          go_wp2_with fail
          exact hK _ _ rfl (Mod.refl _ _)
        refine opsOkA_cons ?_ ?_
        · intro K vs W hR hD hK
          have dq39 : vs 39 = .bool true := hD 39 (by decide)
          have dq40 : vs 40 = .pointer (some ⟨t, 0, none⟩) := hD 40 (by decide)
          have dq41 : vs 41 = .int .i64 md := hD 41 (by decide)
          have dq44 : vs 44 = .slice (dropA aw cw kk 1) (lw - kk) (cw - kk) := hD 44 (by decide)
          clear hD
          try dsimp only at hK ⊢
          simp only [Act.put, List.setIfInBounds_toArray, List.set_cons_succ, List.set_cons_zero] at hK
          generalize vs 39 = vq39 at hK dq39 ⊢
          subst vq39
          generalize vs 40 = vq40 at hK dq40 ⊢
          subst vq40
          generalize vs 41 = vq41 at hK dq41 ⊢
          subst vq41
          generalize vs 44 = vq44 at hK dq44 ⊢
          subst vq44
          go_wp2_with (go_at_call 43; refine (wvalid_any t p B C G W ((HSd.out.at (hR)).2.2.2.2.2.1) md (dropA aw cw kk 1) (lw - kk) (cw - kk) (ws.drop kk) LD.out ((HSd.out.at (hR)).2.1) (by omega)).mono ?_; rintro e' w' ⟨rfl, hm'⟩; rw [V3.out])
          exact hK _ _ rfl hm'
        refine opsOkA_cons ?_ ?_
        · intro K vs W hR hD hK
          have dq39 : vs 39 = .bool true := hD 39 (by decide)
          have dq45 : vs 45 = .bool true := hD 45 (by decide)
          clear hD
          try dsimp only at hK ⊢
          simp only [Act.put, List.setIfInBounds_toArray, List.set_cons_succ, List.set_cons_zero] at hK
          generalize vs 39 = vq39 at hK dq39 ⊢
          subst vq39
          generalize vs 45 = vq45 at hK dq45 ⊢
          subst vq45
          go_wp2
          exact hK _ _ rfl (Mod.refl _ _)
        refine opsOkA_cons ?_ ?_
        · intro K vs W hR hD hK
          have dq46 : vs 46 = .bool true := hD 46 (by decide)
          clear hD
          try dsimp only at hK ⊢
          simp only [Act.put, List.setIfInBounds_toArray, List.set_cons_succ, List.set_cons_zero] at hK
          generalize vs 46 = vq46 at hK dq46 ⊢
          subst vq46
          go_wp2
          exact hK _ _ rfl (Mod.refl _ _)
        refine opsOkA_cons ?_ ?_
        · intro K vs W hR hD hK
          have dq47 : vs 47 = .bool true := hD 47 (by decide)
          clear hD
          try dsimp only at hK ⊢
          simp only [Act.put, List.setIfInBounds_toArray, List.set_cons_succ, List.set_cons_zero] at hK
          generalize vs 47 = vq47 at hK dq47 ⊢
          subst vq47
          go_wp2
          exact hK _ _ rfl (Mod.refl _ _)
        refine opsOkA_cons ?_ ?_
        · intro K vs W hR hD hK
          have dq47 : vs 47 = .bool true := hD 47 (by decide)
          clear hD
          try dsimp only at hK ⊢
          simp only [Act.put, List.setIfInBounds_toArray, List.set_cons_succ, List.set_cons_zero] at hK
          generalize vs 47 = vq47 at hK dq47 ⊢
          subst vq47
          go_wp2
          exact hK _ _ rfl (Mod.refl _ _)
        refine opsOkA_cons ?_ ?_
        · intro K vs W hR hD hK
          have dq47 : vs 47 = .bool true := hD 47 (by decide)
          have dq48 : vs 48 = .slice aw lw cw := hD 48 (by decide)
          have dq49 : vs 49 = .int .i64 (kk : Int) := hD 49 (by decide)
          clear hD
          try dsimp only at hK ⊢
          simp only [Act.put, List.setIfInBounds_toArray, List.set_cons_succ, List.set_cons_zero] at hK
          generalize vs 47 = vq47 at hK dq47 ⊢
          subst vq47
          generalize vs 48 = vq48 at hK dq48 ⊢
          subst vq48
          generalize vs 49 = vq49 at hK dq49 ⊢
          subst vq49
          go_wp2_with fail
          exact hK _ _ rfl (Mod.refl _ _)
        refine opsOkA_cons ?_ ?_
        · intro K vs W hR hD hK
          have dq47 : vs 47 = .bool true := hD 47 (by decide)
          clear hD
          try dsimp only at hK ⊢
          simp only [Act.put, List.setIfInBounds_toArray, List.set_cons_succ, List.set_cons_zero] at hK
          generalize vs 47 = vq47 at hK dq47 ⊢
          subst vq47
          go_wp2
          exact hK _ _ rfl (Mod.refl _ _)
        refine opsOkA_cons ?_ ?_
        · intro K vs W hR hD hK
          have dq47 : vs 47 = .bool true := hD 47 (by decide)
          have dq50 : vs 50 = .slice aw kk cw := hD 50 (by decide)
          have dq51 : vs 51 = .slice aw lw cw := hD 51 (by decide)
          clear hD
          try dsimp only at hK ⊢
          simp only [Act.put, List.setIfInBounds_toArray, List.set_cons_succ, List.set_cons_zero] at hK
          generalize vs 47 = vq47 at hK dq47 ⊢
          subst vq47
          generalize vs 50 = vq50 at hK dq50 ⊢
          subst vq50
          generalize vs 51 = vq51 at hK dq51 ⊢
          subst vq51
          go_wp2_with (go_at_call 45; refine (wcmp_any W aw kk cw (ws.take kk) LT.out ((HSd.out.at (hR)).2.2.1) (by omega) aw lw cw ws HLW.out ((HSd.out.at (hR)).2.2.2.1) (by omega)).mono ?_; rintro e' w' ⟨rfl, hm'⟩; rw [CV.out])
          exact hK _ _ rfl hm'
        refine opsOkA_cons ?_ ?_
        · intro K vs W hR hD hK
          have dq47 : vs 47 = .bool true := hD 47 (by decide)
          clear hD
          try dsimp only at hK ⊢
          simp only [Act.put, List.setIfInBounds_toArray, List.set_cons_succ, List.set_cons_zero] at hK
          generalize vs 47 = vq47 at hK dq47 ⊢
          subst vq47
          go_wp2
          exact hK _ _ rfl (Mod.refl _ _)
        refine opsOkA_cons ?_ ?_
        · intro K vs W hR hD hK
          have dq47 : vs 47 = .bool true := hD 47 (by decide)
          clear hD
          try dsimp only at hK ⊢
          simp only [Act.put, List.setIfInBounds_toArray, List.set_cons_succ, List.set_cons_zero] at hK
          generalize vs 47 = vq47 at hK dq47 ⊢
          subst vq47
          go_wp2
          exact hK _ _ rfl (Mod.refl _ _)
        refine opsOkA_cons ?_ ?_
        · intro K vs W hR hD hK
          have dq47 : vs 47 = .bool true := hD 47 (by decide)
          have dq54 : vs 54 = .slice aw lw cw := hD 54 (by decide)
          clear hD
          try dsimp only at hK ⊢
          simp only [Act.put, List.setIfInBounds_toArray, List.set_cons_succ, List.set_cons_zero] at hK
          generalize vs 47 = vq47 at hK dq47 ⊢
          subst vq47
          generalize vs 54 = vq54 at hK dq54 ⊢
          subst vq54
          go_wp2_with fail
          exact hK _ _ rfl (Mod.refl _ _)
        refine opsOkA_cons ?_ ?_
        · intro K vs W hR hD hK
          have dq47 : vs 47 = .bool true := hD 47 (by decide)
          have dq53 : vs 53 = .int .i64 (kk : Int) := hD 53 (by decide)
          have dq55 : vs 55 = .int .i64 (lw : Int) := hD 55 (by decide)
          clear hD
          try dsimp only at hK ⊢
          simp only [Act.put, List.setIfInBounds_toArray, List.set_cons_succ, List.set_cons_zero] at hK
          generalize vs 47 = vq47 at hK dq47 ⊢
          subst vq47
          generalize vs 53 = vq53 at hK dq53 ⊢
          subst vq53
          generalize vs 55 = vq55 at hK dq55 ⊢
          subst vq55
          have m0 : (kk : Int) - (lw : Int) = 0 := by omega
          go_wp2
          exact hK _ _ rfl (Mod.refl _ _)
        refine opsOkA_cons ?_ ?_
        · intro K vs W hR hD hK
          have dq47 : vs 47 = .bool true := hD 47 (by decide)
          have dq56 : vs 56 = .int .i64 0 := hD 56 (by decide)
          clear hD
          try dsimp only at hK ⊢
          simp only [Act.put, List.setIfInBounds_toArray, List.set_cons_succ, List.set_cons_zero] at hK
          generalize vs 47 = vq47 at hK dq47 ⊢
          subst vq47
          generalize vs 56 = vq56 at hK dq56 ⊢
          subst vq56
          go_wp2_with fail
          exact hK _ _ rfl (Mod.refl _ _)
        refine opsOkA_cons ?_ ?_
        · intro K vs W hR hD hK
          have dq47 : vs 47 = .bool true := hD 47 (by decide)
          clear hD
          try dsimp only at hK ⊢
          simp only [Act.put, List.setIfInBounds_toArray, List.set_cons_succ, List.set_cons_zero] at hK
          generalize vs 47 = vq47 at hK dq47 ⊢
          subst vq47
          go_wp2
          exact hK _ _ rfl (Mod.refl _ _)
        refine opsOkA_cons ?_ ?_
        · intro K vs W hR hD hK
          have dq47 : vs 47 = .bool true := hD 47 (by decide)
          have dq58 : vs 58 = .slice aw lw cw := hD 58 (by decide)
          clear hD
          try dsimp only at hK ⊢
          simp only [Act.put, List.setIfInBounds_toArray, List.set_cons_succ, List.set_cons_zero] at hK
          generalize vs 47 = vq47 at hK dq47 ⊢
          subst vq47
          generalize vs 58 = vq58 at hK dq58 ⊢
          subst vq58
          go_wp2_with fail
          exact hK _ _ rfl (Mod.refl _ _)
        refine opsOkA_cons ?_ ?_
        · intro K vs W hR hD hK
          have dq47 : vs 47 = .bool true := hD 47 (by decide)
          clear hD
          try dsimp only at hK ⊢
          simp only [Act.put, List.setIfInBounds_toArray, List.set_cons_succ, List.set_cons_zero] at hK
          generalize vs 47 = vq47 at hK dq47 ⊢
          subst vq47
          go_wp2
          exact hK _ _ rfl (Mod.refl _ _)
        refine opsOkA_cons ?_ ?_
        · intro K vs W hR hD hK
          have dq47 : vs 47 = .bool true := hD 47 (by decide)
          have dq59 : vs 59 = .int .i64 (lw : Int) := hD 59 (by decide)
          have dq60 : vs 60 = .int .i64 (kk : Int) := hD 60 (by decide)
          clear hD
          try dsimp only at hK ⊢
          simp only [Act.put, List.setIfInBounds_toArray, List.set_cons_succ, List.set_cons_zero] at hK
          generalize vs 47 = vq47 at hK dq47 ⊢
          subst vq47
          generalize vs 59 = vq59 at hK dq59 ⊢
          subst vq59
          generalize vs 60 = vq60 at hK dq60 ⊢
          subst vq60
          have m0 : (lw : Int) - (kk : Int) = 0 := by omega
          go_wp2
          exact hK _ _ rfl (Mod.refl _ _)
        refine opsOkA_cons ?_ ?_
        · intro K vs W hR hD hK
          have dq47 : vs 47 = .bool true := hD 47 (by decide)
          have dq61 : vs 61 = .int .i64 0 := hD 61 (by decide)
          clear hD
          try dsimp only at hK ⊢
          simp only [Act.put, List.setIfInBounds_toArray, List.set_cons_succ, List.set_cons_zero] at hK
          generalize vs 47 = vq47 at hK dq47 ⊢
          subst vq47
          generalize vs 61 = vq61 at hK dq61 ⊢
          subst vq61
          go_wp2_with fail
          exact hK _ _ rfl (Mod.refl _ _)
        refine opsOkA_cons ?_ ?_
        · intro K vs W hR hD hK
          have dq47 : vs 47 = .bool true := hD 47 (by decide)
          have dq57 : vs 57 = .int .i64 0 := hD 57 (by decide)
          have dq62 : vs 62 = .int .i64 1 := hD 62 (by decide)
          clear hD
          try dsimp only at hK ⊢
          simp only [Act.put, List.setIfInBounds_toArray, List.set_cons_succ, List.set_cons_zero] at hK
          generalize vs 47 = vq47 at hK dq47 ⊢
          subst vq47
          generalize vs 57 = vq57 at hK dq57 ⊢
          subst vq57
          generalize vs 62 = vq62 at hK dq62 ⊢
          subst vq62
          go_wp2
          exact hK _ _ rfl (Mod.refl _ _)
        refine opsOkA_cons ?_ ?_
        · intro K vs W hR hD hK
          have dq47 : vs 47 = .bool true := hD 47 (by decide)
          have dq52 : vs 52 = .int .i64 0 := hD 52 (by decide)
          have dq63 : vs 63 = .int .i64 0 := hD 63 (by decide)
          clear hD
          try dsimp only at hK ⊢
          simp only [Act.put, List.setIfInBounds_toArray, List.set_cons_succ, List.set_cons_zero] at hK
          generalize vs 47 = vq47 at hK dq47 ⊢
          subst vq47
          generalize vs 52 = vq52 at hK dq52 ⊢
          subst vq52
          generalize vs 63 = vq63 at hK dq63 ⊢
          subst vq63
          go_wp2
          exact hK _ _ rfl (Mod.refl _ _)
        refine opsOkA_cons ?_ ?_
        · intro K vs W hR hD hK
          have dq47 : vs 47 = .bool true := hD 47 (by decide)
          have dq64 : vs 64 = .bool true := hD 64 (by decide)
          clear hD
          try dsimp only at hK ⊢
          simp only [Act.put, List.setIfInBounds_toArray, List.set_cons_succ, List.set_cons_zero] at hK
          generalize vs 47 = vq47 at hK dq47 ⊢
          subst vq47
          generalize vs 64 = vq64 at hK dq64 ⊢
          subst vq64
          go_wp2
          exact hK _ _ rfl (Mod.refl _ _)
        refine opsOkA_cons ?_ ?_
        · intro K vs W hR hD hK
          have dq65 : vs 65 = .bool true := hD 65 (by decide)
          clear hD
          try dsimp only at hK ⊢
          simp only [Act.put, List.setIfInBounds_toArray, List.set_cons_succ, List.set_cons_zero] at hK
          generalize vs 65 = vq65 at hK dq65 ⊢
          subst vq65
          go_wp2
          exact hK _ _ rfl (Mod.refl _ _)
        refine opsOkA_cons ?_ ?_
        · intro K vs W hR hD hK
          have dq66 : vs 66 = .bool true := hD 66 (by decide)
          clear hD
          try dsimp only at hK ⊢
          simp only [Act.put, List.setIfInBounds_toArray, List.set_cons_succ, List.set_cons_zero] at hK
          generalize vs 66 = vq66 at hK dq66 ⊢
          subst vq66
          go_wp2_with (go_at_call 36; refine (awake8_any W).mono ?_; rintro e' w' ⟨rfl, hm'⟩)
          exact hK _ _ rfl hm'
        refine opsOkA_cons ?_ ?_
        · intro K vs W hR hD hK
          have dq66 : vs 66 = .bool true := hD 66 (by decide)
          have dq67 : vs 67 = .bool true := hD 67 (by decide)
          clear hD
          try dsimp only at hK ⊢
          simp only [Act.put, List.setIfInBounds_toArray, List.set_cons_succ, List.set_cons_zero] at hK
          generalize vs 66 = vq66 at hK dq66 ⊢
          subst vq66
          generalize vs 67 = vq67 at hK dq67 ⊢
          subst vq67
          go_wp2
          exact hK _ _ rfl (Mod.refl _ _)
        refine opsOkA_cons ?_ ?_
        · intro K vs W hR hD hK
          have dq68 : vs 68 = .bool true := hD 68 (by decide)
          clear hD
          try dsimp only at hK ⊢
          simp only [Act.put, List.setIfInBounds_toArray, List.set_cons_succ, List.set_cons_zero] at hK
          generalize vs 68 = vq68 at hK dq68 ⊢
          subst vq68
          go_wp2
          exact hK _ _ rfl (Mod.refl _ _)
        exact opsOkA_nil
      · intro vs wq12 hR hF
        have dq69 : vs 69 = .bool true := hF 69 (by decide)
        clear hF
        try dsimp only
        generalize vs 69 = vq69 at dq69 ⊢
        subst dq69
        replace HS := Lib.hid (HSd.out.step hR)
        clear HSd hR
        have hbbg := (HS.out.now).2.2.2.2.1
        have qbg_0 := hbbg.cell 0 rfl
        have qbg_1 := hbbg.cell 1 rfl
        have qbg_2 := hbbg.cell 2 rfl
        have lbg := hbbg.lt
        clear hbbg
        go_wp2_with fail
        go_ret
        exact ⟨rfl, (HS.out.now).2.2.2.2.2.2.2.2.2⟩
  case neg =>
    have hmd : md = (er : Int) := by rw [← HMD.out, show kk = 0 by omega]; rfl
    subst hmd
    have z0 : decide ((0 : Int) < (kk : Int)) = false := by simp; omega
    go_wp2_with fail
    refine (wweight_any t p B C G hmay.out _ ((HS.out.now).2.2.2.2.1) aw kk cw (ws.take kk) LT.out ((HS.out.now).2.1) (by omega)).mono ?_
    rintro e wq13 ⟨rfl, hmm⟩
    replace HS := Lib.hid (HS.out.step hmm)
    clear hmm
    clear qbg_0 qbg_1 qbg_2 lbg
    have hbbg := (HS.out.now).2.2.2.1
    have qbg_0 := hbbg.cell 0 rfl
    have qbg_1 := hbbg.cell 1 rfl
    have qbg_2 := hbbg.cell 2 rfl
    have lbg := hbbg.lt
    clear hbbg
    rw [W1.out, A1.out]
    go_wp2_with fail
    refine (wweight_any t p B C G hmay.out _ ((HS.out.now).2.2.2.2.1) (dropA aw cw kk 1) (lw - kk) (cw - kk) (ws.drop kk) LD.out ((HS.out.now).1) (by omega)).mono ?_
    rintro e wq14 ⟨rfl, hmm⟩
    replace HS := Lib.hid (HS.out.step hmm)
    clear hmm
    clear qbg_0 qbg_1 qbg_2 lbg
    have hbbg := (HS.out.now).2.2.2.1
    have qbg_0 := hbbg.cell 0 rfl
    have qbg_1 := hbbg.cell 1 rfl
    have qbg_2 := hbbg.cell 2 rfl
    have lbg := hbbg.lt
    clear hbbg
    rw [W2.out, A2.out]
    go_wp2_with fail
    refine (wweight_any t p B C G hmay.out _ ((HS.out.now).2.2.2.2.1) aw lw cw ws HLW.out ((HS.out.now).2.2.1) (by omega)).mono ?_
    rintro e wq15 ⟨rfl, hmm⟩
    replace HS := Lib.hid (HS.out.step hmm)
    clear hmm
    clear qbg_0 qbg_1 qbg_2 lbg
    have hbbg := (HS.out.now).2.2.2.1
    have qbg_0 := hbbg.cell 0 rfl
    have qbg_1 := hbbg.cell 1 rfl
    have qbg_2 := hbbg.cell 2 rfl
    have lbg := hbbg.lt
    clear hbbg
    rw [W3.out, A3.out]
    go_wp2_with fail
    refine (wend_any t p B C G _ ((HS.out.now).2.2.2.2.1) (er : Int) (dropA aw cw kk 1) (lw - kk) (cw - kk) (ws.drop kk) LD.out ((HS.out.now).1) (by omega)).mono ?_
    rintro e wq16 ⟨rfl, hmm⟩
    replace HS := Lib.hid (HS.out.step hmm)
    clear hmm
    clear qbg_0 qbg_1 qbg_2 lbg
    have hbbg := (HS.out.now).2.2.2.1
    have qbg_0 := hbbg.cell 0 rfl
    have qbg_1 := hbbg.cell 1 rfl
    have qbg_2 := hbbg.cell 2 rfl
    have lbg := hbbg.lt
    clear hbbg
    rw [E1.out, V3.out]
    go_wp2_with fail
    refine (wend_any t p B C G _ ((HS.out.now).2.2.2.2.1) (er : Int) aw lw cw ws HLW.out ((HS.out.now).2.2.1) (by omega)).mono ?_
    rintro e wq17 ⟨rfl, hmm⟩
    replace HS := Lib.hid (HS.out.step hmm)
    clear hmm
    clear qbg_0 qbg_1 qbg_2 lbg
    have hbbg := (HS.out.now).2.2.2.1
    have qbg_0 := hbbg.cell 0 rfl
    have qbg_1 := hbbg.cell 1 rfl
    have qbg_2 := hbbg.cell 2 rfl
    have lbg := hbbg.lt
    clear hbbg
    rw [HEN.out, V1.out]
    by_cases hlt : kk < lw
    case pos =>
      have CV : Hid (cmpL (ws.take kk) ws = -1) := Lib.hid (by rw [CT.out, if_pos hlt])
      have m1 : min ((kk : Int) - (lw : Int)) 0 = (kk : Int) - (lw : Int) := by omega
      have m2 : max ((lw : Int) - (kk : Int)) 1 = (lw : Int) - (kk : Int) := by omega
      have m3 : Int.tdiv ((kk : Int) - (lw : Int)) ((lw : Int) - (kk : Int)) = -1 := by rw [show (kk : Int) - (lw : Int) = -((lw : Int) - (kk : Int)) by omega, Int.neg_tdiv, Int.tdiv_self (by omega)]
      have m4 : ¬ ((lw : Int) - (kk : Int) = 0) := by omega
      go_upto_region 17 with fail
      simp only [List.append]
      clear qbg_0 qbg_1 qbg_2 lbg
      have HSd := Lib.hid HS.out.drew
      refine wp_region_inv3 (act := ?actwj_r17_2) (Mod (fun _ => False)) (fun i => (wj_r17_2_F t er lw cw aw kk s1 s2 en).getD i (fun _ _ => True)) (fun i => wj_r17_2_D.getD i []) (by kernel_rfl) (by kernel_rfl) (by kernel_rfl) (by kernel_rfl) (fun _ => Mod.refl _ _)
        (fun _ _ _ h k => h.trans k (fun _ _ e => e) (fun _ _ e => e)) ?hactwj_r17_2 (stable_list ?_) ?_ ?_
      case hactwj_r17_2 => intro vs; simp only [putAll, Nat.zero_add, Nat.reduceAdd, Act.put, List.setIfInBounds_toArray, List.set_cons_succ, List.set_cons_zero]; exact rfl
      · unfold wj_r17_2_F
        exact stable_cons (stable_val _) <| stable_cons (stable_val _) <| stable_cons (stable_val _) <| stable_cons (stable_val _) <| stable_cons (stable_val _) <| stable_cons (stable_val _) <| stable_cons (stable_val _) <| stable_cons (stable_val _) <| stable_cons (stable_val _) <| stable_cons (stable_val _) <| stable_cons (stable_val _) <| stable_cons (stable_val _) <| stable_cons (stable_val _) <| stable_cons (stable_val _) <| stable_cons (stable_val _) <| stable_cons (stable_val _) <| stable_cons (stable_val _) <| stable_cons (stable_val _) <| stable_cons (stable_val _) <| stable_cons (stable_val _) <| stable_cons (stable_val _) <| stable_cons (stable_val _) <| stable_cons (stable_val _) <| stable_cons (stable_val _) <| stable_cons (stable_val _) <| stable_cons (stable_val _) <| stable_cons (stable_val _) <| stable_cons (stable_val _) <| stable_cons (stable_val _) <| stable_cons (stable_val _) <| stable_cons (stable_val _) <| stable_cons (stable_val _) <| stable_cons (stable_val _) <| stable_cons (stable_val _) <| stable_cons (stable_val _) <| stable_cons (stable_val _) <| stable_cons (stable_val _) <| stable_cons (stable_val _) <| stable_cons (stable_val _) <| stable_cons (stable_val _) <| stable_cons (stable_val _) <| stable_cons (stable_val _) <| stable_cons (stable_val _) <| stable_cons (stable_val _) <| stable_cons (stable_val _) <| stable_cons (stable_val _) <| stable_cons (stable_val _) <| stable_cons (stable_val _) <| stable_cons (stable_val _) <| stable_cons (stable_val _) <| stable_cons (stable_val _) <| stable_cons (stable_val _) <| stable_cons (stable_val _) <| stable_cons (stable_val _) <| stable_cons (stable_val _) <| stable_cons (stable_val _) <| stable_cons (stable_val _) <| stable_cons (stable_val _) <| stable_cons (stable_val _) <| stable_cons (stable_val _) <| stable_cons (stable_val _) <| stable_cons (stable_val _) <| stable_cons (stable_val _) <| stable_cons (stable_val _) <| stable_cons (stable_val _) <| stable_cons (stable_val _) <| stable_cons (stable_val _) <| stable_cons (stable_val _) <| stable_cons (stable_val _) <| stable_cons (stable_val _) <| stable_nil
      · refine opsOkA_cons ?_ ?_
        · intro K vs W hR hD hK
          clear hD
          try dsimp only at hK ⊢
          simp only [Act.put, List.setIfInBounds_toArray, List.set_cons_succ, List.set_cons_zero] at hK
          go_wp2
          exact hK _ _ rfl (Mod.refl _ _)
        refine opsOkA_cons ?_ ?_
        · intro K vs W hR hD hK
          have dq0 : vs 0 = .bool true := hD 0 (by decide)
          clear hD
          try dsimp only at hK ⊢
          simp only [Act.put, List.setIfInBounds_toArray, List.set_cons_succ, List.set_cons_zero] at hK
          generalize vs 0 = vq0 at hK dq0 ⊢
          subst vq0
          go_wp2
          exact hK _ _ rfl (Mod.refl _ _)
        refine opsOkA_cons ?_ ?_
        · intro K vs W hR hD hK
          have dq1 : vs 1 = .bool true := hD 1 (by decide)
          clear hD
          try dsimp only at hK ⊢
          simp only [Act.put, List.setIfInBounds_toArray, List.set_cons_succ, List.set_cons_zero] at hK
          generalize vs 1 = vq1 at hK dq1 ⊢
          subst vq1
          go_wp2
          exact hK _ _ rfl (Mod.refl _ _)
        refine opsOkA_cons ?_ ?_
        · intro K vs W hR hD hK
          have dq1 : vs 1 = .bool true := hD 1 (by decide)
          have dq2 : vs 2 = .bool true := hD 2 (by decide)
          clear hD
          try dsimp only at hK ⊢
          simp only [Act.put, List.setIfInBounds_toArray, List.set_cons_succ, List.set_cons_zero] at hK
          generalize vs 1 = vq1 at hK dq1 ⊢
          subst vq1
          generalize vs 2 = vq2 at hK dq2 ⊢
          subst vq2
          go_wp2
          exact hK _ _ rfl (Mod.refl _ _)
        refine opsOkA_cons ?_ ?_
        · intro K vs W hR hD hK
          have dq3 : vs 3 = .bool true := hD 3 (by decide)
          clear hD
          try dsimp only at hK ⊢
          simp only [Act.put, List.setIfInBounds_toArray, List.set_cons_succ, List.set_cons_zero] at hK
          generalize vs 3 = vq3 at hK dq3 ⊢
          subst vq3
          go_wp2
          exact hK _ _ rfl (Mod.refl _ _)
        refine opsOkA_cons ?_ ?_
        · intro K vs W hR hD hK
          have dq4 : vs 4 = .bool true := hD 4 (by decide)
          clear hD
          try dsimp only at hK ⊢
          simp only [Act.put, List.setIfInBounds_toArray, List.set_cons_succ, List.set_cons_zero] at hK
          generalize vs 4 = vq4 at hK dq4 ⊢
          subst vq4
          go_wp2
          exact hK _ _ rfl (Mod.refl _ _)
        refine opsOkA_cons ?_ ?_
        · intro K vs W hR hD hK
          have dq4 : vs 4 = .bool true := hD 4 (by decide)
          have dq5 : vs 5 = .bool true := hD 5 (by decide)
          clear hD
          try dsimp only at hK ⊢
          simp only [Act.put, List.setIfInBounds_toArray, List.set_cons_succ, List.set_cons_zero] at hK
          generalize vs 4 = vq4 at hK dq4 ⊢
          subst vq4
          generalize vs 5 = vq5 at hK dq5 ⊢
          subst vq5
          go_wp2
          exact hK _ _ rfl (Mod.refl _ _)
        refine opsOkA_cons ?_ ?_
        · intro K vs W hR hD hK
          have dq6 : vs 6 = .bool true := hD 6 (by decide)
          clear hD
          try dsimp only at hK ⊢
          simp only [Act.put, List.setIfInBounds_toArray, List.set_cons_succ, List.set_cons_zero] at hK
          generalize vs 6 = vq6 at hK dq6 ⊢
          subst vq6
          go_wp2
          exact hK _ _ rfl (Mod.refl _ _)
        refine opsOkA_cons ?_ ?_
        · intro K vs W hR hD hK
          have dq7 : vs 7 = .bool true := hD 7 (by decide)
          clear hD
          try dsimp only at hK ⊢
          simp only [Act.put, List.setIfInBounds_toArray, List.set_cons_succ, List.set_cons_zero] at hK
          generalize vs 7 = vq7 at hK dq7 ⊢
          subst vq7
          go_wp2
          exact hK _ _ rfl (Mod.refl _ _)
        refine opsOkA_cons ?_ ?_
        · intro K vs W hR hD hK
          have dq7 : vs 7 = .bool true := hD 7 (by decide)
          have dq8 : vs 8 = .bool true := hD 8 (by decide)
          clear hD
          try dsimp only at hK ⊢
          simp only [Act.put, List.setIfInBounds_toArray, List.set_cons_succ, List.set_cons_zero] at hK
          generalize vs 7 = vq7 at hK dq7 ⊢
          subst vq7
          generalize vs 8 = vq8 at hK dq8 ⊢
          subst vq8
          go_wp2
          exact hK _ _ rfl (Mod.refl _ _)
        refine opsOkA_cons ?_ ?_
        · intro K vs W hR hD hK
          have dq9 : vs 9 = .bool true := hD 9 (by decide)
          clear hD
          try dsimp only at hK ⊢
          simp only [Act.put, List.setIfInBounds_toArray, List.set_cons_succ, List.set_cons_zero] at hK
          generalize vs 9 = vq9 at hK dq9 ⊢
          subst vq9
          go_wp2
          exact hK _ _ rfl (Mod.refl _ _)
        refine opsOkA_cons ?_ ?_
        · intro K vs W hR hD hK
          have dq10 : vs 10 = .bool true := hD 10 (by decide)
          clear hD
          try dsimp only at hK ⊢
          simp only [Act.put, List.setIfInBounds_toArray, List.set_cons_succ, List.set_cons_zero] at hK
          generalize vs 10 = vq10 at hK dq10 ⊢
          subst vq10
          go_wp2
          exact hK _ _ rfl (Mod.refl _ _)
        refine opsOkA_cons ?_ ?_
        · intro K vs W hR hD hK
          have dq10 : vs 10 = .bool true := hD 10 (by decide)
          have dq11 : vs 11 = .bool true := hD 11 (by decide)
          clear hD
          try dsimp only at hK ⊢
          simp only [Act.put, List.setIfInBounds_toArray, List.set_cons_succ, List.set_cons_zero] at hK
          generalize vs 10 = vq10 at hK dq10 ⊢
          subst vq10
          generalize vs 11 = vq11 at hK dq11 ⊢
          subst vq11
          go_wp2
          exact hK _ _ rfl (Mod.refl _ _)
        refine opsOkA_cons ?_ ?_
        · intro K vs W hR hD hK
          have dq12 : vs 12 = .bool true := hD 12 (by decide)
          clear hD
          try dsimp only at hK ⊢
          simp only [Act.put, List.setIfInBounds_toArray, List.set_cons_succ, List.set_cons_zero] at hK
          generalize vs 12 = vq12 at hK dq12 ⊢
          subst vq12
          go_wp2
          exact hK _ _ rfl (Mod.refl _ _)
        refine opsOkA_cons ?_ ?_
        · intro K vs W hR hD hK
          have dq13 : vs 13 = .bool true := hD 13 (by decide)
          clear hD
          try dsimp only at hK ⊢
          simp only [Act.put, List.setIfInBounds_toArray, List.set_cons_succ, List.set_cons_zero] at hK
          generalize vs 13 = vq13 at hK dq13 ⊢
          subst vq13
          go_wp2
          exact hK _ _ rfl (Mod.refl _ _)
        refine opsOkA_cons ?_ ?_
        · intro K vs W hR hD hK
          have dq13 : vs 13 = .bool true := hD 13 (by decide)
          clear hD
          try dsimp only at hK ⊢
          simp only [Act.put, List.setIfInBounds_toArray, List.set_cons_succ, List.set_cons_zero] at hK
          generalize vs 13 = vq13 at hK dq13 ⊢
          subst vq13
          go_wp2
          exact hK _ _ rfl (Mod.refl _ _)
        refine opsOkA_cons ?_ ?_
        · intro K vs W hR hD hK
          have dq13 : vs 13 = .bool true := hD 13 (by decide)
          have dq14 : vs 14 = .int .i64 s1 := hD 14 (by decide)
          have dq15 : vs 15 = .int .i64 s2 := hD 15 (by decide)
          clear hD
          try dsimp only at hK ⊢
          simp only [Act.put, List.setIfInBounds_toArray, List.set_cons_succ, List.set_cons_zero] at hK
          generalize vs 13 = vq13 at hK dq13 ⊢
          subst vq13
          generalize vs 14 = vq14 at hK dq14 ⊢
          subst vq14
          generalize vs 15 = vq15 at hK dq15 ⊢
          subst vq15
          go_wp2
          exact hK _ _ rfl (Mod.refl _ _)
        refine opsOkA_cons ?_ ?_
        · intro K vs W hR hD hK
          have dq13 : vs 13 = .bool true := hD 13 (by decide)
          clear hD
          try dsimp only at hK ⊢
          simp only [Act.put, List.setIfInBounds_toArray, List.set_cons_succ, List.set_cons_zero] at hK
          generalize vs 13 = vq13 at hK dq13 ⊢
          subst vq13
          go_wp2
          exact hK _ _ rfl (Mod.refl _ _)
        refine opsOkA_cons ?_ ?_
        · intro K vs W hR hD hK
          have dq13 : vs 13 = .bool true := hD 13 (by decide)
          have dq16 : vs 16 = .int .i64 (s1 + s2) := hD 16 (by decide)
          have dq17 : vs 17 = .int .i64 (s1 + s2) := hD 17 (by decide)
          clear hD
          try dsimp only at hK ⊢
          simp only [Act.put, List.setIfInBounds_toArray, List.set_cons_succ, List.set_cons_zero] at hK
          generalize vs 13 = vq13 at hK dq13 ⊢
          subst vq13
          generalize vs 16 = vq16 at hK dq16 ⊢
          subst vq16
          generalize vs 17 = vq17 at hK dq17 ⊢
          subst vq17
          go_wp2
          exact hK _ _ rfl (Mod.refl _ _)
        refine opsOkA_cons ?_ ?_
        · intro K vs W hR hD hK
          have dq13 : vs 13 = .bool true := hD 13 (by decide)
          have dq18 : vs 18 = .bool true := hD 18 (by decide)
          clear hD
          try dsimp only at hK ⊢
          simp only [Act.put, List.setIfInBounds_toArray, List.set_cons_succ, List.set_cons_zero] at hK
          generalize vs 13 = vq13 at hK dq13 ⊢
          subst vq13
          generalize vs 18 = vq18 at hK dq18 ⊢
          subst vq18
          go_wp2
          exact hK _ _ rfl (Mod.refl _ _)
        refine opsOkA_cons ?_ ?_
        · intro K vs W hR hD hK
          have dq19 : vs 19 = .bool true := hD 19 (by decide)
          clear hD
          try dsimp only at hK ⊢
          simp only [Act.put, List.setIfInBounds_toArray, List.set_cons_succ, List.set_cons_zero] at hK
          generalize vs 19 = vq19 at hK dq19 ⊢
          subst vq19
          go_wp2
          exact hK _ _ rfl (Mod.refl _ _)
        refine opsOkA_cons ?_ ?_
        · intro K vs W hR hD hK
          have dq20 : vs 20 = .bool true := hD 20 (by decide)
          clear hD
          try dsimp only at hK ⊢
          simp only [Act.put, List.setIfInBounds_toArray, List.set_cons_succ, List.set_cons_zero] at hK
          generalize vs 20 = vq20 at hK dq20 ⊢
          subst vq20
          go_wp2
          exact hK _ _ rfl (Mod.refl _ _)
        refine opsOkA_cons ?_ ?_
        · intro K vs W hR hD hK
          have dq20 : vs 20 = .bool true := hD 20 (by decide)
          clear hD
          try dsimp only at hK ⊢
          simp only [Act.put, List.setIfInBounds_toArray, List.set_cons_succ, List.set_cons_zero] at hK
          generalize vs 20 = vq20 at hK dq20 ⊢
          subst vq20
          go_wp2
          exact hK _ _ rfl (Mod.refl _ _)
        refine opsOkA_cons ?_ ?_
        · intro K vs W hR hD hK
          have dq20 : vs 20 = .bool true := hD 20 (by decide)
          have dq21 : vs 21 = .int .i64 en := hD 21 (by decide)
          have dq22 : vs 22 = .int .i64 en := hD 22 (by decide)
          clear hD
          try dsimp only at hK ⊢
          simp only [Act.put, List.setIfInBounds_toArray, List.set_cons_succ, List.set_cons_zero] at hK
          generalize vs 20 = vq20 at hK dq20 ⊢
          subst vq20
          generalize vs 21 = vq21 at hK dq21 ⊢
          subst vq21
          generalize vs 22 = vq22 at hK dq22 ⊢
          subst vq22
          go_wp2
          exact hK _ _ rfl (Mod.refl _ _)
        refine opsOkA_cons ?_ ?_
        · intro K vs W hR hD hK
          have dq20 : vs 20 = .bool true := hD 20 (by decide)
          have dq23 : vs 23 = .bool true := hD 23 (by decide)
          clear hD
          try dsimp only at hK ⊢
          simp only [Act.put, List.setIfInBounds_toArray, List.set_cons_succ, List.set_cons_zero] at hK
          generalize vs 20 = vq20 at hK dq20 ⊢
          subst vq20
          generalize vs 23 = vq23 at hK dq23 ⊢
          subst vq23
          go_wp2
          exact hK _ _ rfl (Mod.refl _ _)
        refine opsOkA_cons ?_ ?_
        · intro K vs W hR hD hK
          have dq24 : vs 24 = .bool true := hD 24 (by decide)
          clear hD
          try dsimp only at hK ⊢
          simp only [Act.put, List.setIfInBounds_toArray, List.set_cons_succ, List.set_cons_zero] at hK
          generalize vs 24 = vq24 at hK dq24 ⊢
          subst vq24
          go_wp2
          exact hK _ _ rfl (Mod.refl _ _)
        refine opsOkA_cons ?_ ?_
        · intro K vs W hR hD hK
          have dq25 : vs 25 = .bool true := hD 25 (by decide)
          clear hD
          try dsimp only at hK ⊢
          simp only [Act.put, List.setIfInBounds_toArray, List.set_cons_succ, List.set_cons_zero] at hK
          generalize vs 25 = vq25 at hK dq25 ⊢
          subst vq25
          go_wp2
          exact hK _ _ rfl (Mod.refl _ _)
        refine opsOkA_cons ?_ ?_
        · intro K vs W hR hD hK
          have dq25 : vs 25 = .bool true := hD 25 (by decide)
          clear hD
          try dsimp only at hK ⊢
          simp only [Act.put, List.setIfInBounds_toArray, List.set_cons_succ, List.set_cons_zero] at hK
          generalize vs 25 = vq25 at hK dq25 ⊢
          subst vq25
          go_wp2
          exact hK _ _ rfl (Mod.refl _ _)
        refine opsOkA_cons ?_ ?_
        · intro K vs W hR hD hK
          have dq25 : vs 25 = .bool true := hD 25 (by decide)
          clear hD
          try dsimp only at hK ⊢
          simp only [Act.put, List.setIfInBounds_toArray, List.set_cons_succ, List.set_cons_zero] at hK
          generalize vs 25 = vq25 at hK dq25 ⊢
          subst vq25
          go_wp2
          exact hK _ _ rfl (Mod.refl _ _)
        refine opsOkA_cons ?_ ?_
        · intro K vs W hR hD hK
          have dq25 : vs 25 = .bool true := hD 25 (by decide)
          have dq26 : vs 26 = .pointer (some ⟨t, 0, none⟩) := hD 26 (by decide)
          have dq27 : vs 27 = .int .i64 (er : Int) := hD 27 (by decide)
          have dq28 : vs 28 = .slice aw lw cw := hD 28 (by decide)
          clear hD
          try dsimp only at hK ⊢
          simp only [Act.put, List.setIfInBounds_toArray, List.set_cons_succ, List.set_cons_zero] at hK
          generalize vs 25 = vq25 at hK dq25 ⊢
          subst vq25
          generalize vs 26 = vq26 at hK dq26 ⊢
          subst vq26
          generalize vs 27 = vq27 at hK dq27 ⊢
          subst vq27
          generalize vs 28 = vq28 at hK dq28 ⊢
          subst vq28
          go_wp2_with (go_at_call 43; refine (wvalid_any t p B C G W ((HSd.out.at (hR)).2.2.2.2.1) (er : Int) aw lw cw ws HLW.out ((HSd.out.at (hR)).2.2.1) (by omega)).mono ?_; rintro e' w' ⟨rfl, hm'⟩; rw [V1.out])
          exact hK _ _ rfl hm'
        refine opsOkA_cons ?_ ?_
        · intro K vs W hR hD hK
          have dq25 : vs 25 = .bool true := hD 25 (by decide)
          have dq29 : vs 29 = .bool true := hD 29 (by decide)
          clear hD
          try dsimp only at hK ⊢
          simp only [Act.put, List.setIfInBounds_toArray, List.set_cons_succ, List.set_cons_zero] at hK
          generalize vs 25 = vq25 at hK dq25 ⊢
          subst vq25
          generalize vs 29 = vq29 at hK dq29 ⊢
          subst vq29
          go_wp2
          exact hK _ _ rfl (Mod.refl _ _)
        refine opsOkA_cons ?_ ?_
        · intro K vs W hR hD hK
          have dq30 : vs 30 = .bool true := hD 30 (by decide)
          clear hD
          try dsimp only at hK ⊢
          simp only [Act.put, List.setIfInBounds_toArray, List.set_cons_succ, List.set_cons_zero] at hK
          generalize vs 30 = vq30 at hK dq30 ⊢
          subst vq30
          go_wp2
          exact hK _ _ rfl (Mod.refl _ _)
        refine opsOkA_cons ?_ ?_
        · intro K vs W hR hD hK
          have dq31 : vs 31 = .bool true := hD 31 (by decide)
          clear hD
          try dsimp only at hK ⊢
          simp only [Act.put, List.setIfInBounds_toArray, List.set_cons_succ, List.set_cons_zero] at hK
          generalize vs 31 = vq31 at hK dq31 ⊢
          subst vq31
          go_wp2
          exact hK _ _ rfl (Mod.refl _ _)
        refine opsOkA_cons ?_ ?_
        · intro K vs W hR hD hK
          have dq31 : vs 31 = .bool true := hD 31 (by decide)
          clear hD
          try dsimp only at hK ⊢
          simp only [Act.put, List.setIfInBounds_toArray, List.set_cons_succ, List.set_cons_zero] at hK
          generalize vs 31 = vq31 at hK dq31 ⊢
          subst vq31
          go_wp2
          exact hK _ _ rfl (Mod.refl _ _)
        refine opsOkA_cons ?_ ?_
        · intro K vs W hR hD hK
          have dq31 : vs 31 = .bool true := hD 31 (by decide)
          clear hD
          try dsimp only at hK ⊢
          simp only [Act.put, List.setIfInBounds_toArray, List.set_cons_succ, List.set_cons_zero] at hK
          generalize vs 31 = vq31 at hK dq31 ⊢
          subst vq31
          go_wp2
          exact hK _ _ rfl (Mod.refl _ _)
        refine opsOkA_cons ?_ ?_
        · intro K vs W hR hD hK
          have dq31 : vs 31 = .bool true := hD 31 (by decide)
          clear hD
          try dsimp only at hK ⊢
          simp only [Act.put, List.setIfInBounds_toArray, List.set_cons_succ, List.set_cons_zero] at hK
          generalize vs 31 = vq31 at hK dq31 ⊢
          subst vq31
          go_wp2
          exact hK _ _ rfl (Mod.refl _ _)
        refine opsOkA_cons ?_ ?_
        · intro K vs W hR hD hK
          have dq31 : vs 31 = .bool true := hD 31 (by decide)
          have dq34 : vs 34 = .slice aw lw cw := hD 34 (by decide)
          have dq35 : vs 35 = .int .i64 (kk : Int) := hD 35 (by decide)
          clear hD
          try dsimp only at hK ⊢
          simp only [Act.put, List.setIfInBounds_toArray, List.set_cons_succ, List.set_cons_zero] at hK
          generalize vs 31 = vq31 at hK dq31 ⊢
          subst vq31
          generalize vs 34 = vq34 at hK dq34 ⊢
          subst vq34
          generalize vs 35 = vq35 at hK dq35 ⊢
          subst vq35
          go_wp2_with fail
          exact hK _ _ rfl (Mod.refl _ _)
        refine opsOkA_cons ?_ ?_
        · intro K vs W hR hD hK
          have dq31 : vs 31 = .bool true := hD 31 (by decide)
          have dq32 : vs 32 = .pointer (some ⟨t, 0, none⟩) := hD 32 (by decide)
          have dq33 : vs 33 = .int .i64 (er : Int) := hD 33 (by decide)
          have dq36 : vs 36 = .slice aw kk cw := hD 36 (by decide)
          clear hD
          try dsimp only at hK ⊢
          simp only [Act.put, List.setIfInBounds_toArray, List.set_cons_succ, List.set_cons_zero] at hK
          generalize vs 31 = vq31 at hK dq31 ⊢
          subst vq31
          generalize vs 32 = vq32 at hK dq32 ⊢
          subst vq32
          generalize vs 33 = vq33 at hK dq33 ⊢
          subst vq33
          generalize vs 36 = vq36 at hK dq36 ⊢
          subst vq36
          go_wp2_with (go_at_call 43; refine (wvalid_any t p B C G W ((HSd.out.at (hR)).2.2.2.2.1) (er : Int) aw kk cw (ws.take kk) LT.out ((HSd.out.at (hR)).2.1) (by omega)).mono ?_; rintro e' w' ⟨rfl, hm'⟩; rw [V2.out])
          exact hK _ _ rfl hm'
        refine opsOkA_cons ?_ ?_
        · intro K vs W hR hD hK
          have dq31 : vs 31 = .bool true := hD 31 (by decide)
          have dq37 : vs 37 = .bool true := hD 37 (by decide)
          clear hD
          try dsimp only at hK ⊢
          simp only [Act.put, List.setIfInBounds_toArray, List.set_cons_succ, List.set_cons_zero] at hK
          generalize vs 31 = vq31 at hK dq31 ⊢
          subst vq31
          generalize vs 37 = vq37 at hK dq37 ⊢
          subst vq37
          go_wp2
          exact hK _ _ rfl (Mod.refl _ _)
        refine opsOkA_cons ?_ ?_
        · intro K vs W hR hD hK
          have dq38 : vs 38 = .bool true := hD 38 (by decide)
          clear hD
          try dsimp only at hK ⊢
          simp only [Act.put, List.setIfInBounds_toArray, List.set_cons_succ, List.set_cons_zero] at hK
          generalize vs 38 = vq38 at hK dq38 ⊢
          subst vq38
          go_wp2
          exact hK _ _ rfl (Mod.refl _ _)
        refine opsOkA_cons ?_ ?_
        · intro K vs W hR hD hK
          have dq39 : vs 39 = .bool true := hD 39 (by decide)
          clear hD
          try dsimp only at hK ⊢
          simp only [Act.put, List.setIfInBounds_toArray, List.set_cons_succ, List.set_cons_zero] at hK
          generalize vs 39 = vq39 at hK dq39 ⊢
          subst vq39
          go_wp2
          exact hK _ _ rfl (Mod.refl _ _)
        refine opsOkA_cons ?_ ?_
        · intro K vs W hR hD hK
          have dq39 : vs 39 = .bool true := hD 39 (by decide)
          clear hD
          try dsimp only at hK ⊢
          simp only [Act.put, List.setIfInBounds_toArray, List.set_cons_succ, List.set_cons_zero] at hK
          generalize vs 39 = vq39 at hK dq39 ⊢
          subst vq39
          go_wp2
          exact hK _ _ rfl (Mod.refl _ _)
        refine opsOkA_cons ?_ ?_
        · intro K vs W hR hD hK
          have dq39 : vs 39 = .bool true := hD 39 (by decide)
          clear hD
          try dsimp only at hK ⊢
          simp only [Act.put, List.setIfInBounds_toArray, List.set_cons_succ, List.set_cons_zero] at hK
          generalize vs 39 = vq39 at hK dq39 ⊢
          subst vq39
          go_wp2
          exact hK _ _ rfl (Mod.refl _ _)
        refine opsOkA_cons ?_ ?_
        · intro K vs W hR hD hK
          have dq39 : vs 39 = .bool true := hD 39 (by decide)
          clear hD
          try dsimp only at hK ⊢
          simp only [Act.put, List.setIfInBounds_toArray, List.set_cons_succ, List.set_cons_zero] at hK
          generalize vs 39 = vq39 at hK dq39 ⊢
          subst vq39
          go_wp2
          exact hK _ _ rfl (Mod.refl _ _)
        refine opsOkA_cons ?_ ?_
        · intro K vs W hR hD hK
          have dq39 : vs 39 = .bool true := hD 39 (by decide)
          have dq42 : vs 42 = .slice aw lw cw := hD 42 (by decide)
          have dq43 : vs 43 = .int .i64 (kk : Int) := hD 43 (by decide)
          clear hD
          try dsimp only at hK ⊢
          simp only [Act.put, List.setIfInBounds_toArray, List.set_cons_succ, List.set_cons_zero] at hK
          generalize vs 39 = vq39 at hK dq39 ⊢
          subst vq39
          generalize vs 42 = vq42 at hK dq42 ⊢
          subst vq42
          generalize vs 43 = vq43 at hK dq43 ⊢
          subst vq43
          go_wp2_with fail
          exact hK _ _ rfl (Mod.refl _ _)
        refine opsOkA_cons ?_ ?_
        · intro K vs W hR hD hK
          have dq39 : vs 39 = .bool true := hD 39 (by decide)
          have dq40 : vs 40 = .pointer (some ⟨t, 0, none⟩) := hD 40 (by decide)
          have dq41 : vs 41 = .int .i64 (er : Int) := hD 41 (by decide)
          have dq44 : vs 44 = .slice (dropA aw cw kk 1) (lw - kk) (cw - kk) := hD 44 (by decide)
          clear hD
          try dsimp only at hK ⊢
          simp only [Act.put, List.setIfInBounds_toArray, List.set_cons_succ, List.set_cons_zero] at hK
          generalize vs 39 = vq39 at hK dq39 ⊢
          subst vq39
          generalize vs 40 = vq40 at hK dq40 ⊢
          subst vq40
          generalize vs 41 = vq41 at hK dq41 ⊢
          subst vq41
          generalize vs 44 = vq44 at hK dq44 ⊢
          subst vq44
          go_wp2_with (go_at_call 43; refine (wvalid_any t p B C G W ((HSd.out.at (hR)).2.2.2.2.1) (er : Int) (dropA aw cw kk 1) (lw - kk) (cw - kk) (ws.drop kk) LD.out ((HSd.out.at (hR)).1) (by omega)).mono ?_; rintro e' w' ⟨rfl, hm'⟩; rw [V3.out])
          exact hK _ _ rfl hm'
        refine opsOkA_cons ?_ ?_
        · intro K vs W hR hD hK
          have dq39 : vs 39 = .bool true := hD 39 (by decide)
          have dq45 : vs 45 = .bool true := hD 45 (by decide)
          clear hD
          try dsimp only at hK ⊢
          simp only [Act.put, List.setIfInBounds_toArray, List.set_cons_succ, List.set_cons_zero] at hK
          generalize vs 39 = vq39 at hK dq39 ⊢
          subst vq39
          generalize vs 45 = vq45 at hK dq45 ⊢
          subst vq45
          go_wp2
          exact hK _ _ rfl (Mod.refl _ _)
        refine opsOkA_cons ?_ ?_
        · intro K vs W hR hD hK
          have dq46 : vs 46 = .bool true := hD 46 (by decide)
          clear hD
          try dsimp only at hK ⊢
          simp only [Act.put, List.setIfInBounds_toArray, List.set_cons_succ, List.set_cons_zero] at hK
          generalize vs 46 = vq46 at hK dq46 ⊢
          subst vq46
          go_wp2
          exact hK _ _ rfl (Mod.refl _ _)
        refine opsOkA_cons ?_ ?_
        · intro K vs W hR hD hK
          have dq47 : vs 47 = .bool true := hD 47 (by decide)
          clear hD
          try dsimp only at hK ⊢
          simp only [Act.put, List.setIfInBounds_toArray, List.set_cons_succ, List.set_cons_zero] at hK
          generalize vs 47 = vq47 at hK dq47 ⊢
          subst vq47
          go_wp2
          exact hK _ _ rfl (Mod.refl _ _)
        refine opsOkA_cons ?_ ?_
        · intro K vs W hR hD hK
          have dq47 : vs 47 = .bool true := hD 47 (by decide)
          clear hD
          try dsimp only at hK ⊢
          simp only [Act.put, List.setIfInBounds_toArray, List.set_cons_succ, List.set_cons_zero] at hK
          generalize vs 47 = vq47 at hK dq47 ⊢
          subst vq47
          go_wp2
          exact hK _ _ rfl (Mod.refl _ _)
        refine opsOkA_cons ?_ ?_
        · intro K vs W hR hD hK
          have dq47 : vs 47 = .bool true := hD 47 (by decide)
          have dq48 : vs 48 = .slice aw lw cw := hD 48 (by decide)
          have dq49 : vs 49 = .int .i64 (kk : Int) := hD 49 (by decide)
          clear hD
          try dsimp only at hK ⊢
          simp only [Act.put, List.setIfInBounds_toArray, List.set_cons_succ, List.set_cons_zero] at hK
          generalize vs 47 = vq47 at hK dq47 ⊢
          subst vq47
          generalize vs 48 = vq48 at hK dq48 ⊢
          subst vq48
          generalize vs 49 = vq49 at hK dq49 ⊢
          subst vq49
          go_wp2_with fail
          exact hK _ _ rfl (Mod.refl _ _)
        refine opsOkA_cons ?_ ?_
        · intro K vs W hR hD hK
          have dq47 : vs 47 = .bool true := hD 47 (by decide)
          clear hD
          try dsimp only at hK ⊢
          simp only [Act.put, List.setIfInBounds_toArray, List.set_cons_succ, List.set_cons_zero] at hK
          generalize vs 47 = vq47 at hK dq47 ⊢
          subst vq47
          go_wp2
          exact hK _ _ rfl (Mod.refl _ _)
        refine opsOkA_cons ?_ ?_
        · intro K vs W hR hD hK
          have dq47 : vs 47 = .bool true := hD 47 (by decide)
          have dq50 : vs 50 = .slice aw kk cw := hD 50 (by decide)
          have dq51 : vs 51 = .slice aw lw cw := hD 51 (by decide)
          clear hD
          try dsimp only at hK ⊢
          simp only [Act.put, List.setIfInBounds_toArray, List.set_cons_succ, List.set_cons_zero] at hK
          generalize vs 47 = vq47 at hK dq47 ⊢
          subst vq47
          generalize vs 50 = vq50 at hK dq50 ⊢
          subst vq50
          generalize vs 51 = vq51 at hK dq51 ⊢
          subst vq51
          go_wp2_with (go_at_call 45; refine (wcmp_any W aw kk cw (ws.take kk) LT.out ((HSd.out.at (hR)).2.1) (by omega) aw lw cw ws HLW.out ((HSd.out.at (hR)).2.2.1) (by omega)).mono ?_; rintro e' w' ⟨rfl, hm'⟩; rw [CV.out])
          exact hK _ _ rfl hm'
        refine opsOkA_cons ?_ ?_
        · intro K vs W hR hD hK
          have dq47 : vs 47 = .bool true := hD 47 (by decide)
          clear hD
          try dsimp only at hK ⊢
          simp only [Act.put, List.setIfInBounds_toArray, List.set_cons_succ, List.set_cons_zero] at hK
          generalize vs 47 = vq47 at hK dq47 ⊢
          subst vq47
          go_wp2
          exact hK _ _ rfl (Mod.refl _ _)
        refine opsOkA_cons ?_ ?_
        · intro K vs W hR hD hK
          have dq47 : vs 47 = .bool true := hD 47 (by decide)
          clear hD
          try dsimp only at hK ⊢
          simp only [Act.put, List.setIfInBounds_toArray, List.set_cons_succ, List.set_cons_zero] at hK
          generalize vs 47 = vq47 at hK dq47 ⊢
          subst vq47
          go_wp2
          exact hK _ _ rfl (Mod.refl _ _)
        refine opsOkA_cons ?_ ?_
        · intro K vs W hR hD hK
          have dq47 : vs 47 = .bool true := hD 47 (by decide)
          have dq54 : vs 54 = .slice aw lw cw := hD 54 (by decide)
          clear hD
          try dsimp only at hK ⊢
          simp only [Act.put, List.setIfInBounds_toArray, List.set_cons_succ, List.set_cons_zero] at hK
          generalize vs 47 = vq47 at hK dq47 ⊢
          subst vq47
          generalize vs 54 = vq54 at hK dq54 ⊢
          subst vq54
          go_wp2_with fail
          exact hK _ _ rfl (Mod.refl _ _)
        refine opsOkA_cons ?_ ?_
        · intro K vs W hR hD hK
          have dq47 : vs 47 = .bool true := hD 47 (by decide)
          have dq53 : vs 53 = .int .i64 (kk : Int) := hD 53 (by decide)
          have dq55 : vs 55 = .int .i64 (lw : Int) := hD 55 (by decide)
          clear hD
          try dsimp only at hK ⊢
          simp only [Act.put, List.setIfInBounds_toArray, List.set_cons_succ, List.set_cons_zero] at hK
          generalize vs 47 = vq47 at hK dq47 ⊢
          subst vq47
          generalize vs 53 = vq53 at hK dq53 ⊢
          subst vq53
          generalize vs 55 = vq55 at hK dq55 ⊢
          subst vq55
          go_wp2
          exact hK _ _ rfl (Mod.refl _ _)
        refine opsOkA_cons ?_ ?_
        · intro K vs W hR hD hK
          have dq47 : vs 47 = .bool true := hD 47 (by decide)
          have dq56 : vs 56 = .int .i64 ((kk : Int) - (lw : Int)) := hD 56 (by decide)
          clear hD
          try dsimp only at hK ⊢
          simp only [Act.put, List.setIfInBounds_toArray, List.set_cons_succ, List.set_cons_zero] at hK
          generalize vs 47 = vq47 at hK dq47 ⊢
          subst vq47
          generalize vs 56 = vq56 at hK dq56 ⊢
          subst vq56
          go_wp2_with fail
          exact hK _ _ rfl (Mod.refl _ _)
        refine opsOkA_cons ?_ ?_
        · intro K vs W hR hD hK
          have dq47 : vs 47 = .bool true := hD 47 (by decide)
          clear hD
          try dsimp only at hK ⊢
          simp only [Act.put, List.setIfInBounds_toArray, List.set_cons_succ, List.set_cons_zero] at hK
          generalize vs 47 = vq47 at hK dq47 ⊢
          subst vq47
          go_wp2
          exact hK _ _ rfl (Mod.refl _ _)
        refine opsOkA_cons ?_ ?_
        · intro K vs W hR hD hK
          have dq47 : vs 47 = .bool true := hD 47 (by decide)
          have dq58 : vs 58 = .slice aw lw cw := hD 58 (by decide)
          clear hD
          try dsimp only at hK ⊢
          simp only [Act.put, List.setIfInBounds_toArray, List.set_cons_succ, List.set_cons_zero] at hK
          generalize vs 47 = vq47 at hK dq47 ⊢
          subst vq47
          generalize vs 58 = vq58 at hK dq58 ⊢
          subst vq58
          go_wp2_with fail
          exact hK _ _ rfl (Mod.refl _ _)
        refine opsOkA_cons ?_ ?_
        · intro K vs W hR hD hK
          have dq47 : vs 47 = .bool true := hD 47 (by decide)
          clear hD
          try dsimp only at hK ⊢
          simp only [Act.put, List.setIfInBounds_toArray, List.set_cons_succ, List.set_cons_zero] at hK
          generalize vs 47 = vq47 at hK dq47 ⊢
          subst vq47
          go_wp2
          exact hK _ _ rfl (Mod.refl _ _)
        refine opsOkA_cons ?_ ?_
        · intro K vs W hR hD hK
          have dq47 : vs 47 = .bool true := hD 47 (by decide)
          have dq59 : vs 59 = .int .i64 (lw : Int) := hD 59 (by decide)
          have dq60 : vs 60 = .int .i64 (kk : Int) := hD 60 (by decide)
          clear hD
          try dsimp only at hK ⊢
          simp only [Act.put, List.setIfInBounds_toArray, List.set_cons_succ, List.set_cons_zero] at hK
          generalize vs 47 = vq47 at hK dq47 ⊢
          subst vq47
          generalize vs 59 = vq59 at hK dq59 ⊢
          subst vq59
          generalize vs 60 = vq60 at hK dq60 ⊢
          subst vq60
          go_wp2
          exact hK _ _ rfl (Mod.refl _ _)
        refine opsOkA_cons ?_ ?_
        · intro K vs W hR hD hK
          have dq47 : vs 47 = .bool true := hD 47 (by decide)
          have dq61 : vs 61 = .int .i64 ((lw : Int) - (kk : Int)) := hD 61 (by decide)
          clear hD
          try dsimp only at hK ⊢
          simp only [Act.put, List.setIfInBounds_toArray, List.set_cons_succ, List.set_cons_zero] at hK
          generalize vs 47 = vq47 at hK dq47 ⊢
          subst vq47
          generalize vs 61 = vq61 at hK dq61 ⊢
          subst vq61
          go_wp2_with fail
          exact hK _ _ rfl (Mod.refl _ _)
        refine opsOkA_cons ?_ ?_
        · intro K vs W hR hD hK
          have dq47 : vs 47 = .bool true := hD 47 (by decide)
          have dq57 : vs 57 = .int .i64 (((kk : Int) - (lw : Int))) := hD 57 (by decide)
          have dq62 : vs 62 = .int .i64 (((lw : Int) - (kk : Int))) := hD 62 (by decide)
          clear hD
          try dsimp only at hK ⊢
          simp only [Act.put, List.setIfInBounds_toArray, List.set_cons_succ, List.set_cons_zero] at hK
          generalize vs 47 = vq47 at hK dq47 ⊢
          subst vq47
          generalize vs 57 = vq57 at hK dq57 ⊢
          subst vq57
          generalize vs 62 = vq62 at hK dq62 ⊢
          subst vq62
          go_wp2
          exact hK _ _ rfl (Mod.refl _ _)
        refine opsOkA_cons ?_ ?_
        · intro K vs W hR hD hK
          have dq47 : vs 47 = .bool true := hD 47 (by decide)
          have dq52 : vs 52 = .int .i64 (-1) := hD 52 (by decide)
          have dq63 : vs 63 = .int .i64 (-1) := hD 63 (by decide)
          clear hD
          try dsimp only at hK ⊢
          simp only [Act.put, List.setIfInBounds_toArray, List.set_cons_succ, List.set_cons_zero] at hK
          generalize vs 47 = vq47 at hK dq47 ⊢
          subst vq47
          generalize vs 52 = vq52 at hK dq52 ⊢
          subst vq52
          generalize vs 63 = vq63 at hK dq63 ⊢
          subst vq63
          go_wp2
          exact hK _ _ rfl (Mod.refl _ _)
        refine opsOkA_cons ?_ ?_
        · intro K vs W hR hD hK
          have dq47 : vs 47 = .bool true := hD 47 (by decide)
          have dq64 : vs 64 = .bool true := hD 64 (by decide)
          clear hD
          try dsimp only at hK ⊢
          simp only [Act.put, List.setIfInBounds_toArray, List.set_cons_succ, List.set_cons_zero] at hK
          generalize vs 47 = vq47 at hK dq47 ⊢
          subst vq47
          generalize vs 64 = vq64 at hK dq64 ⊢
          subst vq64
          go_wp2
          exact hK _ _ rfl (Mod.refl _ _)
        refine opsOkA_cons ?_ ?_
        · intro K vs W hR hD hK
          have dq65 : vs 65 = .bool true := hD 65 (by decide)
          clear hD
          try dsimp only at hK ⊢
          simp only [Act.put, List.setIfInBounds_toArray, List.set_cons_succ, List.set_cons_zero] at hK
          generalize vs 65 = vq65 at hK dq65 ⊢
          subst vq65
          go_wp2
          exact hK _ _ rfl (Mod.refl _ _)
        refine opsOkA_cons ?_ ?_
        · intro K vs W hR hD hK
          have dq66 : vs 66 = .bool true := hD 66 (by decide)
          clear hD
          try dsimp only at hK ⊢
          simp only [Act.put, List.setIfInBounds_toArray, List.set_cons_succ, List.set_cons_zero] at hK
          generalize vs 66 = vq66 at hK dq66 ⊢
          subst vq66
          go_wp2_with (go_at_call 36; refine (awake8_any W).mono ?_; rintro e' w' ⟨rfl, hm'⟩)
          exact hK _ _ rfl hm'
        refine opsOkA_cons ?_ ?_
        · intro K vs W hR hD hK
          have dq66 : vs 66 = .bool true := hD 66 (by decide)
          have dq67 : vs 67 = .bool true := hD 67 (by decide)
          clear hD
          try dsimp only at hK ⊢
          simp only [Act.put, List.setIfInBounds_toArray, List.set_cons_succ, List.set_cons_zero] at hK
          generalize vs 66 = vq66 at hK dq66 ⊢
          subst vq66
          generalize vs 67 = vq67 at hK dq67 ⊢
          subst vq67
          go_wp2
          exact hK _ _ rfl (Mod.refl _ _)
        refine opsOkA_cons ?_ ?_
        · intro K vs W hR hD hK
          have dq68 : vs 68 = .bool true := hD 68 (by decide)
          clear hD
          try dsimp only at hK ⊢
          simp only [Act.put, List.setIfInBounds_toArray, List.set_cons_succ, List.set_cons_zero] at hK
          generalize vs 68 = vq68 at hK dq68 ⊢
          subst vq68
          go_wp2
          exact hK _ _ rfl (Mod.refl _ _)
        exact opsOkA_nil
      · intro vs wq18 hR hF
        have dq69 : vs 69 = .bool true := hF 69 (by decide)
        clear hF
        try dsimp only
        generalize vs 69 = vq69 at dq69 ⊢
        subst dq69
        replace HS := Lib.hid (HSd.out.step hR)
        clear HSd hR
        have hbbg := (HS.out.now).2.2.2.1
        have qbg_0 := hbbg.cell 0 rfl
        have qbg_1 := hbbg.cell 1 rfl
        have qbg_2 := hbbg.cell 2 rfl
        have lbg := hbbg.lt
        clear hbbg
        go_wp2_with fail
        go_ret
        exact ⟨rfl, (HS.out.now).2.2.2.2.2.2.2.2⟩
    case neg =>
      have CV : Hid (cmpL (ws.take kk) ws = 0) := Lib.hid (by rw [CT.out, if_neg hlt])
      go_upto_region 17 with fail
      simp only [List.append]
      clear qbg_0 qbg_1 qbg_2 lbg
      have HSd := Lib.hid HS.out.drew
      refine wp_region_inv3 (act := ?actwj_r17_3) (Mod (fun _ => False)) (fun i => (wj_r17_3_F t er lw cw aw kk s1 s2 en).getD i (fun _ _ => True)) (fun i => wj_r17_3_D.getD i []) (by kernel_rfl) (by kernel_rfl) (by kernel_rfl) (by kernel_rfl) (fun _ => Mod.refl _ _)
        (fun _ _ _ h k => h.trans k (fun _ _ e => e) (fun _ _ e => e)) ?hactwj_r17_3 (stable_list ?_) ?_ ?_
      case hactwj_r17_3 => intro vs; simp only [putAll, Nat.zero_add, Nat.reduceAdd, Act.put, List.setIfInBounds_toArray, List.set_cons_succ, List.set_cons_zero]; exact rfl
      · unfold wj_r17_3_F
        exact stable_cons (stable_val _) <| stable_cons (stable_val _) <| stable_cons (stable_val _) <| stable_cons (stable_val _) <| stable_cons (stable_val _) <| stable_cons (stable_val _) <| stable_cons (stable_val _) <| stable_cons (stable_val _) <| stable_cons (stable_val _) <| stable_cons (stable_val _) <| stable_cons (stable_val _) <| stable_cons (stable_val _) <| stable_cons (stable_val _) <| stable_cons (stable_val _) <| stable_cons (stable_val _) <| stable_cons (stable_val _) <| stable_cons (stable_val _) <| stable_cons (stable_val _) <| stable_cons (stable_val _) <| stable_cons (stable_val _) <| stable_cons (stable_val _) <| stable_cons (stable_val _) <| stable_cons (stable_val _) <| stable_cons (stable_val _) <| stable_cons (stable_val _) <| stable_cons (stable_val _) <| stable_cons (stable_val _) <| stable_cons (stable_val _) <| stable_cons (stable_val _) <| stable_cons (stable_val _) <| stable_cons (stable_val _) <| stable_cons (stable_val _) <| stable_cons (stable_val _) <| stable_cons (stable_val _) <| stable_cons (stable_val _) <| stable_cons (stable_val _) <| stable_cons (stable_val _) <| stable_cons (stable_val _) <| stable_cons (stable_val _) <| stable_cons (stable_val _) <| stable_cons (stable_val _) <| stable_cons (stable_val _) <| stable_cons (stable_val _) <| stable_cons (stable_val _) <| stable_cons (stable_val _) <| stable_cons (stable_val _) <| stable_cons (stable_val _) <| stable_cons (stable_val _) <| stable_cons (stable_val _) <| stable_cons (stable_val _) <| stable_cons (stable_val _) <| stable_cons (stable_val _) <| stable_cons (stable_val _) <| stable_cons (stable_val _) <| stable_cons (stable_val _) <| stable_cons (stable_val _) <| stable_cons (stable_val _) <| stable_cons (stable_val _) <| stable_cons (stable_val _) <| stable_cons (stable_val _) <| stable_cons (stable_val _) <| stable_cons (stable_val _) <| stable_cons (stable_val _) <| stable_cons (stable_val _) <| stable_cons (stable_val _) <| stable_cons (stable_val _) <| stable_cons (stable_val _) <| stable_cons (stable_val _) <| stable_cons (stable_val _) <| stable_cons (stable_val _) <| stable_nil
      · refine opsOkA_cons ?_ ?_
        · intro K vs W hR hD hK
          clear hD
          try dsimp only at hK ⊢
          simp only [Act.put, List.setIfInBounds_toArray, List.set_cons_succ, List.set_cons_zero] at hK
          go_wp2
          exact hK _ _ rfl (Mod.refl _ _)
        refine opsOkA_cons ?_ ?_
        · intro K vs W hR hD hK
          have dq0 : vs 0 = .bool true := hD 0 (by decide)
          clear hD
          try dsimp only at hK ⊢
          simp only [Act.put, List.setIfInBounds_toArray, List.set_cons_succ, List.set_cons_zero] at hK
          generalize vs 0 = vq0 at hK dq0 ⊢
          subst vq0
          go_wp2
          exact hK _ _ rfl (Mod.refl _ _)
        refine opsOkA_cons ?_ ?_
        · intro K vs W hR hD hK
          have dq1 : vs 1 = .bool true := hD 1 (by decide)
          clear hD
          try dsimp only at hK ⊢
          simp only [Act.put, List.setIfInBounds_toArray, List.set_cons_succ, List.set_cons_zero] at hK
          generalize vs 1 = vq1 at hK dq1 ⊢
          subst vq1
          go_wp2
          exact hK _ _ rfl (Mod.refl _ _)
        refine opsOkA_cons ?_ ?_
        · intro K vs W hR hD hK
          have dq1 : vs 1 = .bool true := hD 1 (by decide)
          have dq2 : vs 2 = .bool true := hD 2 (by decide)
          clear hD
          try dsimp only at hK ⊢
          simp only [Act.put, List.setIfInBounds_toArray, List.set_cons_succ, List.set_cons_zero] at hK
          generalize vs 1 = vq1 at hK dq1 ⊢
          subst vq1
          generalize vs 2 = vq2 at hK dq2 ⊢
          subst vq2
          go_wp2
          exact hK _ _ rfl (Mod.refl _ _)
        refine opsOkA_cons ?_ ?_
        · intro K vs W hR hD hK
          have dq3 : vs 3 = .bool true := hD 3 (by decide)
          clear hD
          try dsimp only at hK ⊢
          simp only [Act.put, List.setIfInBounds_toArray, List.set_cons_succ, List.set_cons_zero] at hK
          generalize vs 3 = vq3 at hK dq3 ⊢
          subst vq3
          go_wp2
          exact hK _ _ rfl (Mod.refl _ _)
        refine opsOkA_cons ?_ ?_
        · intro K vs W hR hD hK
          have dq4 : vs 4 = .bool true := hD 4 (by decide)
          clear hD
          try dsimp only at hK ⊢
          simp only [Act.put, List.setIfInBounds_toArray, List.set_cons_succ, List.set_cons_zero] at hK
          generalize vs 4 = vq4 at hK dq4 ⊢
          subst vq4
          go_wp2
          exact hK _ _ rfl (Mod.refl _ _)
        refine opsOkA_cons ?_ ?_
        · intro K vs W hR hD hK
          have dq4 : vs 4 = .bool true := hD 4 (by decide)
          have dq5 : vs 5 = .bool true := hD 5 (by decide)
          clear hD
          try dsimp only at hK ⊢
          simp only [Act.put, List.setIfInBounds_toArray, List.set_cons_succ, List.set_cons_zero] at hK
          generalize vs 4 = vq4 at hK dq4 ⊢
          subst vq4
          generalize vs 5 = vq5 at hK dq5 ⊢
          subst vq5
          go_wp2
          exact hK _ _ rfl (Mod.refl _ _)
        refine opsOkA_cons ?_ ?_
        · intro K vs W hR hD hK
          have dq6 : vs 6 = .bool true := hD 6 (by decide)
          clear hD
          try dsimp only at hK ⊢
          simp only [Act.put, List.setIfInBounds_toArray, List.set_cons_succ, List.set_cons_zero] at hK
          generalize vs 6 = vq6 at hK dq6 ⊢
          subst vq6
          go_wp2
          exact hK _ _ rfl (Mod.refl _ _)
        refine opsOkA_cons ?_ ?_
        · intro K vs W hR hD hK
          have dq7 : vs 7 = .bool true := hD 7 (by decide)
          clear hD
          try dsimp only at hK ⊢
          simp only [Act.put, List.setIfInBounds_toArray, List.set_cons_succ, List.set_cons_zero] at hK
          generalize vs 7 = vq7 at hK dq7 ⊢
          subst vq7
          go_wp2
          exact hK _ _ rfl (Mod.refl _ _)
        refine opsOkA_cons ?_ ?_
        · intro K vs W hR hD hK
          have dq7 : vs 7 = .bool true := hD 7 (by decide)
          have dq8 : vs 8 = .bool true := hD 8 (by decide)
          clear hD
          try dsimp only at hK ⊢
          simp only [Act.put, List.setIfInBounds_toArray, List.set_cons_succ, List.set_cons_zero] at hK
          generalize vs 7 = vq7 at hK dq7 ⊢
          subst vq7
          generalize vs 8 = vq8 at hK dq8 ⊢
          subst vq8
          go_wp2
          exact hK _ _ rfl (Mod.refl _ _)
        refine opsOkA_cons ?_ ?_
        · intro K vs W hR hD hK
          have dq9 : vs 9 = .bool true := hD 9 (by decide)
          clear hD
          try dsimp only at hK ⊢
          simp only [Act.put, List.setIfInBounds_toArray, List.set_cons_succ, List.set_cons_zero] at hK
          generalize vs 9 = vq9 at hK dq9 ⊢
          subst vq9
          go_wp2
          exact hK _ _ rfl (Mod.refl _ _)
        refine opsOkA_cons ?_ ?_
        · intro K vs W hR hD hK
          have dq10 : vs 10 = .bool true := hD 10 (by decide)
          clear hD
          try dsimp only at hK ⊢
          simp only [Act.put, List.setIfInBounds_toArray, List.set_cons_succ, List.set_cons_zero] at hK
          generalize vs 10 = vq10 at hK dq10 ⊢
          subst vq10
          go_wp2
          exact hK _ _ rfl (Mod.refl _ _)
        refine opsOkA_cons ?_ ?_
        · intro K vs W hR hD hK
          have dq10 : vs 10 = .bool true := hD 10 (by decide)
          have dq11 : vs 11 = .bool true := hD 11 (by decide)
          clear hD
          try dsimp only at hK ⊢
          simp only [Act.put, List.setIfInBounds_toArray, List.set_cons_succ, List.set_cons_zero] at hK
          generalize vs 10 = vq10 at hK dq10 ⊢
          subst vq10
          generalize vs 11 = vq11 at hK dq11 ⊢
          subst vq11
          go_wp2
          exact hK _ _ rfl (Mod.refl _ _)
        refine opsOkA_cons ?_ ?_
        · intro K vs W hR hD hK
          have dq12 : vs 12 = .bool true := hD 12 (by decide)
          clear hD
          try dsimp only at hK ⊢
          simp only [Act.put, List.setIfInBounds_toArray, List.set_cons_succ, List.set_cons_zero] at hK
          generalize vs 12 = vq12 at hK dq12 ⊢
          subst vq12
          go_wp2
          exact hK _ _ rfl (Mod.refl _ _)
        refine opsOkA_cons ?_ ?_
        · intro K vs W hR hD hK
          have dq13 : vs 13 = .bool true := hD 13 (by decide)
          clear hD
          try dsimp only at hK ⊢
          simp only [Act.put, List.setIfInBounds_toArray, List.set_cons_succ, List.set_cons_zero] at hK
          generalize vs 13 = vq13 at hK dq13 ⊢
          subst vq13
          go_wp2
          exact hK _ _ rfl (Mod.refl _ _)
        refine opsOkA_cons ?_ ?_
        · intro K vs W hR hD hK
          have dq13 : vs 13 = .bool true := hD 13 (by decide)
          clear hD
          try dsimp only at hK ⊢
          simp only [Act.put, List.setIfInBounds_toArray, List.set_cons_succ, List.set_cons_zero] at hK
          generalize vs 13 = vq13 at hK dq13 ⊢
          subst vq13
          go_wp2
          exact hK _ _ rfl (Mod.refl _ _)
        refine opsOkA_cons ?_ ?_
        · intro K vs W hR hD hK
          have dq13 : vs 13 = .bool true := hD 13 (by decide)
          have dq14 : vs 14 = .int .i64 s1 := hD 14 (by decide)
          have dq15 : vs 15 = .int .i64 s2 := hD 15 (by decide)
          clear hD
          try dsimp only at hK ⊢
          simp only [Act.put, List.setIfInBounds_toArray, List.set_cons_succ, List.set_cons_zero] at hK
          generalize vs 13 = vq13 at hK dq13 ⊢
          subst vq13
          generalize vs 14 = vq14 at hK dq14 ⊢
          subst vq14
          generalize vs 15 = vq15 at hK dq15 ⊢
          subst vq15
          go_wp2
          exact hK _ _ rfl (Mod.refl _ _)
        refine opsOkA_cons ?_ ?_
        · intro K vs W hR hD hK
          have dq13 : vs 13 = .bool true := hD 13 (by decide)
          clear hD
          try dsimp only at hK ⊢
          simp only [Act.put, List.setIfInBounds_toArray, List.set_cons_succ, List.set_cons_zero] at hK
          generalize vs 13 = vq13 at hK dq13 ⊢
          subst vq13
          go_wp2
          exact hK _ _ rfl (Mod.refl _ _)
        refine opsOkA_cons ?_ ?_
        · intro K vs W hR hD hK
          have dq13 : vs 13 = .bool true := hD 13 (by decide)
          have dq16 : vs 16 = .int .i64 (s1 + s2) := hD 16 (by decide)
          have dq17 : vs 17 = .int .i64 (s1 + s2) := hD 17 (by decide)
          clear hD
          try dsimp only at hK ⊢
          simp only [Act.put, List.setIfInBounds_toArray, List.set_cons_succ, List.set_cons_zero] at hK
          generalize vs 13 = vq13 at hK dq13 ⊢
          subst vq13
          generalize vs 16 = vq16 at hK dq16 ⊢
          subst vq16
          generalize vs 17 = vq17 at hK dq17 ⊢
          subst vq17
          go_wp2
          exact hK _ _ rfl (Mod.refl _ _)
        refine opsOkA_cons ?_ ?_
        · intro K vs W hR hD hK
          have dq13 : vs 13 = .bool true := hD 13 (by decide)
          have dq18 : vs 18 = .bool true := hD 18 (by decide)
          clear hD
          try dsimp only at hK ⊢
          simp only [Act.put, List.setIfInBounds_toArray, List.set_cons_succ, List.set_cons_zero] at hK
          generalize vs 13 = vq13 at hK dq13 ⊢
          subst vq13
          generalize vs 18 = vq18 at hK dq18 ⊢
          subst vq18
          go_wp2
          exact hK _ _ rfl (Mod.refl _ _)
        refine opsOkA_cons ?_ ?_
        · intro K vs W hR hD hK
          have dq19 : vs 19 = .bool true := hD 19 (by decide)
          clear hD
          try dsimp only at hK ⊢
          simp only [Act.put, List.setIfInBounds_toArray, List.set_cons_succ, List.set_cons_zero] at hK
          generalize vs 19 = vq19 at hK dq19 ⊢
          subst vq19
          go_wp2
          exact hK _ _ rfl (Mod.refl _ _)
        refine opsOkA_cons ?_ ?_
        · intro K vs W hR hD hK
          have dq20 : vs 20 = .bool true := hD 20 (by decide)
          clear hD
          try dsimp only at hK ⊢
          simp only [Act.put, List.setIfInBounds_toArray, List.set_cons_succ, List.set_cons_zero] at hK
          generalize vs 20 = vq20 at hK dq20 ⊢
          subst vq20
          go_wp2
          exact hK _ _ rfl (Mod.refl _ _)
        refine opsOkA_cons ?_ ?_
        · intro K vs W hR hD hK
          have dq20 : vs 20 = .bool true := hD 20 (by decide)
          clear hD
          try dsimp only at hK ⊢
          simp only [Act.put, List.setIfInBounds_toArray, List.set_cons_succ, List.set_cons_zero] at hK
          generalize vs 20 = vq20 at hK dq20 ⊢
          subst vq20
          go_wp2
          exact hK _ _ rfl (Mod.refl _ _)
        refine opsOkA_cons ?_ ?_
        · intro K vs W hR hD hK
          have dq20 : vs 20 = .bool true := hD 20 (by decide)
          have dq21 : vs 21 = .int .i64 en := hD 21 (by decide)
          have dq22 : vs 22 = .int .i64 en := hD 22 (by decide)
          clear hD
          try dsimp only at hK ⊢
          simp only [Act.put, List.setIfInBounds_toArray, List.set_cons_succ, List.set_cons_zero] at hK
          generalize vs 20 = vq20 at hK dq20 ⊢
          subst vq20
          generalize vs 21 = vq21 at hK dq21 ⊢
          subst vq21
          generalize vs 22 = vq22 at hK dq22 ⊢
          subst vq22
          go_wp2
          exact hK _ _ rfl (Mod.refl _ _)
        refine opsOkA_cons ?_ ?_
        · intro K vs W hR hD hK
          have dq20 : vs 20 = .bool true := hD 20 (by decide)
          have dq23 : vs 23 = .bool true := hD 23 (by decide)
          clear hD
          try dsimp only at hK ⊢
          simp only [Act.put, List.setIfInBounds_toArray, List.set_cons_succ, List.set_cons_zero] at hK
          generalize vs 20 = vq20 at hK dq20 ⊢
          subst vq20
          generalize vs 23 = vq23 at hK dq23 ⊢
          subst vq23
          go_wp2
          exact hK _ _ rfl (Mod.refl _ _)
        refine opsOkA_cons ?_ ?_
        · intro K vs W hR hD hK
          have dq24 : vs 24 = .bool true := hD 24 (by decide)
          clear hD
          try dsimp only at hK ⊢
          simp only [Act.put, List.setIfInBounds_toArray, List.set_cons_succ, List.set_cons_zero] at hK
          generalize vs 24 = vq24 at hK dq24 ⊢
          subst vq24
          go_wp2
          exact hK _ _ rfl (Mod.refl _ _)
        refine opsOkA_cons ?_ ?_
        · intro K vs W hR hD hK
          have dq25 : vs 25 = .bool true := hD 25 (by decide)
          clear hD
          try dsimp only at hK ⊢
          simp only [Act.put, List.setIfInBounds_toArray, List.set_cons_succ, List.set_cons_zero] at hK
          generalize vs 25 = vq25 at hK dq25 ⊢
          subst vq25
          go_wp2
          exact hK _ _ rfl (Mod.refl _ _)
        refine opsOkA_cons ?_ ?_
        · intro K vs W hR hD hK
          have dq25 : vs 25 = .bool true := hD 25 (by decide)
          clear hD
          try dsimp only at hK ⊢
          simp only [Act.put, List.setIfInBounds_toArray, List.set_cons_succ, List.set_cons_zero] at hK
          generalize vs 25 = vq25 at hK dq25 ⊢
          subst vq25
          go_wp2
          exact hK _ _ rfl (Mod.refl _ _)
        refine opsOkA_cons ?_ ?_
        · intro K vs W hR hD hK
          have dq25 : vs 25 = .bool true := hD 25 (by decide)
          clear hD
          try dsimp only at hK ⊢
          simp only [Act.put, List.setIfInBounds_toArray, List.set_cons_succ, List.set_cons_zero] at hK
          generalize vs 25 = vq25 at hK dq25 ⊢
          subst vq25
          go_wp2
          exact hK _ _ rfl (Mod.refl _ _)
        refine opsOkA_cons ?_ ?_
        · intro K vs W hR hD hK
          have dq25 : vs 25 = .bool true := hD 25 (by decide)
          have dq26 : vs 26 = .pointer (some ⟨t, 0, none⟩) := hD 26 (by decide)
          have dq27 : vs 27 = .int .i64 (er : Int) := hD 27 (by decide)
          have dq28 : vs 28 = .slice aw lw cw := hD 28 (by decide)
          clear hD
          try dsimp only at hK ⊢
          simp only [Act.put, List.setIfInBounds_toArray, List.set_cons_succ, List.set_cons_zero] at hK
          generalize vs 25 = vq25 at hK dq25 ⊢
          subst vq25
          generalize vs 26 = vq26 at hK dq26 ⊢
          subst vq26
          generalize vs 27 = vq27 at hK dq27 ⊢
          subst vq27
          generalize vs 28 = vq28 at hK dq28 ⊢
          subst vq28
          go_wp2_with (go_at_call 43; refine (wvalid_any t p B C G W ((HSd.out.at (hR)).2.2.2.2.1) (er : Int) aw lw cw ws HLW.out ((HSd.out.at (hR)).2.2.1) (by omega)).mono ?_; rintro e' w' ⟨rfl, hm'⟩; rw [V1.out])
          exact hK _ _ rfl hm'
        refine opsOkA_cons ?_ ?_
        · intro K vs W hR hD hK
          have dq25 : vs 25 = .bool true := hD 25 (by decide)
          have dq29 : vs 29 = .bool true := hD 29 (by decide)
          clear hD
          try dsimp only at hK ⊢
          simp only [Act.put, List.setIfInBounds_toArray, List.set_cons_succ, List.set_cons_zero] at hK
          generalize vs 25 = vq25 at hK dq25 ⊢
          subst vq25
          generalize vs 29 = vq29 at hK dq29 ⊢
          subst vq29
          go_wp2
          exact hK _ _ rfl (Mod.refl _ _)
        refine opsOkA_cons ?_ ?_
        · intro K vs W hR hD hK
          have dq30 : vs 30 = .bool true := hD 30 (by decide)
          clear hD
          try dsimp only at hK ⊢
          simp only [Act.put, List.setIfInBounds_toArray, List.set_cons_succ, List.set_cons_zero] at hK
          generalize vs 30 = vq30 at hK dq30 ⊢
          subst vq30
          go_wp2
          exact hK _ _ rfl (Mod.refl _ _)
        refine opsOkA_cons ?_ ?_
        · intro K vs W hR hD hK
          have dq31 : vs 31 = .bool true := hD 31 (by decide)
          clear hD
          try dsimp only at hK ⊢
          simp only [Act.put, List.setIfInBounds_toArray, List.set_cons_succ, List.set_cons_zero] at hK
          generalize vs 31 = vq31 at hK dq31 ⊢
          subst vq31
          go_wp2
          exact hK _ _ rfl (Mod.refl _ _)
        refine opsOkA_cons ?_ ?_
        · intro K vs W hR hD hK
          have dq31 : vs 31 = .bool true := hD 31 (by decide)
          clear hD
          try dsimp only at hK ⊢
          simp only [Act.put, List.setIfInBounds_toArray, List.set_cons_succ, List.set_cons_zero] at hK
          generalize vs 31 = vq31 at hK dq31 ⊢
          subst vq31
          go_wp2
          exact hK _ _ rfl (Mod.refl _ _)
        refine opsOkA_cons ?_ ?_
        · intro K vs W hR hD hK
          have dq31 : vs 31 = .bool true := hD 31 (by decide)
          clear hD
          try dsimp only at hK ⊢
          simp only [Act.put, List.setIfInBounds_toArray, List.set_cons_succ, List.set_cons_zero] at hK
          generalize vs 31 = vq31 at hK dq31 ⊢
          subst vq31
          go_wp2
          exact hK _ _ rfl (Mod.refl _ _)
        refine opsOkA_cons ?_ ?_
        · intro K vs W hR hD hK
          have dq31 : vs 31 = .bool true := hD 31 (by decide)
          clear hD
          try dsimp only at hK ⊢
          simp only [Act.put, List.setIfInBounds_toArray, List.set_cons_succ, List.set_cons_zero] at hK
          generalize vs 31 = vq31 at hK dq31 ⊢
          subst vq31
          go_wp2
          exact hK _ _ rfl (Mod.refl _ _)
        refine opsOkA_cons ?_ ?_
        · intro K vs W hR hD hK
          have dq31 : vs 31 = .bool true := hD 31 (by decide)
          have dq34 : vs 34 = .slice aw lw cw := hD 34 (by decide)
          have dq35 : vs 35 = .int .i64 (kk : Int) := hD 35 (by decide)
          clear hD
          try dsimp only at hK ⊢
          simp only [Act.put, List.setIfInBounds_toArray, List.set_cons_succ, List.set_cons_zero] at hK
          generalize vs 31 = vq31 at hK dq31 ⊢
          subst vq31
          generalize vs 34 = vq34 at hK dq34 ⊢
          subst vq34
          generalize vs 35 = vq35 at hK dq35 ⊢
          subst vq35
          go_wp2_with fail
          exact hK _ _ rfl (Mod.refl _ _)
        refine opsOkA_cons ?_ ?_
        · intro K vs W hR hD hK
          have dq31 : vs 31 = .bool true := hD 31 (by decide)
          have dq32 : vs 32 = .pointer (some ⟨t, 0, none⟩) := hD 32 (by decide)
          have dq33 : vs 33 = .int .i64 (er : Int) := hD 33 (by decide)
          have dq36 : vs 36 = .slice aw kk cw := hD 36 (by decide)
          clear hD
          try dsimp only at hK ⊢
          simp only [Act.put, List.setIfInBounds_toArray, List.set_cons_succ, List.set_cons_zero] at hK
          generalize vs 31 = vq31 at hK dq31 ⊢
          subst vq31
          generalize vs 32 = vq32 at hK dq32 ⊢
          subst vq32
          generalize vs 33 = vq33 at hK dq33 ⊢
          subst vq33
          generalize vs 36 = vq36 at hK dq36 ⊢
          subst vq36
          go_wp2_with (go_at_call 43; refine (wvalid_any t p B C G W ((HSd.out.at (hR)).2.2.2.2.1) (er : Int) aw kk cw (ws.take kk) LT.out ((HSd.out.at (hR)).2.1) (by omega)).mono ?_; rintro e' w' ⟨rfl, hm'⟩; rw [V2.out])
          exact hK _ _ rfl hm'
        refine opsOkA_cons ?_ ?_
        · intro K vs W hR hD hK
          have dq31 : vs 31 = .bool true := hD 31 (by decide)
          have dq37 : vs 37 = .bool true := hD 37 (by decide)
          clear hD
          try dsimp only at hK ⊢
          simp only [Act.put, List.setIfInBounds_toArray, List.set_cons_succ, List.set_cons_zero] at hK
          generalize vs 31 = vq31 at hK dq31 ⊢
          subst vq31
          generalize vs 37 = vq37 at hK dq37 ⊢
          subst vq37
          go_wp2
          exact hK _ _ rfl (Mod.refl _ _)
        refine opsOkA_cons ?_ ?_
        · intro K vs W hR hD hK
          have dq38 : vs 38 = .bool true := hD 38 (by decide)
          clear hD
          try dsimp only at hK ⊢
          simp only [Act.put, List.setIfInBounds_toArray, List.set_cons_succ, List.set_cons_zero] at hK
          generalize vs 38 = vq38 at hK dq38 ⊢
          subst vq38
          go_wp2
          exact hK _ _ rfl (Mod.refl _ _)
        refine opsOkA_cons ?_ ?_
        · intro K vs W hR hD hK
          have dq39 : vs 39 = .bool true := hD 39 (by decide)
          clear hD
          try dsimp only at hK ⊢
          simp only [Act.put, List.setIfInBounds_toArray, List.set_cons_succ, List.set_cons_zero] at hK
          generalize vs 39 = vq39 at hK dq39 ⊢
          subst vq39
          go_wp2
          exact hK _ _ rfl (Mod.refl _ _)
        refine opsOkA_cons ?_ ?_
        · intro K vs W hR hD hK
          have dq39 : vs 39 = .bool true := hD 39 (by decide)
          clear hD
          try dsimp only at hK ⊢
          simp only [Act.put, List.setIfInBounds_toArray, List.set_cons_succ, List.set_cons_zero] at hK
          generalize vs 39 = vq39 at hK dq39 ⊢
          subst vq39
          go_wp2
          exact hK _ _ rfl (Mod.refl _ _)
        refine opsOkA_cons ?_ ?_
        · intro K vs W hR hD hK
          have dq39 : vs 39 = .bool true := hD 39 (by decide)
          clear hD
          try dsimp only at hK ⊢
          simp only [Act.put, List.setIfInBounds_toArray, List.set_cons_succ, List.set_cons_zero] at hK
          generalize vs 39 = vq39 at hK dq39 ⊢
          subst vq39
          go_wp2
          exact hK _ _ rfl (Mod.refl _ _)
        refine opsOkA_cons ?_ ?_
        · intro K vs W hR hD hK
          have dq39 : vs 39 = .bool true := hD 39 (by decide)
          clear hD
          try dsimp only at hK ⊢
          simp only [Act.put, List.setIfInBounds_toArray, List.set_cons_succ, List.set_cons_zero] at hK
          generalize vs 39 = vq39 at hK dq39 ⊢
          subst vq39
          go_wp2
          exact hK _ _ rfl (Mod.refl _ _)
        refine opsOkA_cons ?_ ?_
        · intro K vs W hR hD hK
          have dq39 : vs 39 = .bool true := hD 39 (by decide)
          have dq42 : vs 42 = .slice aw lw cw := hD 42 (by decide)
          have dq43 : vs 43 = .int .i64 (kk : Int) := hD 43 (by decide)
          clear hD
          try dsimp only at hK ⊢
          simp only [Act.put, List.setIfInBounds_toArray, List.set_cons_succ, List.set_cons_zero] at hK
          generalize vs 39 = vq39 at hK dq39 ⊢
          subst vq39
          generalize vs 42 = vq42 at hK dq42 ⊢
          subst vq42
          generalize vs 43 = vq43 at hK dq43 ⊢
          subst vq43
          go_wp2_with fail
          exact hK _ _ rfl (Mod.refl _ _)
        refine opsOkA_cons ?_ ?_
        · intro K vs W hR hD hK
          have dq39 : vs 39 = .bool true := hD 39 (by decide)
          have dq40 : vs 40 = .pointer (some ⟨t, 0, none⟩) := hD 40 (by decide)
          have dq41 : vs 41 = .int .i64 (er : Int) := hD 41 (by decide)
          have dq44 : vs 44 = .slice (dropA aw cw kk 1) (lw - kk) (cw - kk) := hD 44 (by decide)
          clear hD
          try dsimp only at hK ⊢
          simp only [Act.put, List.setIfInBounds_toArray, List.set_cons_succ, List.set_cons_zero] at hK
          generalize vs 39 = vq39 at hK dq39 ⊢
          subst vq39
          generalize vs 40 = vq40 at hK dq40 ⊢
          subst vq40
          generalize vs 41 = vq41 at hK dq41 ⊢
          subst vq41
          generalize vs 44 = vq44 at hK dq44 ⊢
          subst vq44
          go_wp2_with (go_at_call 43; refine (wvalid_any t p B C G W ((HSd.out.at (hR)).2.2.2.2.1) (er : Int) (dropA aw cw kk 1) (lw - kk) (cw - kk) (ws.drop kk) LD.out ((HSd.out.at (hR)).1) (by omega)).mono ?_; rintro e' w' ⟨rfl, hm'⟩; rw [V3.out])
          exact hK _ _ rfl hm'
        refine opsOkA_cons ?_ ?_
        · intro K vs W hR hD hK
          have dq39 : vs 39 = .bool true := hD 39 (by decide)
          have dq45 : vs 45 = .bool true := hD 45 (by decide)
          clear hD
          try dsimp only at hK ⊢
          simp only [Act.put, List.setIfInBounds_toArray, List.set_cons_succ, List.set_cons_zero] at hK
          generalize vs 39 = vq39 at hK dq39 ⊢
          subst vq39
          generalize vs 45 = vq45 at hK dq45 ⊢
          subst vq45
          go_wp2
          exact hK _ _ rfl (Mod.refl _ _)
        refine opsOkA_cons ?_ ?_
        · intro K vs W hR hD hK
          have dq46 : vs 46 = .bool true := hD 46 (by decide)
          clear hD
          try dsimp only at hK ⊢
          simp only [Act.put, List.setIfInBounds_toArray, List.set_cons_succ, List.set_cons_zero] at hK
          generalize vs 46 = vq46 at hK dq46 ⊢
          subst vq46
          go_wp2
          exact hK _ _ rfl (Mod.refl _ _)
        refine opsOkA_cons ?_ ?_
        · intro K vs W hR hD hK
          have dq47 : vs 47 = .bool true := hD 47 (by decide)
          clear hD
          try dsimp only at hK ⊢
          simp only [Act.put, List.setIfInBounds_toArray, List.set_cons_succ, List.set_cons_zero] at hK
          generalize vs 47 = vq47 at hK dq47 ⊢
          subst vq47
          go_wp2
          exact hK _ _ rfl (Mod.refl _ _)
        refine opsOkA_cons ?_ ?_
        · intro K vs W hR hD hK
          have dq47 : vs 47 = .bool true := hD 47 (by decide)
          clear hD
          try dsimp only at hK ⊢
          simp only [Act.put, List.setIfInBounds_toArray, List.set_cons_succ, List.set_cons_zero] at hK
          generalize vs 47 = vq47 at hK dq47 ⊢
          subst vq47
          go_wp2
          exact hK _ _ rfl (Mod.refl _ _)
        refine opsOkA_cons ?_ ?_
        · intro K vs W hR hD hK
          have dq47 : vs 47 = .bool true := hD 47 (by decide)
          have dq48 : vs 48 = .slice aw lw cw := hD 48 (by decide)
          have dq49 : vs 49 = .int .i64 (kk : Int) := hD 49 (by decide)
          clear hD
          try dsimp only at hK ⊢
          simp only [Act.put, List.setIfInBounds_toArray, List.set_cons_succ, List.set_cons_zero] at hK
          generalize vs 47 = vq47 at hK dq47 ⊢
          subst vq47
          generalize vs 48 = vq48 at hK dq48 ⊢
          subst vq48
          generalize vs 49 = vq49 at hK dq49 ⊢
          subst vq49
          go_wp2_with fail
          exact hK _ _ rfl (Mod.refl _ _)
        refine opsOkA_cons ?_ ?_
        · intro K vs W hR hD hK
          have dq47 : vs 47 = .bool true := hD 47 (by decide)
          clear hD
          try dsimp only at hK ⊢
          simp only [Act.put, List.setIfInBounds_toArray, List.set_cons_succ, List.set_cons_zero] at hK
          generalize vs 47 = vq47 at hK dq47 ⊢
          subst vq47
          go_wp2
          exact hK _ _ rfl (Mod.refl _ _)
        refine opsOkA_cons ?_ ?_
        · intro K vs W hR hD hK
          have dq47 : vs 47 = .bool true := hD 47 (by decide)
          have dq50 : vs 50 = .slice aw kk cw := hD 50 (by decide)
          have dq51 : vs 51 = .slice aw lw cw := hD 51 (by decide)
          clear hD
          try dsimp only at hK ⊢
          simp only [Act.put, List.setIfInBounds_toArray, List.set_cons_succ, List.set_cons_zero] at hK
          generalize vs 47 = vq47 at hK dq47 ⊢
          subst vq47
          generalize vs 50 = vq50 at hK dq50 ⊢
          subst vq50
          generalize vs 51 = vq51 at hK dq51 ⊢
          subst vq51
          go_wp2_with (go_at_call 45; refine (wcmp_any W aw kk cw (ws.take kk) LT.out ((HSd.out.at (hR)).2.1) (by omega) aw lw cw ws HLW.out ((HSd.out.at (hR)).2.2.1) (by omega)).mono ?_; rintro e' w' ⟨rfl, hm'⟩; rw [CV.out])
          exact hK _ _ rfl hm'
        refine opsOkA_cons ?_ ?_
        · intro K vs W hR hD hK
          have dq47 : vs 47 = .bool true := hD 47 (by decide)
          clear hD
          try dsimp only at hK ⊢
          simp only [Act.put, List.setIfInBounds_toArray, List.set_cons_succ, List.set_cons_zero] at hK
          generalize vs 47 = vq47 at hK dq47 ⊢
          subst vq47
          go_wp2
          exact hK _ _ rfl (Mod.refl _ _)
        refine opsOkA_cons ?_ ?_
        · intro K vs W hR hD hK
          have dq47 : vs 47 = .bool true := hD 47 (by decide)
          clear hD
          try dsimp only at hK ⊢
          simp only [Act.put, List.setIfInBounds_toArray, List.set_cons_succ, List.set_cons_zero] at hK
          generalize vs 47 = vq47 at hK dq47 ⊢
          subst vq47
          go_wp2
          exact hK _ _ rfl (Mod.refl _ _)
        refine opsOkA_cons ?_ ?_
        · intro K vs W hR hD hK
          have dq47 : vs 47 = .bool true := hD 47 (by decide)
          have dq54 : vs 54 = .slice aw lw cw := hD 54 (by decide)
          clear hD
          try dsimp only at hK ⊢
          simp only [Act.put, List.setIfInBounds_toArray, List.set_cons_succ, List.set_cons_zero] at hK
          generalize vs 47 = vq47 at hK dq47 ⊢
          subst vq47
          generalize vs 54 = vq54 at hK dq54 ⊢
          subst vq54
          go_wp2_with fail
          exact hK _ _ rfl (Mod.refl _ _)
        refine opsOkA_cons ?_ ?_
        · intro K vs W hR hD hK
          have dq47 : vs 47 = .bool true := hD 47 (by decide)
          have dq53 : vs 53 = .int .i64 (kk : Int) := hD 53 (by decide)
          have dq55 : vs 55 = .int .i64 (lw : Int) := hD 55 (by decide)
          clear hD
          try dsimp only at hK ⊢
          simp only [Act.put, List.setIfInBounds_toArray, List.set_cons_succ, List.set_cons_zero] at hK
          generalize vs 47 = vq47 at hK dq47 ⊢
          subst vq47
          generalize vs 53 = vq53 at hK dq53 ⊢
          subst vq53
          generalize vs 55 = vq55 at hK dq55 ⊢
          subst vq55
          have m0 : (kk : Int) - (lw : Int) = 0 := by omega
          go_wp2
          exact hK _ _ rfl (Mod.refl _ _)
        refine opsOkA_cons ?_ ?_
        · intro K vs W hR hD hK
          have dq47 : vs 47 = .bool true := hD 47 (by decide)
          have dq56 : vs 56 = .int .i64 0 := hD 56 (by decide)
          clear hD
          try dsimp only at hK ⊢
          simp only [Act.put, List.setIfInBounds_toArray, List.set_cons_succ, List.set_cons_zero] at hK
          generalize vs 47 = vq47 at hK dq47 ⊢
          subst vq47
          generalize vs 56 = vq56 at hK dq56 ⊢
          subst vq56
          go_wp2_with fail
          exact hK _ _ rfl (Mod.refl _ _)
        refine opsOkA_cons ?_ ?_
        · intro K vs W hR hD hK
          have dq47 : vs 47 = .bool true := hD 47 (by decide)
          clear hD
          try dsimp only at hK ⊢
          simp only [Act.put, List.setIfInBounds_toArray, List.set_cons_succ, List.set_cons_zero] at hK
          generalize vs 47 = vq47 at hK dq47 ⊢
          subst vq47
          go_wp2
          exact hK _ _ rfl (Mod.refl _ _)
        refine opsOkA_cons ?_ ?_
        · intro K vs W hR hD hK
          have dq47 : vs 47 = .bool true := hD 47 (by decide)
          have dq58 : vs 58 = .slice aw lw cw := hD 58 (by decide)
          clear hD
          try dsimp only at hK ⊢
          simp only [Act.put, List.setIfInBounds_toArray, List.set_cons_succ, List.set_cons_zero] at hK
          generalize vs 47 = vq47 at hK dq47 ⊢
          subst vq47
          generalize vs 58 = vq58 at hK dq58 ⊢
          subst vq58
          go_wp2_with fail
          exact hK _ _ rfl (Mod.refl _ _)
        refine opsOkA_cons ?_ ?_
        · intro K vs W hR hD hK
          have dq47 : vs 47 = .bool true := hD 47 (by decide)
          clear hD
          try dsimp only at hK ⊢
          simp only [Act.put, List.setIfInBounds_toArray, List.set_cons_succ, List.set_cons_zero] at hK
          generalize vs 47 = vq47 at hK dq47 ⊢
          subst vq47
          go_wp2
          exact hK _ _ rfl (Mod.refl _ _)
        refine opsOkA_cons ?_ ?_
        · intro K vs W hR hD hK
          have dq47 : vs 47 = .bool true := hD 47 (by decide)
          have dq59 : vs 59 = .int .i64 (lw : Int) := hD 59 (by decide)
          have dq60 : vs 60 = .int .i64 (kk : Int) := hD 60 (by decide)
          clear hD
          try dsimp only at hK ⊢
          simp only [Act.put, List.setIfInBounds_toArray, List.set_cons_succ, List.set_cons_zero] at hK
          generalize vs 47 = vq47 at hK dq47 ⊢
          subst vq47
          generalize vs 59 = vq59 at hK dq59 ⊢
          subst vq59
          generalize vs 60 = vq60 at hK dq60 ⊢
          subst vq60
          have m0 : (lw : Int) - (kk : Int) = 0 := by omega
          go_wp2
          exact hK _ _ rfl (Mod.refl _ _)
        refine opsOkA_cons ?_ ?_
        · intro K vs W hR hD hK
          have dq47 : vs 47 = .bool true := hD 47 (by decide)
          have dq61 : vs 61 = .int .i64 0 := hD 61 (by decide)
          clear hD
          try dsimp only at hK ⊢
          simp only [Act.put, List.setIfInBounds_toArray, List.set_cons_succ, List.set_cons_zero] at hK
          generalize vs 47 = vq47 at hK dq47 ⊢
          subst vq47
          generalize vs 61 = vq61 at hK dq61 ⊢
          subst vq61
          go_wp2_with fail
          exact hK _ _ rfl (Mod.refl _ _)
        refine opsOkA_cons ?_ ?_
        · intro K vs W hR hD hK
          have dq47 : vs 47 = .bool true := hD 47 (by decide)
          have dq57 : vs 57 = .int .i64 0 := hD 57 (by decide)
          have dq62 : vs 62 = .int .i64 1 := hD 62 (by decide)
          clear hD
          try dsimp only at hK ⊢
          simp only [Act.put, List.setIfInBounds_toArray, List.set_cons_succ, List.set_cons_zero] at hK
          generalize vs 47 = vq47 at hK dq47 ⊢
          subst vq47
          generalize vs 57 = vq57 at hK dq57 ⊢
          subst vq57
          generalize vs 62 = vq62 at hK dq62 ⊢
          subst vq62
          go_wp2
          exact hK _ _ rfl (Mod.refl _ _)
        refine opsOkA_cons ?_ ?_
        · intro K vs W hR hD hK
          have dq47 : vs 47 = .bool true := hD 47 (by decide)
          have dq52 : vs 52 = .int .i64 0 := hD 52 (by decide)
          have dq63 : vs 63 = .int .i64 0 := hD 63 (by decide)
          clear hD
          try dsimp only at hK ⊢
          simp only [Act.put, List.setIfInBounds_toArray, List.set_cons_succ, List.set_cons_zero] at hK
          generalize vs 47 = vq47 at hK dq47 ⊢
          subst vq47
          generalize vs 52 = vq52 at hK dq52 ⊢
          subst vq52
          generalize vs 63 = vq63 at hK dq63 ⊢
          subst vq63
          go_wp2
          exact hK _ _ rfl (Mod.refl _ _)
        refine opsOkA_cons ?_ ?_
        · intro K vs W hR hD hK
          have dq47 : vs 47 = .bool true := hD 47 (by decide)
          have dq64 : vs 64 = .bool true := hD 64 (by decide)
          clear hD
          try dsimp only at hK ⊢
          simp only [Act.put, List.setIfInBounds_toArray, List.set_cons_succ, List.set_cons_zero] at hK
          generalize vs 47 = vq47 at hK dq47 ⊢
          subst vq47
          generalize vs 64 = vq64 at hK dq64 ⊢
          subst vq64
          go_wp2
          exact hK _ _ rfl (Mod.refl _ _)
        refine opsOkA_cons ?_ ?_
        · intro K vs W hR hD hK
          have dq65 : vs 65 = .bool true := hD 65 (by decide)
          clear hD
          try dsimp only at hK ⊢
          simp only [Act.put, List.setIfInBounds_toArray, List.set_cons_succ, List.set_cons_zero] at hK
          generalize vs 65 = vq65 at hK dq65 ⊢
          subst vq65
          go_wp2
          exact hK _ _ rfl (Mod.refl _ _)
        refine opsOkA_cons ?_ ?_
        · intro K vs W hR hD hK
          have dq66 : vs 66 = .bool true := hD 66 (by decide)
          clear hD
          try dsimp only at hK ⊢
          simp only [Act.put, List.setIfInBounds_toArray, List.set_cons_succ, List.set_cons_zero] at hK
          generalize vs 66 = vq66 at hK dq66 ⊢
          subst vq66
          go_wp2_with (go_at_call 36; refine (awake8_any W).mono ?_; rintro e' w' ⟨rfl, hm'⟩)
          exact hK _ _ rfl hm'
        refine opsOkA_cons ?_ ?_
        · intro K vs W hR hD hK
          have dq66 : vs 66 = .bool true := hD 66 (by decide)
          have dq67 : vs 67 = .bool true := hD 67 (by decide)
          clear hD
          try dsimp only at hK ⊢
          simp only [Act.put, List.setIfInBounds_toArray, List.set_cons_succ, List.set_cons_zero] at hK
          generalize vs 66 = vq66 at hK dq66 ⊢
          subst vq66
          generalize vs 67 = vq67 at hK dq67 ⊢
          subst vq67
          go_wp2
          exact hK _ _ rfl (Mod.refl _ _)
        refine opsOkA_cons ?_ ?_
        · intro K vs W hR hD hK
          have dq68 : vs 68 = .bool true := hD 68 (by decide)
          clear hD
          try dsimp only at hK ⊢
          simp only [Act.put, List.setIfInBounds_toArray, List.set_cons_succ, List.set_cons_zero] at hK
          generalize vs 68 = vq68 at hK dq68 ⊢
          subst vq68
          go_wp2
          exact hK _ _ rfl (Mod.refl _ _)
        exact opsOkA_nil
      · intro vs wq19 hR hF
        have dq69 : vs 69 = .bool true := hF 69 (by decide)
        clear hF
        try dsimp only
        generalize vs 69 = vq69 at dq69 ⊢
        subst dq69
        replace HS := Lib.hid (HSd.out.step hR)
        clear HSd hR
        have hbbg := (HS.out.now).2.2.2.1
        have qbg_0 := hbbg.cell 0 rfl
        have qbg_1 := hbbg.cell 1 rfl
        have qbg_2 := hbbg.cell 2 rfl
        have lbg := hbbg.lt
        clear hbbg
        go_wp2_with fail
        go_ret
        exact ⟨rfl, (HS.out.now).2.2.2.2.2.2.2.2⟩
theorem wjoins_law (w : World) (a0 : Option Addr) (m c0 : Nat) (l : List Int) (ok : (encSlice (encInt .i64)).ok w (.slice a0 m c0, l)) (fr : Int) (_ : (Lit.int .i64 fr).wf = true) (a4 : Option Addr) (n4 d4 : Nat) (st : List Int) (ok4 : (encSlice (encInt .i64)).ok w (.slice a4 n4 d4, st)) (cut : Int) (_ : (Lit.int .i64 cut).wf = true) :
    Calls Try.prog 8 #[.slice a0 m c0, .int .i64 fr, .slice a4 n4 d4, .int .i64 cut] w fun e w' => e = .returned (.bool true) ∧ Below w.heap.size w w' := by
  obtain ⟨h1, r1, _⟩ := ok_ints ok
  obtain ⟨h4, r4, _⟩ := ok_ints ok4
  exact (wjoins_all w a0 m c0 l h1 r1 fr a4 n4 d4 st h4 r4 cut).mono fun e w' h => ⟨h.1, h.2.below (Nat.le_refl _) (fun _ e => e.elim)⟩
end Go.Proofs.Ytmpcpmgpnccphaa
