/- WalkBreaks walked. -/
import Derived.Test.YtmpcpmgpnccphaaAwake8
import Derived.Test.YtmpcpmgpnccphaaWalk
import Derived.Test.YtmpcpmgpnccphaaStroll
import Derived.Test.YtmpcpmgpnccphaaRdT
import Derived.Test.YtmpcpmgpnccphaaRound
import Derived.Test.YtmpcpmgpnccphaaOpens
import Derived.Test.YtmpcpmgpnccphaaShp
import Derived.Deep.DeepCutAuto
import Derived.Deep.CutBlock
namespace Go.Proofs.Ytmpcpmgpnccphaa
open Go.RowKit Mile
set_option maxRecDepth 100000
/-- A walk with one edge put in its k-th place. -/
theorem wlk_set (G : GD) (f : Int) (xs : List Int) (h : wlk G f xs = true) (k : Nat) (hk : k < xs.length) (odd : Int) :
    wlk G f (xs.set k odd) = (turnB G (lastD f (xs.take k)) odd && (if h : k + 1 < xs.length then turnB G odd xs[k + 1] else true)) := by
  have e : xs = xs.take k ++ xs[k] :: xs.drop (k + 1) := by rw [← List.drop_eq_getElem_cons hk, List.take_append_drop]
  have hs : xs.set k odd = xs.take k ++ odd :: xs.drop (k + 1) := by
    rw [List.set_eq_take_append_cons_drop, if_pos hk]
  rw [e, wlk_append] at h
  have h1 := Bool.and_eq_true_iff.1 h
  rw [hs, wlk_append, h1.1, Bool.true_and]
  simp only [wlk]
  congr 1
  have h2 : wlk G xs[k] (xs.drop (k + 1)) = true := by
    have := h1.2
    simp only [wlk, Bool.and_eq_true] at this
    exact this.2
  by_cases hl : k + 1 < xs.length
  · rw [dif_pos hl, List.drop_eq_getElem_cons hl]
    rw [List.drop_eq_getElem_cons hl] at h2
    simp only [wlk, Bool.and_eq_true] at h2 ⊢
    rw [h2.2, Bool.and_true]
  · rw [dif_neg hl, List.drop_of_length_le (by omega)]; rfl
/-- What each operation of the statement leaves. -/
def wb_r16_0_F (odd : Int) (a1 : Option Addr) (a2 : Option Addr) (a3 : Option Addr) (n1 : Nat) (d1 : Nat) (n2 : Nat) (d2 : Nat) (n3 : Nat) (d3 : Nat) (md : Int) : List (Value → World → Prop) :=
  [IsV (.agg #[.slice a1 n1 d1, .slice a2 n2 d2, .slice a3 n3 d3]),
   IsV (.int .i64 md),
   IsV (.int .i64 odd),
   IsV (.bool false),
   IsV (.bool false),
   IsV (undef),
   IsV (undef),
   IsV (undef),
   IsV (undef),
   IsV (undef),
   IsV (undef),
   IsV (undef),
   IsV (undef),
   IsV (undef),
   IsV (undef),
   IsV (undef),
   IsV (undef),
   IsV (undef),
   IsV (undef),
   IsV (undef),
   IsV (.bool false),
   IsV (.bool false)]
def wb_r16_0_D : List (List Nat) := [[], [], [], [0, 1, 2], [3], [4], [4], [4], [4], [4], [4], [10], [10], [10], [10], [10], [10], [10], [10], [4], [4, 19], [20]]

/-- What each operation of the statement leaves. -/
def wb_r16_1_F (odd : Int) (a1 : Option Addr) (a2 : Option Addr) (a3 : Option Addr) (n1 : Nat) (d1 : Nat) (n2 : Nat) (d2 : Nat) (n3 : Nat) (d3 : Nat) (lw : Nat) (cw : Nat) (aw : Option Addr) (kk : Nat) (md : Int) (b2 : Bool) (k2 : Nat) (yx : Int) (gb : Nat) (go : Nat) : List (Value → World → Prop) :=
  [IsV (.agg #[.slice a1 n1 d1, .slice a2 n2 d2, .slice a3 n3 d3]),
   IsV (.int .i64 md),
   IsV (.int .i64 odd),
   IsV (.bool true),
   IsV (.bool true),
   IsV (.int .i64 (kk : Int)),
   IsV (.slice aw lw cw),
   IsV (.int .i64 (lw : Int)),
   IsV (.int .i64 ((lw : Int) - 1)),
   IsV (.bool false),
   IsV (.bool false),
   IsV (.agg #[.slice a1 n1 d1, .slice a2 n2 d2, .slice a3 n3 d3]),
   IsV (.int .i64 odd),
   IsV (.slice aw lw cw),
   IsV (.int .i64 (kk : Int)),
   IsV (.int .i64 (k2 : Int)),
   IsV (.pointer (some ⟨gb, go, none⟩)),
   IsV (.int .i64 yx),
   IsV (.bool b2),
   IsV (.bool b2),
   IsV (.bool b2),
   IsV (.bool b2)]
def wb_r16_1_D : List (List Nat) := [[], [], [], [0, 1, 2], [3], [4], [4], [4, 6], [4, 7], [4, 5, 8], [4, 9], [10], [10], [10], [10], [10, 14], [10, 13, 15], [10, 16], [10, 11, 12, 17], [4, 10, 18], [4, 19], [20]]

/-- What each operation of the statement leaves. -/
def wb_r16_2_F (odd : Int) (a1 : Option Addr) (a2 : Option Addr) (a3 : Option Addr) (n1 : Nat) (d1 : Nat) (n2 : Nat) (d2 : Nat) (n3 : Nat) (d3 : Nat) (md : Int) : List (Value → World → Prop) :=
  [IsV (.agg #[.slice a1 n1 d1, .slice a2 n2 d2, .slice a3 n3 d3]),
   IsV (.int .i64 md),
   IsV (.int .i64 odd),
   IsV (.bool false),
   IsV (.bool false),
   IsV (undef),
   IsV (undef),
   IsV (undef),
   IsV (undef),
   IsV (undef),
   IsV (undef),
   IsV (undef),
   IsV (undef),
   IsV (undef),
   IsV (undef),
   IsV (undef),
   IsV (undef),
   IsV (undef),
   IsV (undef),
   IsV (undef),
   IsV (.bool false),
   IsV (.bool false)]
def wb_r16_2_D : List (List Nat) := [[], [], [], [0, 1, 2], [3], [4], [4], [4], [4], [4], [4], [10], [10], [10], [10], [10], [10], [10], [10], [4], [4, 19], [20]]

/-- What each operation of the statement leaves. -/
def wb_r16_3_F (odd : Int) (a1 : Option Addr) (a2 : Option Addr) (a3 : Option Addr) (n1 : Nat) (d1 : Nat) (n2 : Nat) (d2 : Nat) (n3 : Nat) (d3 : Nat) (lw : Nat) (cw : Nat) (aw : Option Addr) (kk : Nat) (md : Int) : List (Value → World → Prop) :=
  [IsV (.agg #[.slice a1 n1 d1, .slice a2 n2 d2, .slice a3 n3 d3]),
   IsV (.int .i64 md),
   IsV (.int .i64 odd),
   IsV (.bool true),
   IsV (.bool true),
   IsV (.int .i64 (kk : Int)),
   IsV (.slice aw lw cw),
   IsV (.int .i64 (lw : Int)),
   IsV (.int .i64 ((lw : Int) - 1)),
   IsV (.bool true),
   IsV (.bool true),
   IsV (undef),
   IsV (undef),
   IsV (undef),
   IsV (undef),
   IsV (undef),
   IsV (undef),
   IsV (undef),
   IsV (undef),
   IsV (.bool true),
   IsV (.bool true),
   IsV (.bool true)]
def wb_r16_3_D : List (List Nat) := [[], [], [], [0, 1, 2], [3], [4], [4], [4, 6], [4, 7], [4, 5, 8], [4, 9], [10], [10], [10], [10], [10], [10], [10], [10], [4, 10, 18], [4, 19], [20]]

/-- What each operation of the statement leaves. -/
def wb_r16_4_F (odd : Int) (a1 : Option Addr) (a2 : Option Addr) (a3 : Option Addr) (n1 : Nat) (d1 : Nat) (n2 : Nat) (d2 : Nat) (n3 : Nat) (d3 : Nat) (er : Nat) : List (Value → World → Prop) :=
  [IsV (.agg #[.slice a1 n1 d1, .slice a2 n2 d2, .slice a3 n3 d3]),
   IsV (.int .i64 (er : Int)),
   IsV (.int .i64 odd),
   IsV (.bool false),
   IsV (.bool false),
   IsV (undef),
   IsV (undef),
   IsV (undef),
   IsV (undef),
   IsV (undef),
   IsV (undef),
   IsV (undef),
   IsV (undef),
   IsV (undef),
   IsV (undef),
   IsV (undef),
   IsV (undef),
   IsV (undef),
   IsV (undef),
   IsV (undef),
   IsV (.bool false),
   IsV (.bool false)]
def wb_r16_4_D : List (List Nat) := [[], [], [], [0, 1, 2], [3], [4], [4], [4], [4], [4], [4], [10], [10], [10], [10], [10], [10], [10], [10], [4], [4, 19], [20]]

/-- What each operation of the statement leaves. -/
def wb_r16_5_F (odd : Int) (a1 : Option Addr) (a2 : Option Addr) (a3 : Option Addr) (n1 : Nat) (d1 : Nat) (n2 : Nat) (d2 : Nat) (n3 : Nat) (d3 : Nat) (er : Nat) (lw : Nat) (cw : Nat) (aw : Option Addr) (kk : Nat) (b2 : Bool) (k2 : Nat) (yx : Int) (gb : Nat) (go : Nat) : List (Value → World → Prop) :=
  [IsV (.agg #[.slice a1 n1 d1, .slice a2 n2 d2, .slice a3 n3 d3]),
   IsV (.int .i64 (er : Int)),
   IsV (.int .i64 odd),
   IsV (.bool true),
   IsV (.bool true),
   IsV (.int .i64 (kk : Int)),
   IsV (.slice aw lw cw),
   IsV (.int .i64 (lw : Int)),
   IsV (.int .i64 ((lw : Int) - 1)),
   IsV (.bool false),
   IsV (.bool false),
   IsV (.agg #[.slice a1 n1 d1, .slice a2 n2 d2, .slice a3 n3 d3]),
   IsV (.int .i64 odd),
   IsV (.slice aw lw cw),
   IsV (.int .i64 (kk : Int)),
   IsV (.int .i64 (k2 : Int)),
   IsV (.pointer (some ⟨gb, go, none⟩)),
   IsV (.int .i64 yx),
   IsV (.bool b2),
   IsV (.bool b2),
   IsV (.bool b2),
   IsV (.bool b2)]
def wb_r16_5_D : List (List Nat) := [[], [], [], [0, 1, 2], [3], [4], [4], [4, 6], [4, 7], [4, 5, 8], [4, 9], [10], [10], [10], [10], [10, 14], [10, 13, 15], [10, 16], [10, 11, 12, 17], [4, 10, 18], [4, 19], [20]]

/-- What each operation of the statement leaves. -/
def wb_r16_6_F (odd : Int) (a1 : Option Addr) (a2 : Option Addr) (a3 : Option Addr) (n1 : Nat) (d1 : Nat) (n2 : Nat) (d2 : Nat) (n3 : Nat) (d3 : Nat) (er : Nat) : List (Value → World → Prop) :=
  [IsV (.agg #[.slice a1 n1 d1, .slice a2 n2 d2, .slice a3 n3 d3]),
   IsV (.int .i64 (er : Int)),
   IsV (.int .i64 odd),
   IsV (.bool false),
   IsV (.bool false),
   IsV (undef),
   IsV (undef),
   IsV (undef),
   IsV (undef),
   IsV (undef),
   IsV (undef),
   IsV (undef),
   IsV (undef),
   IsV (undef),
   IsV (undef),
   IsV (undef),
   IsV (undef),
   IsV (undef),
   IsV (undef),
   IsV (undef),
   IsV (.bool false),
   IsV (.bool false)]
def wb_r16_6_D : List (List Nat) := [[], [], [], [0, 1, 2], [3], [4], [4], [4], [4], [4], [4], [10], [10], [10], [10], [10], [10], [10], [10], [4], [4, 19], [20]]

/-- What each operation of the statement leaves. -/
def wb_r16_7_F (odd : Int) (a1 : Option Addr) (a2 : Option Addr) (a3 : Option Addr) (n1 : Nat) (d1 : Nat) (n2 : Nat) (d2 : Nat) (n3 : Nat) (d3 : Nat) (er : Nat) (lw : Nat) (cw : Nat) (aw : Option Addr) (kk : Nat) : List (Value → World → Prop) :=
  [IsV (.agg #[.slice a1 n1 d1, .slice a2 n2 d2, .slice a3 n3 d3]),
   IsV (.int .i64 (er : Int)),
   IsV (.int .i64 odd),
   IsV (.bool true),
   IsV (.bool true),
   IsV (.int .i64 (kk : Int)),
   IsV (.slice aw lw cw),
   IsV (.int .i64 (lw : Int)),
   IsV (.int .i64 ((lw : Int) - 1)),
   IsV (.bool true),
   IsV (.bool true),
   IsV (undef),
   IsV (undef),
   IsV (undef),
   IsV (undef),
   IsV (undef),
   IsV (undef),
   IsV (undef),
   IsV (undef),
   IsV (.bool true),
   IsV (.bool true),
   IsV (.bool true)]
def wb_r16_7_D : List (List Nat) := [[], [], [], [0, 1, 2], [3], [4], [4], [4, 6], [4, 7], [4, 5, 8], [4, 9], [10], [10], [10], [10], [10], [10], [10], [10], [4, 10, 18], [4, 19], [20]]

set_option maxHeartbeats 64000000 in
theorem wbreaks_all (w : World) (a0 : Option Addr) (m c0 : Nat) (l : List Int) (hm : l.length = m) (hr : Rd w 1 (.slice a0 m c0) m (l.map (Value.int .i64))) (from_ : Int) (a4 : Option Addr) (n4 d4 : Nat) (st : List Int) (hn4 : st.length = n4) (hr4 : Rd w 1 (.slice a4 n4 d4) n4 (st.map (Value.int .i64))) (at_ odd : Int) :
    Calls Try.prog 10 #[.slice a0 m c0, .int .i64 from_, .slice a4 n4 d4, .int .i64 at_, .int .i64 odd] w fun e w' => e = .returned (.bool true) ∧ Mod (fun _ => False) w w' := by
  obtain ⟨iI, hiI, hzI, hsI, hbI⟩ := info_parts GR.infoI
  have HN4 := Lib.hid hn4
  clear hn4
  by_cases hlen0 : m ≤ 100
  case neg =>
    have HS : Hid (Ev (Mod (fun _ => False) w) w) := Lib.hid (Ev.mod w)
    have z0 : decide (100 < (m : Int)) = true := by simp; omega
    have z1 : decide (100 < m) = true := by simp; omega
    go_enter Try.func10, Try.ntmps10
    go_wp2_with fail
    refine (awake8_any _).mono ?_
    rintro e wq1 ⟨rfl, hm⟩
    replace HS := Lib.hid (HS.out.step hm)
    clear hm
    go_wp2_with fail
    go_ret
    exact ⟨rfl, HS.out.now⟩
  by_cases hlen1 : n4 ≤ 40
  case neg =>
    have HS : Hid (Ev (Mod (fun _ => False) w) w) := Lib.hid (Ev.mod w)
    have y0 : decide (100 < (m : Int)) = false := by simp; omega
    have z0 : decide (40 < (n4 : Int)) = true := by simp; omega
    have z1 : decide (40 < n4) = true := by simp; omega
    go_enter Try.func10, Try.ntmps10
    go_wp2_with fail
    refine (awake8_any _).mono ?_
    rintro e wq2 ⟨rfl, hm⟩
    replace HS := Lib.hid (HS.out.step hm)
    clear hm
    go_wp2_with fail
    go_ret
    exact ⟨rfl, HS.out.now⟩
  have HS : Hid (Ev (Mod (fun _ => False) w) w) := Lib.hid (Ev.mod w)
  have y0 : decide (100 < (m : Int)) = false := by simp; omega
  have y1 : decide (40 < (n4 : Int)) = false := by simp; omega
  replace HS := Lib.hid ((Ev.rd hr).and HS.out)
  replace HS := Lib.hid ((Ev.rd hr4).and HS.out)
  clear hr hr4
  go_enter Try.func10, Try.ntmps10
  go_wp2_with fail
  refine (made8_any _ a0 m c0 l hm ((HS.out.now).2.1)).mono ?_
  rintro e wq3 ⟨a1, n1, d1, a2, n2, d2, a3, n3, d3, t, p, B, C, rfl, hg, hto, hmm⟩
  replace HS := Lib.hid (HS.out.step hmm)
  clear hmm
  replace HS := Lib.hid ((Ev.gv hg).and HS.out)
  replace HS := Lib.hid ((Ev.to hto).and HS.out)
  clear hg hto y0 y1
  have hmay := Lib.hid (town_may l)
  have hfew := Lib.hid (town_few l)
  obtain ⟨G, hG⟩ : ∃ G, townG l = G := ⟨_, rfl⟩
  rw [hG] at hmay hfew
  rw [hG] at HS
  clear hG
  have hn := Lib.hid ((HS.out.now).2.1.n)
  have he := Lib.hid ((HS.out.now).2.1.e)
  have hb := Lib.hid ((HS.out.now).2.1.b)
  have h1n : n1 ≤ 16 := by have := hfew.out.1.2; have := hn.out; omega
  have h2n : n2 ≤ 67 := by have := hfew.out.2.1.2; have := he.out; omega
  have h2p : 1 ≤ n2 := by have := hfew.out.2.1.1; have := he.out; omega
  have h3n : n3 ≤ 469 := by have := hfew.out.2.2; have := hb.out; omega
  go_wp2_with fail
  obtain ⟨bg, hbg⟩ : ∃ b, wq3.heap.size = b := ⟨_, rfl⟩
  obtain ⟨wq4, hwq4⟩ : ∃ W, World.alloc wq3 (.cells #[.slice a1 n1 d1, .slice a2 n2 d2, .slice a3 n3 d3] 28) = W := ⟨_, rfl⟩
  have hBbg : Blk wq4 bg 28 [.slice a1 n1 d1, .slice a2 n2 d2, .slice a3 n3 d3] := by rw [← hwq4, ← hbg]; exact Blk.new _ 28 [.slice a1 n1 d1, .slice a2 n2 d2, .slice a3 n3 d3]
  have hzbg : wq4.heap.size = bg + 1 := by rw [← hwq4, ← hbg]; exact heap_size_alloc _ _
  replace HS := Lib.hid (HS.out.step (w' := wq4) (by rw [← hwq4]; exact Mod.alloc _ _ _))
  replace HS := Lib.hid ((Ev.blk hBbg).and HS.out)
  try rw [hwq4]
  try rw [hbg]
  clear hzbg hBbg hbg hwq4
  have hbbg := (HS.out.now).1
  have qbg_0 := hbbg.cell 0 rfl
  have qbg_1 := hbbg.cell 1 rfl
  have qbg_2 := hbbg.cell 2 rfl
  have lbg := hbbg.lt
  clear hbbg
  go_wp2_with fail
  refine (round_any from_ (n2 : Int) _ (by omega) (by omega)).mono ?_
  rintro e w' ⟨rfl, rfl⟩
  have hr0 := Int.emod_nonneg (from_) (b := (n2 : Int)) (by omega)
  have hr1 := Int.emod_lt_of_pos (from_) (b := (n2 : Int)) (by omega)
  obtain ⟨er, hr2⟩ := Int.eq_ofNat_of_zero_le hr0
  rw [hr2] at hr1 ⊢
  have HE0 := Lib.hid hr2
  have HE0b := hr1
  clear hr0 hr1 hr2
  go_wp2_with fail
  refine (stroll_any G _ a1 n1 d1 a2 n2 d2 a3 n3 d3 ((HS.out.now).2.2.1) (by omega) (by omega) (er : Int) a4 n4 d4 st HN4.out ((HS.out.now).2.2.2.1) (by omega)).mono ?_
  rintro e wq5 ⟨v', rfl, ⟨aw, cw, rfl, hx'⟩, hmm⟩
  replace HS := Lib.hid (HS.out.step hmm)
  clear hmm
  replace HS := Lib.hid ((Ev.rd hx').and HS.out)
  clear hx'
  clear qbg_0 qbg_1 qbg_2 lbg
  have hbbg := (HS.out.now).2.1
  have qbg_0 := hbbg.cell 0 rfl
  have qbg_1 := hbbg.cell 1 rfl
  have qbg_2 := hbbg.cell 2 rfl
  have lbg := hbbg.lt
  clear hbbg
  obtain ⟨ws, hws⟩ : ∃ l, strollL G (er : Int) st = l := ⟨_, rfl⟩
  have hwk := stroll_wlk G (er : Int) st
  have hwl := stroll_len G (er : Int) st
  rw [hws] at HS hwk hwl ⊢
  have HWS := Lib.hid hws
  have HWK := Lib.hid hwk
  clear hws hwk
  obtain ⟨lw, hlw⟩ : ∃ n, ws.length = n := ⟨_, rfl⟩
  rw [hlw] at HS hwl ⊢
  have HLW := Lib.hid hlw
  have hl4 : lw ≤ 40 := by have := HN4.out; omega
  clear hlw hwl
  have hcw : lw ≤ cw := rd_cap ((HS.out.now).1)
  have hed : edB G (er : Int) = true := decide_eq_true ⟨by omega, by have := he.out; omega⟩
  have HED := Lib.hid hed
  clear hed
  by_cases h0 : lw = 0
  case pos =>
    subst h0
    have V0 : Hid (validB G (er : Int) [] = true) := Lib.hid (by unfold validB; rw [HED.out]; rfl)
    go_wp2_with fail
    refine (wvalid_any t p B C G _ ((HS.out.now).2.2.1) (er : Int) _ 0 0 [] rfl (Rd.nil _ _) (by omega)).mono ?_
    rintro e wq6 ⟨rfl, hmm⟩
    replace HS := Lib.hid (HS.out.step hmm)
    clear hmm
    clear qbg_0 qbg_1 qbg_2 lbg
    have hbbg := (HS.out.now).2.1
    have qbg_0 := hbbg.cell 0 rfl
    have qbg_1 := hbbg.cell 1 rfl
    have qbg_2 := hbbg.cell 2 rfl
    have lbg := hbbg.lt
    clear hbbg
    rw [V0.out]
    go_wp2_with fail
    refine (awake8_any _).mono ?_
    rintro e wq7 ⟨rfl, hmm⟩
    replace HS := Lib.hid (HS.out.step hmm)
    clear hmm
    clear qbg_0 qbg_1 qbg_2 lbg
    have hbbg := (HS.out.now).2.1
    have qbg_0 := hbbg.cell 0 rfl
    have qbg_1 := hbbg.cell 1 rfl
    have qbg_2 := hbbg.cell 2 rfl
    have lbg := hbbg.lt
    clear hbbg
    go_wp2_with fail
    go_ret
    exact ⟨rfl, (HS.out.now).2.2.2.2.2.2⟩
  case neg =>
    have z0 : ((lw : Int) == 0) = false := beq_eq_false_iff_ne.2 (by omega)
    go_wp2_with fail
    refine (round_any at_ (lw : Int) _ (by omega) (by omega)).mono ?_
    rintro e w' ⟨rfl, rfl⟩
    have hr0 := Int.emod_nonneg at_ (b := (lw : Int)) (by omega)
    have hr1 := Int.emod_lt_of_pos at_ (b := (lw : Int)) (by omega)
    obtain ⟨kk, hr2⟩ := Int.eq_ofNat_of_zero_le hr0
    rw [hr2] at hr1 ⊢
    have hkk : kk < lw := by omega
    clear hr0 hr1 hr2 z0
    have hkl : kk < ws.length := by rw [HLW.out]; exact hkk
    go_upto_region 12 with (at_builtin; refine wpList_append_any rfl (.tmp 65) (.tmp 66) 22 rfl 3 iI (.int .i64 0) 1 8 Try.underlying22 hiI hzI hsI hbI rfl (by decide) _ 0 [] rfl (own_empty _ _ _ _ rfl) _ lw (ws.map (Value.int .i64)) rfl (Rd.alloc ((HS.out.now).1) _) (by intro u hu; simp at hu; obtain ⟨_, _, rfl⟩ := hu; rfl) (by unfold maxLen; omega) (by omega) ?_; intro v4 w4 hap; have ho4 := hap.own; have lo4 := hap.low (B := wq5.heap.size) (by simp) (low_lit (Nat.le_refl _)); have hm4 := hap.modOld (Mod.alloc (fun _ => False) wq5 _) (low_lit (Nat.le_refl _)); simp only [Nat.zero_add, List.nil_append] at ho4 lo4; obtain ⟨rb, rc, rfl, lrb, lrb2⟩ := own_block (Own.rebase ho4 lo4) (by omega); clear hap)
    have hro := Room.ofOwn ho4 kk (by omega)
    obtain ⟨v0, r0⟩ := hro.cell
    have f0 := hro.free
    have HO4 := Lib.hid ho4
    have HM4 := Lib.hid hm4
    clear ho4 lo4 hm4 hro
    clear qbg_0 qbg_1 qbg_2 lbg
    go_upto_region 13 with fail
    obtain ⟨wx, hwx⟩ : ∃ W, World.setCell w4 ⟨rb, kk, none⟩ (.int .i64 odd) = W := ⟨_, rfl⟩
    rw [hwx]
    have k1 : Mod (fun _ => False) wq5 wx := by rw [← hwx]; exact HM4.out.old (Mod.setCell (F := fun k => k = rb) _ ⟨rb, kk, none⟩ _ rfl) (fun i hi => by subst hi; exact lrb)
    have k2 : Rd wx 1 (.slice (some ⟨rb, 0, none⟩) lw rc) lw ((ws.set kk odd).map (Value.int .i64)) := by rw [← hwx, List.map_set]; exact Rd.ofOwn (HO4.out.stored kk (.int .i64 odd)).1
    replace HS := Lib.hid (HS.out.step k1)
    replace HS := Lib.hid ((Ev.rd k2).and HS.out)
    clear k1 k2 hwx r0 f0 HO4 HM4
    have hbbg := (HS.out.now).2.2.1
    have qbg_0 := hbbg.cell 0 rfl
    have qbg_1 := hbbg.cell 1 rfl
    have qbg_2 := hbbg.cell 2 rfl
    have lbg := hbbg.lt
    clear hbbg
    have LX : Hid ((ws.set kk odd).length = lw) := Lib.hid (by rw [List.length_set, HLW.out])
    obtain ⟨md, HMD0⟩ : ∃ qz, lastD (er : Int) (ws.take kk) = qz := ⟨_, rfl⟩
    have HMD := Lib.hid HMD0
    clear HMD0
    have hws := wlk_set G (er : Int) ws HWK.out kk hkl odd
    rw [HMD.out] at hws
    obtain ⟨b1, HB10⟩ : ∃ qz, turnB G md odd = qz := ⟨_, rfl⟩
    have HB1 := Lib.hid HB10
    clear HB10
    rw [HB1.out] at hws
    obtain ⟨b2, hb2⟩ : ∃ b, (if h : kk + 1 < ws.length then turnB G odd ws[kk + 1] else true) = b := ⟨_, rfl⟩
    rw [hb2] at hws
    have HB2 := Lib.hid hb2
    clear hb2
    have VX : Hid (validB G (er : Int) (ws.set kk odd) = (b1 && b2)) := Lib.hid (by unfold validB; rw [HED.out, hws]; rfl)
    clear hws
    have A3 : Hid (allE G ws = true) := Lib.hid (wlk_all G _ _ HWK.out)
    by_cases h1 : 0 < kk
    case pos =>
      obtain ⟨k1, hk1⟩ : ∃ k1, kk = k1 + 1 := ⟨kk - 1, by omega⟩
      have hkl1 : k1 < ws.length := by rw [HLW.out]; omega
      have hkw1 : k1 < lw := by omega
      have hwx : ws[k1] = md := by have h := lastD_take (er : Int) ws k1 hkl1; rw [← hk1, HMD.out] at h; exact h.symm
      have HWX := Lib.hid hwx
      clear hwx
      obtain ⟨eb, eo, hpl, e0⟩ := rd1 (HS.out.now).2.1 k1 hkl1
      have hix := fun wx => run_indexS (P := Try.prog) wx 22 3 iI 1 Try.underlying22 hiI hsI aw lw cw k1 hkw1 ((HS.out.now).2.1.some_ (by have := hkw1; omega))
      rw [hpl] at hix
      have HIe := Lib.hid hix
      clear hix hpl
      rw [HWX.out] at e0
      replace HS := Lib.hid ((Ev.cell e0).and HS.out)
      clear e0
      have qe := (HS.out.now).1
      have hix := HIe.out
      have z0 : decide ((0 : Int) < (kk : Int)) = true := by simp; omega
      have z1 : (kk : Int) - 1 = (k1 : Int) := by omega
      have HK1 := Lib.hid hk1
      clear hk1
      go_upto_region 16 with fail
      clear qe hix z0 z1
      by_cases hlast : kk + 1 < lw
      case pos =>
        have hk1l : kk + 1 < ws.length := by rw [HLW.out]; exact hlast
        have hb2t : turnB G odd ws[kk + 1] = b2 := by have h := HB2.out; rw [dif_pos hk1l] at h; exact h
        obtain ⟨k2, hk2⟩ : ∃ k2, kk + 1 = k2 := ⟨_, rfl⟩
        have hk2l : k2 < ws.length := by rw [← hk2]; exact hk1l
        have hk2w : k2 < lw := by omega
        have hwe : ws[kk + 1] = ws[k2] := by simp only [hk2]
        rw [hwe] at hb2t
        have zk : (kk : Int) + 1 = (k2 : Int) := by omega
        have ze : ((kk : Int) == (lw : Int) - 1) = false := beq_eq_false_iff_ne.2 (by omega)
        clear hwe hk2
        obtain ⟨yx, HYX0⟩ : ∃ qz, ws[k2] = qz := ⟨_, rfl⟩
        have HYX := Lib.hid HYX0
        clear HYX0
        rw [HYX.out] at hb2t
        have HB2T := Lib.hid hb2t
        clear hb2t
        obtain ⟨gb, go, hpl, e0⟩ := rd1 (HS.out.now).2.2.1 k2 hk2l
        have hix := fun wx => run_indexS (P := Try.prog) wx 22 3 iI 1 Try.underlying22 hiI hsI aw lw cw k2 hk2w ((HS.out.now).2.2.1.some_ (by have := hk2w; omega))
        rw [hpl] at hix
        have HIg := Lib.hid hix
        clear hix hpl
        rw [HYX.out] at e0
        replace HS := Lib.hid ((Ev.cell e0).and HS.out)
        clear e0
        cases b1 with
        | false =>
          go_upto_region 16 with fail
          clear qbg_0 qbg_1 qbg_2 lbg
          have HSd := Lib.hid HS.out.drew
          refine wp_region_inv3 (act := ?actwb_r16_0) (Mod (fun _ => False)) (fun i => (wb_r16_0_F odd a1 a2 a3 n1 d1 n2 d2 n3 d3 md).getD i (fun _ _ => True)) (fun i => wb_r16_0_D.getD i []) (by kernel_rfl) (by kernel_rfl) (by kernel_rfl) (by kernel_rfl) (fun _ => Mod.refl _ _)
            (fun _ _ _ h k => h.trans k (fun _ _ e => e) (fun _ _ e => e)) ?hactwb_r16_0 (stable_list ?_) ?_ ?_
          case hactwb_r16_0 => intro vs; simp only [putAll, Nat.zero_add, Nat.reduceAdd, Act.put, List.setIfInBounds_toArray, List.set_cons_succ, List.set_cons_zero]; exact rfl
          · unfold wb_r16_0_F
            exact stable_cons (stable_val _) <| stable_cons (stable_val _) <| stable_cons (stable_val _) <| stable_cons (stable_val _) <| stable_cons (stable_val _) <| stable_cons (stable_val _) <| stable_cons (stable_val _) <| stable_cons (stable_val _) <| stable_cons (stable_val _) <| stable_cons (stable_val _) <| stable_cons (stable_val _) <| stable_cons (stable_val _) <| stable_cons (stable_val _) <| stable_cons (stable_val _) <| stable_cons (stable_val _) <| stable_cons (stable_val _) <| stable_cons (stable_val _) <| stable_cons (stable_val _) <| stable_cons (stable_val _) <| stable_cons (stable_val _) <| stable_cons (stable_val _) <| stable_cons (stable_val _) <| stable_nil
          · refine opsOkA_cons ?_ ?_
            · intro K vs W hR hD hK
              clear hD
              try dsimp only at hK ⊢
              simp only [Act.put, List.setIfInBounds_toArray, List.set_cons_succ, List.set_cons_zero] at hK
              have hbx := (HSd.out.at (hR)).2.2.2.2.1
              have q0 := hbx.cell 0 rfl
              have q1 := hbx.cell 1 rfl
              have q2 := hbx.cell 2 rfl
              go_wp2
              exact hK _ _ rfl (Mod.refl _ _)
            refine opsOkA_cons ?_ ?_
            · intro K vs W hR hD hK
              clear hD
              try dsimp only at hK ⊢
              simp only [Act.put, List.setIfInBounds_toArray, List.set_cons_succ, List.set_cons_zero] at hK
              go_wp2
              exact hK _ _ rfl (Mod.refl _ _)
            refine opsOkA_cons ?_ ?_
            · intro K vs W hR hD hK
              clear hD
              try dsimp only at hK ⊢
              simp only [Act.put, List.setIfInBounds_toArray, List.set_cons_succ, List.set_cons_zero] at hK
              go_wp2
              exact hK _ _ rfl (Mod.refl _ _)
            refine opsOkA_cons ?_ ?_
            · intro K vs W hR hD hK
              have dq0 : vs 0 = .agg #[.slice a1 n1 d1, .slice a2 n2 d2, .slice a3 n3 d3] := hD 0 (by decide)
              have dq1 : vs 1 = .int .i64 md := hD 1 (by decide)
              have dq2 : vs 2 = .int .i64 odd := hD 2 (by decide)
              clear hD
              try dsimp only at hK ⊢
              simp only [Act.put, List.setIfInBounds_toArray, List.set_cons_succ, List.set_cons_zero] at hK
              generalize vs 0 = vq0 at hK dq0 ⊢
              subst vq0
              generalize vs 1 = vq1 at hK dq1 ⊢
              subst vq1
              generalize vs 2 = vq2 at hK dq2 ⊢
              subst vq2
              go_wp2_with (go_at_call 24; refine (r4turn_any G W a1 n1 d1 a2 n2 d2 a3 n3 d3 ((HSd.out.at (hR)).2.2.2.2.2.2.1) (by omega) (by omega) md odd).mono ?_; rintro e' w' ⟨rfl, hm'⟩; rw [HB1.out])
              exact hK _ _ rfl hm'
            refine opsOkA_cons ?_ ?_
            · intro K vs W hR hD hK
              have dq3 : vs 3 = .bool false := hD 3 (by decide)
              clear hD
              try dsimp only at hK ⊢
              simp only [Act.put, List.setIfInBounds_toArray, List.set_cons_succ, List.set_cons_zero] at hK
              generalize vs 3 = vq3 at hK dq3 ⊢
              subst vq3
              go_wp2
              exact hK _ _ rfl (Mod.refl _ _)
            refine opsOkA_cons ?_ ?_
            · intro K vs W hR hD hK
              have dq4 : vs 4 = .bool false := hD 4 (by decide)
              clear hD
              try dsimp only at hK ⊢
              simp only [Act.put, List.setIfInBounds_toArray, List.set_cons_succ, List.set_cons_zero] at hK
              generalize vs 4 = vq4 at hK dq4 ⊢
              subst vq4
              go_wp2
              exact hK _ _ rfl (Mod.refl _ _)
            refine opsOkA_cons ?_ ?_
            · intro K vs W hR hD hK
              have dq4 : vs 4 = .bool false := hD 4 (by decide)
              clear hD
              try dsimp only at hK ⊢
              simp only [Act.put, List.setIfInBounds_toArray, List.set_cons_succ, List.set_cons_zero] at hK
              generalize vs 4 = vq4 at hK dq4 ⊢
              subst vq4
              go_wp2
              exact hK _ _ rfl (Mod.refl _ _)
            refine opsOkA_cons ?_ ?_
            · intro K vs W hR hD hK
              have dq4 : vs 4 = .bool false := hD 4 (by decide)
              clear hD
              try dsimp only at hK ⊢
              simp only [Act.put, List.setIfInBounds_toArray, List.set_cons_succ, List.set_cons_zero] at hK
              generalize vs 4 = vq4 at hK dq4 ⊢
              subst vq4
              go_wp2_with fail
              exact hK _ _ rfl (Mod.refl _ _)
            refine opsOkA_cons ?_ ?_
            · intro K vs W hR hD hK
              have dq4 : vs 4 = .bool false := hD 4 (by decide)
              clear hD
              try dsimp only at hK ⊢
              simp only [Act.put, List.setIfInBounds_toArray, List.set_cons_succ, List.set_cons_zero] at hK
              generalize vs 4 = vq4 at hK dq4 ⊢
              subst vq4
              go_wp2
              exact hK _ _ rfl (Mod.refl _ _)
            refine opsOkA_cons ?_ ?_
            · intro K vs W hR hD hK
              have dq4 : vs 4 = .bool false := hD 4 (by decide)
              clear hD
              try dsimp only at hK ⊢
              simp only [Act.put, List.setIfInBounds_toArray, List.set_cons_succ, List.set_cons_zero] at hK
              generalize vs 4 = vq4 at hK dq4 ⊢
              subst vq4
              go_wp2
              exact hK _ _ rfl (Mod.refl _ _)
            refine opsOkA_cons ?_ ?_
            · intro K vs W hR hD hK
              have dq4 : vs 4 = .bool false := hD 4 (by decide)
              clear hD
              try dsimp only at hK ⊢
              simp only [Act.put, List.setIfInBounds_toArray, List.set_cons_succ, List.set_cons_zero] at hK
              generalize vs 4 = vq4 at hK dq4 ⊢
              subst vq4
              go_wp2
              exact hK _ _ rfl (Mod.refl _ _)
            refine opsOkA_cons ?_ ?_
            · intro K vs W hR hD hK
              have dq10 : vs 10 = undef := hD 10 (by decide)
              clear hD
              try dsimp only at hK ⊢
              simp only [Act.put, List.setIfInBounds_toArray, List.set_cons_succ, List.set_cons_zero] at hK
              generalize vs 10 = vq10 at hK dq10 ⊢
              subst vq10
              go_wp2
              exact hK _ _ rfl (Mod.refl _ _)
            refine opsOkA_cons ?_ ?_
            · intro K vs W hR hD hK
              have dq10 : vs 10 = undef := hD 10 (by decide)
              clear hD
              try dsimp only at hK ⊢
              simp only [Act.put, List.setIfInBounds_toArray, List.set_cons_succ, List.set_cons_zero] at hK
              generalize vs 10 = vq10 at hK dq10 ⊢
              subst vq10
              go_wp2
              exact hK _ _ rfl (Mod.refl _ _)
            refine opsOkA_cons ?_ ?_
            · intro K vs W hR hD hK
              have dq10 : vs 10 = undef := hD 10 (by decide)
              clear hD
              try dsimp only at hK ⊢
              simp only [Act.put, List.setIfInBounds_toArray, List.set_cons_succ, List.set_cons_zero] at hK
              generalize vs 10 = vq10 at hK dq10 ⊢
              subst vq10
              go_wp2
              exact hK _ _ rfl (Mod.refl _ _)
            refine opsOkA_cons ?_ ?_
            · intro K vs W hR hD hK
              have dq10 : vs 10 = undef := hD 10 (by decide)
              clear hD
              try dsimp only at hK ⊢
              simp only [Act.put, List.setIfInBounds_toArray, List.set_cons_succ, List.set_cons_zero] at hK
              generalize vs 10 = vq10 at hK dq10 ⊢
              subst vq10
              go_wp2
              exact hK _ _ rfl (Mod.refl _ _)
            refine opsOkA_cons ?_ ?_
            · intro K vs W hR hD hK
              have dq10 : vs 10 = undef := hD 10 (by decide)
              clear hD
              try dsimp only at hK ⊢
              simp only [Act.put, List.setIfInBounds_toArray, List.set_cons_succ, List.set_cons_zero] at hK
              generalize vs 10 = vq10 at hK dq10 ⊢
              subst vq10
              go_wp2
              exact hK _ _ rfl (Mod.refl _ _)
            refine opsOkA_cons ?_ ?_
            · intro K vs W hR hD hK
              have dq10 : vs 10 = undef := hD 10 (by decide)
              clear hD
              try dsimp only at hK ⊢
              simp only [Act.put, List.setIfInBounds_toArray, List.set_cons_succ, List.set_cons_zero] at hK
              generalize vs 10 = vq10 at hK dq10 ⊢
              subst vq10
              go_wp2_with fail
              exact hK _ _ rfl (Mod.refl _ _)
            refine opsOkA_cons ?_ ?_
            · intro K vs W hR hD hK
              have dq10 : vs 10 = undef := hD 10 (by decide)
              clear hD
              try dsimp only at hK ⊢
              simp only [Act.put, List.setIfInBounds_toArray, List.set_cons_succ, List.set_cons_zero] at hK
              generalize vs 10 = vq10 at hK dq10 ⊢
              subst vq10
              go_wp2
              exact hK _ _ rfl (Mod.refl _ _)
            refine opsOkA_cons ?_ ?_
            · intro K vs W hR hD hK
              have dq10 : vs 10 = undef := hD 10 (by decide)
              clear hD
              try dsimp only at hK ⊢
              simp only [Act.put, List.setIfInBounds_toArray, List.set_cons_succ, List.set_cons_zero] at hK
              generalize vs 10 = vq10 at hK dq10 ⊢
              subst vq10
              go_wp2_with fail
              exact hK _ _ rfl (Mod.refl _ _)
            refine opsOkA_cons ?_ ?_
            · intro K vs W hR hD hK
              have dq4 : vs 4 = .bool false := hD 4 (by decide)
              clear hD
              try dsimp only at hK ⊢
              simp only [Act.put, List.setIfInBounds_toArray, List.set_cons_succ, List.set_cons_zero] at hK
              generalize vs 4 = vq4 at hK dq4 ⊢
              subst vq4
              go_wp2
              exact hK _ _ rfl (Mod.refl _ _)
            refine opsOkA_cons ?_ ?_
            · intro K vs W hR hD hK
              have dq4 : vs 4 = .bool false := hD 4 (by decide)
              have dq19 : vs 19 = undef := hD 19 (by decide)
              clear hD
              try dsimp only at hK ⊢
              simp only [Act.put, List.setIfInBounds_toArray, List.set_cons_succ, List.set_cons_zero] at hK
              generalize vs 4 = vq4 at hK dq4 ⊢
              subst vq4
              generalize vs 19 = vq19 at hK dq19 ⊢
              subst vq19
              go_wp2
              exact hK _ _ rfl (Mod.refl _ _)
            refine opsOkA_cons ?_ ?_
            · intro K vs W hR hD hK
              have dq20 : vs 20 = .bool false := hD 20 (by decide)
              clear hD
              try dsimp only at hK ⊢
              simp only [Act.put, List.setIfInBounds_toArray, List.set_cons_succ, List.set_cons_zero] at hK
              generalize vs 20 = vq20 at hK dq20 ⊢
              subst vq20
              go_wp2
              exact hK _ _ rfl (Mod.refl _ _)
            exact opsOkA_nil
          · intro vs wq8 hR hF
            have dq21 : vs 21 = .bool false := hF 21 (by decide)
            clear hF
            try dsimp only
            generalize vs 21 = vq21 at dq21 ⊢
            subst dq21
            replace HS := Lib.hid (HSd.out.step hR)
            clear HSd hR
            have hbbg := (HS.out.now).2.2.2.2.1
            have qbg_0 := hbbg.cell 0 rfl
            have qbg_1 := hbbg.cell 1 rfl
            have qbg_2 := hbbg.cell 2 rfl
            have lbg := hbbg.lt
            clear hbbg
            go_wp2_with fail
            replace HS := Lib.hid ((Ev.mod wq8).and HS.out)
            go_loopw [19, 20] (fun s i wr => ∃ (i0 : Nat) (s0 : Int), i0 ≤ lw ∧ i = .int .i64 i0 ∧ s = .int .i64 s0 ∧ s0 = wS G (ws.take i0) ∧ Mod (fun _ => False) wq8 wr) (fun s i _ => lw - (intOf i).toNat)
            case atStart => exact ⟨0, 0, by omega, rfl, rfl, rfl, Mod.refl _ _⟩
            case round =>
              obtain ⟨i0, s0, hi0, rfl, rfl, hs, hmr⟩ := hrel
              obtain ⟨wl, hwo⟩ : ∃ x : World, x = wr := ⟨_, rfl⟩
              subst hwo
              replace HS := Lib.hid (HS.out.step hmr)
              clear hmr
              clear qbg_0 qbg_1 qbg_2 lbg
              have hbbg := (HS.out.now).2.2.2.2.2.1
              have qbg_0 := hbbg.cell 0 rfl
              have qbg_1 := hbbg.cell 1 rfl
              have qbg_2 := hbbg.cell 2 rfl
              have lbg := hbbg.lt
              clear hbbg
              have hat : allE G (ws.take i0) = true := by have h := allE_append G (ws.take i0) (ws.drop i0); rw [List.take_append_drop, A3.out] at h; exact (Bool.and_eq_true_iff.1 h.symm).1
              have hsb := wS_le G hmay.out (ws.take i0) hat
              rw [← hs] at hsb
              have hl40 : (ws.take i0).length ≤ 40 := by have := List.length_take_le i0 ws; omega
              have hs1 := hsb.1
              have hs2 : s0 ≤ 2621400 := by have := hsb.2; omega
              have HSUM := Lib.hid hs
              clear hs hat hsb hl40
              by_cases hlt : i0 < lw
              case pos =>
                have hil : i0 < ws.length := by rw [HLW.out]; exact hlt
                have z0 : decide ((i0 : Int) < (lw : Int)) = true := by simp; omega
                have ht2 := Lib.hid (wS_take G ws i0 hil)
                have hxe : edB G ws[i0] = true := by have h := A3.out; unfold allE at h; exact List.all_eq_true.1 h _ (List.getElem_mem hil)
                have hz := wt_le G hmay.out _ hxe
                obtain ⟨xi, HXI0⟩ : ∃ qz, ws[i0] = qz := ⟨_, rfl⟩
                have HXI := Lib.hid HXI0
                clear HXI0
                rw [HXI.out] at hxe hz ht2
                obtain ⟨zi, HZI0⟩ : ∃ qz, (eAt G xi).2.2 = qz := ⟨_, rfl⟩
                have HZI := Lib.hid HZI0
                clear HZI0
                rw [HZI.out] at hz ht2
                have hz1 := hz.1
                have hz2 := hz.2
                have A1 : Hid (allE G [xi] = true) := Lib.hid (by unfold allE; simp [hxe])
                have W1 : Hid (wtN G [xi] = zi) := Lib.hid (by unfold wtN; rw [A1.out, if_pos rfl]; simp [wS, HZI.out])
                clear hz hxe
                obtain ⟨hb, ho, hpl, e0⟩ := rd1 (HS.out.now).2.2.2.2.1 i0 hil
                have hix := fun wx => run_indexS (P := Try.prog) wx 22 3 iI 1 Try.underlying22 hiI hsI aw lw cw i0 hlt ((HS.out.now).2.2.2.2.1.some_ (by have := hlt; omega))
                rw [hpl] at hix
                have HIh := Lib.hid hix
                clear hix hpl
                rw [HXI.out] at e0
                replace HS := Lib.hid ((Ev.cell e0).and HS.out)
                clear e0
                have qh := (HS.out.now).1
                have hix := HIh.out
                go_wp2_with fail
                clear qbg_0 qbg_1 qbg_2 lbg
                refine (wweight_any t p B C G hmay.out _ (((HS.out.now).2.2.2.2.2.2.2.1).keep (Mod.alloc _ _ _)) _ 1 _ [xi] rfl (Rd.lit 3 [.int .i64 xi] (0, 0) _ 1 rfl rfl (by decide)) (by omega)).mono ?_
                rintro e wq9 ⟨rfl, hm⟩
                replace HS := Lib.hid (HS.out.step ((Mod.alloc (fun _ => False) _ _).of2 hm))
                clear hm qh hix
                rw [A1.out, W1.out]
                go_wp2_with fail
                go_roundw
                case rel => exact ⟨i0 + 1, s0 + zi, hlt, by go_num, by go_num, by rw [ht2.out, ← HSUM.out], (HS.out.now).2.1⟩
                case measure => simp [intOf]; omega
              case neg =>
                obtain rfl : i0 = lw := by omega
                have z0 : decide ((i0 : Int) < (i0 : Int)) = false := by simp
                have W3 : Hid (wtN G ws = s0) := Lib.hid (by unfold wtN; rw [A3.out, if_pos rfl, HSUM.out, List.take_of_length_le (by rw [HLW.out]; exact Nat.le_refl _)])
                go_wp2_with fail
                refine (wweight_any t p B C G hmay.out _ ((HS.out.now).2.2.2.2.2.2.1) aw i0 cw ws HLW.out ((HS.out.now).2.2.2.2.1) (by omega)).mono ?_
                rintro e wq10 ⟨rfl, hmm⟩
                replace HS := Lib.hid (HS.out.step hmm)
                clear hmm
                clear qbg_0 qbg_1 qbg_2 lbg
                have hbbg := (HS.out.now).2.2.2.2.2.1
                have qbg_0 := hbbg.cell 0 rfl
                have qbg_1 := hbbg.cell 1 rfl
                have qbg_2 := hbbg.cell 2 rfl
                have lbg := hbbg.lt
                clear hbbg
                rw [W3.out, A3.out]
                go_wp2_with fail
                refine (wend_any t p B C G _ ((HS.out.now).2.2.2.2.2.2.1) (er : Int) _ i0 rc (ws.set kk odd) LX.out ((HS.out.now).2.2.2.1) (by omega)).mono ?_
                rintro e wq11 ⟨rfl, hmm⟩
                replace HS := Lib.hid (HS.out.step hmm)
                clear hmm
                clear qbg_0 qbg_1 qbg_2 lbg
                have hbbg := (HS.out.now).2.2.2.2.2.1
                have qbg_0 := hbbg.cell 0 rfl
                have qbg_1 := hbbg.cell 1 rfl
                have qbg_2 := hbbg.cell 2 rfl
                have lbg := hbbg.lt
                clear hbbg
                rw [VX.out]
                go_wp2_with fail
                refine (wvalid_any t p B C G _ ((HS.out.now).2.2.2.2.2.2.1) (er : Int) _ i0 rc (ws.set kk odd) LX.out ((HS.out.now).2.2.2.1) (by omega)).mono ?_
                rintro e wq12 ⟨rfl, hmm⟩
                replace HS := Lib.hid (HS.out.step hmm)
                clear hmm
                clear qbg_0 qbg_1 qbg_2 lbg
                have hbbg := (HS.out.now).2.2.2.2.2.1
                have qbg_0 := hbbg.cell 0 rfl
                have qbg_1 := hbbg.cell 1 rfl
                have qbg_2 := hbbg.cell 2 rfl
                have lbg := hbbg.lt
                clear hbbg
                rw [VX.out]
                simp only [Bool.true_and, Bool.false_and, Bool.and_true, Bool.and_false]
                go_wp2_with fail
                refine (awake8_any _).mono ?_
                rintro e wq13 ⟨rfl, hmm⟩
                replace HS := Lib.hid (HS.out.step hmm)
                clear hmm
                clear qbg_0 qbg_1 qbg_2 lbg
                have hbbg := (HS.out.now).2.2.2.2.2.1
                have qbg_0 := hbbg.cell 0 rfl
                have qbg_1 := hbbg.cell 1 rfl
                have qbg_2 := hbbg.cell 2 rfl
                have lbg := hbbg.lt
                clear hbbg
                go_wp2_with fail
                go_ret
                exact ⟨rfl, (HS.out.now).2.2.2.2.2.2.2.2.2.2⟩
        | true =>
          go_upto_region 16 with fail
          clear qbg_0 qbg_1 qbg_2 lbg
          have HSd := Lib.hid HS.out.drew
          refine wp_region_inv3 (act := ?actwb_r16_1) (Mod (fun _ => False)) (fun i => (wb_r16_1_F odd a1 a2 a3 n1 d1 n2 d2 n3 d3 lw cw aw kk md b2 k2 yx gb go).getD i (fun _ _ => True)) (fun i => wb_r16_1_D.getD i []) (by kernel_rfl) (by kernel_rfl) (by kernel_rfl) (by kernel_rfl) (fun _ => Mod.refl _ _)
            (fun _ _ _ h k => h.trans k (fun _ _ e => e) (fun _ _ e => e)) ?hactwb_r16_1 (stable_list ?_) ?_ ?_
          case hactwb_r16_1 => intro vs; simp only [putAll, Nat.zero_add, Nat.reduceAdd, Act.put, List.setIfInBounds_toArray, List.set_cons_succ, List.set_cons_zero]; exact rfl
          · unfold wb_r16_1_F
            exact stable_cons (stable_val _) <| stable_cons (stable_val _) <| stable_cons (stable_val _) <| stable_cons (stable_val _) <| stable_cons (stable_val _) <| stable_cons (stable_val _) <| stable_cons (stable_val _) <| stable_cons (stable_val _) <| stable_cons (stable_val _) <| stable_cons (stable_val _) <| stable_cons (stable_val _) <| stable_cons (stable_val _) <| stable_cons (stable_val _) <| stable_cons (stable_val _) <| stable_cons (stable_val _) <| stable_cons (stable_val _) <| stable_cons (stable_val _) <| stable_cons (stable_val _) <| stable_cons (stable_val _) <| stable_cons (stable_val _) <| stable_cons (stable_val _) <| stable_cons (stable_val _) <| stable_nil
          · refine opsOkA_cons ?_ ?_
            · intro K vs W hR hD hK
              clear hD
              try dsimp only at hK ⊢
              simp only [Act.put, List.setIfInBounds_toArray, List.set_cons_succ, List.set_cons_zero] at hK
              have hbx := (HSd.out.at (hR)).2.2.2.2.1
              have q0 := hbx.cell 0 rfl
              have q1 := hbx.cell 1 rfl
              have q2 := hbx.cell 2 rfl
              go_wp2
              exact hK _ _ rfl (Mod.refl _ _)
            refine opsOkA_cons ?_ ?_
            · intro K vs W hR hD hK
              clear hD
              try dsimp only at hK ⊢
              simp only [Act.put, List.setIfInBounds_toArray, List.set_cons_succ, List.set_cons_zero] at hK
              go_wp2
              exact hK _ _ rfl (Mod.refl _ _)
            refine opsOkA_cons ?_ ?_
            · intro K vs W hR hD hK
              clear hD
              try dsimp only at hK ⊢
              simp only [Act.put, List.setIfInBounds_toArray, List.set_cons_succ, List.set_cons_zero] at hK
              go_wp2
              exact hK _ _ rfl (Mod.refl _ _)
            refine opsOkA_cons ?_ ?_
            · intro K vs W hR hD hK
              have dq0 : vs 0 = .agg #[.slice a1 n1 d1, .slice a2 n2 d2, .slice a3 n3 d3] := hD 0 (by decide)
              have dq1 : vs 1 = .int .i64 md := hD 1 (by decide)
              have dq2 : vs 2 = .int .i64 odd := hD 2 (by decide)
              clear hD
              try dsimp only at hK ⊢
              simp only [Act.put, List.setIfInBounds_toArray, List.set_cons_succ, List.set_cons_zero] at hK
              generalize vs 0 = vq0 at hK dq0 ⊢
              subst vq0
              generalize vs 1 = vq1 at hK dq1 ⊢
              subst vq1
              generalize vs 2 = vq2 at hK dq2 ⊢
              subst vq2
              go_wp2_with (go_at_call 24; refine (r4turn_any G W a1 n1 d1 a2 n2 d2 a3 n3 d3 ((HSd.out.at (hR)).2.2.2.2.2.2.1) (by omega) (by omega) md odd).mono ?_; rintro e' w' ⟨rfl, hm'⟩; rw [HB1.out])
              exact hK _ _ rfl hm'
            refine opsOkA_cons ?_ ?_
            · intro K vs W hR hD hK
              have dq3 : vs 3 = .bool true := hD 3 (by decide)
              clear hD
              try dsimp only at hK ⊢
              simp only [Act.put, List.setIfInBounds_toArray, List.set_cons_succ, List.set_cons_zero] at hK
              generalize vs 3 = vq3 at hK dq3 ⊢
              subst vq3
              go_wp2
              exact hK _ _ rfl (Mod.refl _ _)
            refine opsOkA_cons ?_ ?_
            · intro K vs W hR hD hK
              have dq4 : vs 4 = .bool true := hD 4 (by decide)
              clear hD
              try dsimp only at hK ⊢
              simp only [Act.put, List.setIfInBounds_toArray, List.set_cons_succ, List.set_cons_zero] at hK
              generalize vs 4 = vq4 at hK dq4 ⊢
              subst vq4
              go_wp2
              exact hK _ _ rfl (Mod.refl _ _)
            refine opsOkA_cons ?_ ?_
            · intro K vs W hR hD hK
              have dq4 : vs 4 = .bool true := hD 4 (by decide)
              clear hD
              try dsimp only at hK ⊢
              simp only [Act.put, List.setIfInBounds_toArray, List.set_cons_succ, List.set_cons_zero] at hK
              generalize vs 4 = vq4 at hK dq4 ⊢
              subst vq4
              go_wp2
              exact hK _ _ rfl (Mod.refl _ _)
            refine opsOkA_cons ?_ ?_
            · intro K vs W hR hD hK
              have dq4 : vs 4 = .bool true := hD 4 (by decide)
              have dq6 : vs 6 = .slice aw lw cw := hD 6 (by decide)
              clear hD
              try dsimp only at hK ⊢
              simp only [Act.put, List.setIfInBounds_toArray, List.set_cons_succ, List.set_cons_zero] at hK
              generalize vs 4 = vq4 at hK dq4 ⊢
              subst vq4
              generalize vs 6 = vq6 at hK dq6 ⊢
              subst vq6
              go_wp2_with fail
              exact hK _ _ rfl (Mod.refl _ _)
            refine opsOkA_cons ?_ ?_
            · intro K vs W hR hD hK
              have dq4 : vs 4 = .bool true := hD 4 (by decide)
              have dq7 : vs 7 = .int .i64 (lw : Int) := hD 7 (by decide)
              clear hD
              try dsimp only at hK ⊢
              simp only [Act.put, List.setIfInBounds_toArray, List.set_cons_succ, List.set_cons_zero] at hK
              generalize vs 4 = vq4 at hK dq4 ⊢
              subst vq4
              generalize vs 7 = vq7 at hK dq7 ⊢
              subst vq7
              go_wp2
              exact hK _ _ rfl (Mod.refl _ _)
            refine opsOkA_cons ?_ ?_
            · intro K vs W hR hD hK
              have dq4 : vs 4 = .bool true := hD 4 (by decide)
              have dq5 : vs 5 = .int .i64 (kk : Int) := hD 5 (by decide)
              have dq8 : vs 8 = .int .i64 ((lw : Int) - 1) := hD 8 (by decide)
              clear hD
              try dsimp only at hK ⊢
              simp only [Act.put, List.setIfInBounds_toArray, List.set_cons_succ, List.set_cons_zero] at hK
              generalize vs 4 = vq4 at hK dq4 ⊢
              subst vq4
              generalize vs 5 = vq5 at hK dq5 ⊢
              subst vq5
              generalize vs 8 = vq8 at hK dq8 ⊢
              subst vq8
              go_wp2
              exact hK _ _ rfl (Mod.refl _ _)
            refine opsOkA_cons ?_ ?_
            · intro K vs W hR hD hK
              have dq4 : vs 4 = .bool true := hD 4 (by decide)
              have dq9 : vs 9 = .bool false := hD 9 (by decide)
              clear hD
              try dsimp only at hK ⊢
              simp only [Act.put, List.setIfInBounds_toArray, List.set_cons_succ, List.set_cons_zero] at hK
              generalize vs 4 = vq4 at hK dq4 ⊢
              subst vq4
              generalize vs 9 = vq9 at hK dq9 ⊢
              subst vq9
              go_wp2
              exact hK _ _ rfl (Mod.refl _ _)
            refine opsOkA_cons ?_ ?_
            · intro K vs W hR hD hK
              have dq10 : vs 10 = .bool false := hD 10 (by decide)
              clear hD
              try dsimp only at hK ⊢
              simp only [Act.put, List.setIfInBounds_toArray, List.set_cons_succ, List.set_cons_zero] at hK
              generalize vs 10 = vq10 at hK dq10 ⊢
              subst vq10
              have hbx := (HSd.out.at (hR)).2.2.2.2.1
              have q0 := hbx.cell 0 rfl
              have q1 := hbx.cell 1 rfl
              have q2 := hbx.cell 2 rfl
              go_wp2
              exact hK _ _ rfl (Mod.refl _ _)
            refine opsOkA_cons ?_ ?_
            · intro K vs W hR hD hK
              have dq10 : vs 10 = .bool false := hD 10 (by decide)
              clear hD
              try dsimp only at hK ⊢
              simp only [Act.put, List.setIfInBounds_toArray, List.set_cons_succ, List.set_cons_zero] at hK
              generalize vs 10 = vq10 at hK dq10 ⊢
              subst vq10
              go_wp2
              exact hK _ _ rfl (Mod.refl _ _)
            refine opsOkA_cons ?_ ?_
            · intro K vs W hR hD hK
              have dq10 : vs 10 = .bool false := hD 10 (by decide)
              clear hD
              try dsimp only at hK ⊢
              simp only [Act.put, List.setIfInBounds_toArray, List.set_cons_succ, List.set_cons_zero] at hK
              generalize vs 10 = vq10 at hK dq10 ⊢
              subst vq10
              go_wp2
              exact hK _ _ rfl (Mod.refl _ _)
            refine opsOkA_cons ?_ ?_
            · intro K vs W hR hD hK
              have dq10 : vs 10 = .bool false := hD 10 (by decide)
              clear hD
              try dsimp only at hK ⊢
              simp only [Act.put, List.setIfInBounds_toArray, List.set_cons_succ, List.set_cons_zero] at hK
              generalize vs 10 = vq10 at hK dq10 ⊢
              subst vq10
              go_wp2
              exact hK _ _ rfl (Mod.refl _ _)
            refine opsOkA_cons ?_ ?_
            · intro K vs W hR hD hK
              have dq10 : vs 10 = .bool false := hD 10 (by decide)
              have dq14 : vs 14 = .int .i64 (kk : Int) := hD 14 (by decide)
              clear hD
              try dsimp only at hK ⊢
              simp only [Act.put, List.setIfInBounds_toArray, List.set_cons_succ, List.set_cons_zero] at hK
              generalize vs 10 = vq10 at hK dq10 ⊢
              subst vq10
              generalize vs 14 = vq14 at hK dq14 ⊢
              subst vq14
              go_wp2
              exact hK _ _ rfl (Mod.refl _ _)
            refine opsOkA_cons ?_ ?_
            · intro K vs W hR hD hK
              have dq10 : vs 10 = .bool false := hD 10 (by decide)
              have dq13 : vs 13 = .slice aw lw cw := hD 13 (by decide)
              have dq15 : vs 15 = .int .i64 (k2 : Int) := hD 15 (by decide)
              clear hD
              try dsimp only at hK ⊢
              simp only [Act.put, List.setIfInBounds_toArray, List.set_cons_succ, List.set_cons_zero] at hK
              generalize vs 10 = vq10 at hK dq10 ⊢
              subst vq10
              generalize vs 13 = vq13 at hK dq13 ⊢
              subst vq13
              generalize vs 15 = vq15 at hK dq15 ⊢
              subst vq15
              have hix := HIg.out
              go_wp2_with fail
              exact hK _ _ rfl (Mod.refl _ _)
            refine opsOkA_cons ?_ ?_
            · intro K vs W hR hD hK
              have dq10 : vs 10 = .bool false := hD 10 (by decide)
              have dq16 : vs 16 = .pointer (some ⟨gb, go, none⟩) := hD 16 (by decide)
              clear hD
              try dsimp only at hK ⊢
              simp only [Act.put, List.setIfInBounds_toArray, List.set_cons_succ, List.set_cons_zero] at hK
              generalize vs 10 = vq10 at hK dq10 ⊢
              subst vq10
              generalize vs 16 = vq16 at hK dq16 ⊢
              subst vq16
              have c0 := (HSd.out.at (hR)).1
              go_wp2
              exact hK _ _ rfl (Mod.refl _ _)
            refine opsOkA_cons ?_ ?_
            · intro K vs W hR hD hK
              have dq10 : vs 10 = .bool false := hD 10 (by decide)
              have dq11 : vs 11 = .agg #[.slice a1 n1 d1, .slice a2 n2 d2, .slice a3 n3 d3] := hD 11 (by decide)
              have dq12 : vs 12 = .int .i64 odd := hD 12 (by decide)
              have dq17 : vs 17 = .int .i64 yx := hD 17 (by decide)
              clear hD
              try dsimp only at hK ⊢
              simp only [Act.put, List.setIfInBounds_toArray, List.set_cons_succ, List.set_cons_zero] at hK
              generalize vs 10 = vq10 at hK dq10 ⊢
              subst vq10
              generalize vs 11 = vq11 at hK dq11 ⊢
              subst vq11
              generalize vs 12 = vq12 at hK dq12 ⊢
              subst vq12
              generalize vs 17 = vq17 at hK dq17 ⊢
              subst vq17
              go_wp2_with (go_at_call 24; refine (r4turn_any G W a1 n1 d1 a2 n2 d2 a3 n3 d3 ((HSd.out.at (hR)).2.2.2.2.2.2.1) (by omega) (by omega) odd yx).mono ?_; rintro e' w' ⟨rfl, hm'⟩; rw [HB2T.out])
              exact hK _ _ rfl hm'
            refine opsOkA_cons ?_ ?_
            · intro K vs W hR hD hK
              have dq4 : vs 4 = .bool true := hD 4 (by decide)
              have dq10 : vs 10 = .bool false := hD 10 (by decide)
              have dq18 : vs 18 = .bool b2 := hD 18 (by decide)
              clear hD
              try dsimp only at hK ⊢
              simp only [Act.put, List.setIfInBounds_toArray, List.set_cons_succ, List.set_cons_zero] at hK
              generalize vs 4 = vq4 at hK dq4 ⊢
              subst vq4
              generalize vs 10 = vq10 at hK dq10 ⊢
              subst vq10
              generalize vs 18 = vq18 at hK dq18 ⊢
              subst vq18
              go_wp2
              exact hK _ _ rfl (Mod.refl _ _)
            refine opsOkA_cons ?_ ?_
            · intro K vs W hR hD hK
              have dq4 : vs 4 = .bool true := hD 4 (by decide)
              have dq19 : vs 19 = .bool b2 := hD 19 (by decide)
              clear hD
              try dsimp only at hK ⊢
              simp only [Act.put, List.setIfInBounds_toArray, List.set_cons_succ, List.set_cons_zero] at hK
              generalize vs 4 = vq4 at hK dq4 ⊢
              subst vq4
              generalize vs 19 = vq19 at hK dq19 ⊢
              subst vq19
              go_wp2
              exact hK _ _ rfl (Mod.refl _ _)
            refine opsOkA_cons ?_ ?_
            · intro K vs W hR hD hK
              have dq20 : vs 20 = .bool b2 := hD 20 (by decide)
              clear hD
              try dsimp only at hK ⊢
              simp only [Act.put, List.setIfInBounds_toArray, List.set_cons_succ, List.set_cons_zero] at hK
              generalize vs 20 = vq20 at hK dq20 ⊢
              subst vq20
              go_wp2
              exact hK _ _ rfl (Mod.refl _ _)
            exact opsOkA_nil
          · intro vs wq14 hR hF
            have dq21 : vs 21 = .bool b2 := hF 21 (by decide)
            clear hF
            try dsimp only
            generalize vs 21 = vq21 at dq21 ⊢
            subst dq21
            replace HS := Lib.hid (HSd.out.step hR)
            clear HSd hR
            have hbbg := (HS.out.now).2.2.2.2.1
            have qbg_0 := hbbg.cell 0 rfl
            have qbg_1 := hbbg.cell 1 rfl
            have qbg_2 := hbbg.cell 2 rfl
            have lbg := hbbg.lt
            clear hbbg
            go_wp2_with fail
            replace HS := Lib.hid ((Ev.mod wq14).and HS.out)
            go_loopw [19, 20] (fun s i wr => ∃ (i0 : Nat) (s0 : Int), i0 ≤ lw ∧ i = .int .i64 i0 ∧ s = .int .i64 s0 ∧ s0 = wS G (ws.take i0) ∧ Mod (fun _ => False) wq14 wr) (fun s i _ => lw - (intOf i).toNat)
            case atStart => exact ⟨0, 0, by omega, rfl, rfl, rfl, Mod.refl _ _⟩
            case round =>
              obtain ⟨i0, s0, hi0, rfl, rfl, hs, hmr⟩ := hrel
              obtain ⟨wl, hwo⟩ : ∃ x : World, x = wr := ⟨_, rfl⟩
              subst hwo
              replace HS := Lib.hid (HS.out.step hmr)
              clear hmr
              clear qbg_0 qbg_1 qbg_2 lbg
              have hbbg := (HS.out.now).2.2.2.2.2.1
              have qbg_0 := hbbg.cell 0 rfl
              have qbg_1 := hbbg.cell 1 rfl
              have qbg_2 := hbbg.cell 2 rfl
              have lbg := hbbg.lt
              clear hbbg
              have hat : allE G (ws.take i0) = true := by have h := allE_append G (ws.take i0) (ws.drop i0); rw [List.take_append_drop, A3.out] at h; exact (Bool.and_eq_true_iff.1 h.symm).1
              have hsb := wS_le G hmay.out (ws.take i0) hat
              rw [← hs] at hsb
              have hl40 : (ws.take i0).length ≤ 40 := by have := List.length_take_le i0 ws; omega
              have hs1 := hsb.1
              have hs2 : s0 ≤ 2621400 := by have := hsb.2; omega
              have HSUM := Lib.hid hs
              clear hs hat hsb hl40
              by_cases hlt : i0 < lw
              case pos =>
                have hil : i0 < ws.length := by rw [HLW.out]; exact hlt
                have z0 : decide ((i0 : Int) < (lw : Int)) = true := by simp; omega
                have ht2 := Lib.hid (wS_take G ws i0 hil)
                have hxe : edB G ws[i0] = true := by have h := A3.out; unfold allE at h; exact List.all_eq_true.1 h _ (List.getElem_mem hil)
                have hz := wt_le G hmay.out _ hxe
                obtain ⟨xi, HXI0⟩ : ∃ qz, ws[i0] = qz := ⟨_, rfl⟩
                have HXI := Lib.hid HXI0
                clear HXI0
                rw [HXI.out] at hxe hz ht2
                obtain ⟨zi, HZI0⟩ : ∃ qz, (eAt G xi).2.2 = qz := ⟨_, rfl⟩
                have HZI := Lib.hid HZI0
                clear HZI0
                rw [HZI.out] at hz ht2
                have hz1 := hz.1
                have hz2 := hz.2
                have A1 : Hid (allE G [xi] = true) := Lib.hid (by unfold allE; simp [hxe])
                have W1 : Hid (wtN G [xi] = zi) := Lib.hid (by unfold wtN; rw [A1.out, if_pos rfl]; simp [wS, HZI.out])
                clear hz hxe
                obtain ⟨hb, ho, hpl, e0⟩ := rd1 (HS.out.now).2.2.2.2.1 i0 hil
                have hix := fun wx => run_indexS (P := Try.prog) wx 22 3 iI 1 Try.underlying22 hiI hsI aw lw cw i0 hlt ((HS.out.now).2.2.2.2.1.some_ (by have := hlt; omega))
                rw [hpl] at hix
                have HIh := Lib.hid hix
                clear hix hpl
                rw [HXI.out] at e0
                replace HS := Lib.hid ((Ev.cell e0).and HS.out)
                clear e0
                have qh := (HS.out.now).1
                have hix := HIh.out
                go_wp2_with fail
                clear qbg_0 qbg_1 qbg_2 lbg
                refine (wweight_any t p B C G hmay.out _ (((HS.out.now).2.2.2.2.2.2.2.1).keep (Mod.alloc _ _ _)) _ 1 _ [xi] rfl (Rd.lit 3 [.int .i64 xi] (0, 0) _ 1 rfl rfl (by decide)) (by omega)).mono ?_
                rintro e wq15 ⟨rfl, hm⟩
                replace HS := Lib.hid (HS.out.step ((Mod.alloc (fun _ => False) _ _).of2 hm))
                clear hm qh hix
                rw [A1.out, W1.out]
                go_wp2_with fail
                go_roundw
                case rel => exact ⟨i0 + 1, s0 + zi, hlt, by go_num, by go_num, by rw [ht2.out, ← HSUM.out], (HS.out.now).2.1⟩
                case measure => simp [intOf]; omega
              case neg =>
                obtain rfl : i0 = lw := by omega
                have z0 : decide ((i0 : Int) < (i0 : Int)) = false := by simp
                have W3 : Hid (wtN G ws = s0) := Lib.hid (by unfold wtN; rw [A3.out, if_pos rfl, HSUM.out, List.take_of_length_le (by rw [HLW.out]; exact Nat.le_refl _)])
                go_wp2_with fail
                refine (wweight_any t p B C G hmay.out _ ((HS.out.now).2.2.2.2.2.2.1) aw i0 cw ws HLW.out ((HS.out.now).2.2.2.2.1) (by omega)).mono ?_
                rintro e wq16 ⟨rfl, hmm⟩
                replace HS := Lib.hid (HS.out.step hmm)
                clear hmm
                clear qbg_0 qbg_1 qbg_2 lbg
                have hbbg := (HS.out.now).2.2.2.2.2.1
                have qbg_0 := hbbg.cell 0 rfl
                have qbg_1 := hbbg.cell 1 rfl
                have qbg_2 := hbbg.cell 2 rfl
                have lbg := hbbg.lt
                clear hbbg
                rw [W3.out, A3.out]
                go_wp2_with fail
                refine (wend_any t p B C G _ ((HS.out.now).2.2.2.2.2.2.1) (er : Int) _ i0 rc (ws.set kk odd) LX.out ((HS.out.now).2.2.2.1) (by omega)).mono ?_
                rintro e wq17 ⟨rfl, hmm⟩
                replace HS := Lib.hid (HS.out.step hmm)
                clear hmm
                clear qbg_0 qbg_1 qbg_2 lbg
                have hbbg := (HS.out.now).2.2.2.2.2.1
                have qbg_0 := hbbg.cell 0 rfl
                have qbg_1 := hbbg.cell 1 rfl
                have qbg_2 := hbbg.cell 2 rfl
                have lbg := hbbg.lt
                clear hbbg
                rw [VX.out]
                go_wp2_with fail
                refine (wvalid_any t p B C G _ ((HS.out.now).2.2.2.2.2.2.1) (er : Int) _ i0 rc (ws.set kk odd) LX.out ((HS.out.now).2.2.2.1) (by omega)).mono ?_
                rintro e wq18 ⟨rfl, hmm⟩
                replace HS := Lib.hid (HS.out.step hmm)
                clear hmm
                clear qbg_0 qbg_1 qbg_2 lbg
                have hbbg := (HS.out.now).2.2.2.2.2.1
                have qbg_0 := hbbg.cell 0 rfl
                have qbg_1 := hbbg.cell 1 rfl
                have qbg_2 := hbbg.cell 2 rfl
                have lbg := hbbg.lt
                clear hbbg
                rw [VX.out]
                cases b2 <;> simp only [Bool.true_and, Bool.and_true, Bool.and_false, Bool.false_and]
                all_goals
                  go_wp2_with fail
                  refine (awake8_any _).mono ?_
                  rintro e wq19 ⟨rfl, hmm⟩
                  replace HS := Lib.hid (HS.out.step hmm)
                  clear hmm
                  clear qbg_0 qbg_1 qbg_2 lbg
                  have hbbg := (HS.out.now).2.2.2.2.2.1
                  have qbg_0 := hbbg.cell 0 rfl
                  have qbg_1 := hbbg.cell 1 rfl
                  have qbg_2 := hbbg.cell 2 rfl
                  have lbg := hbbg.lt
                  clear hbbg
                  go_wp2_with fail
                  go_ret
                  exact ⟨rfl, (HS.out.now).2.2.2.2.2.2.2.2.2.2⟩
      case neg =>
        have ze : ((kk : Int) == (lw : Int) - 1) = true := by simp; omega
        have hb2 : b2 = true := by have h := HB2.out; rw [dif_neg (by rw [HLW.out]; exact hlast)] at h; exact h.symm
        subst hb2
        cases b1 with
        | false =>
          go_upto_region 16 with fail
          clear qbg_0 qbg_1 qbg_2 lbg
          have HSd := Lib.hid HS.out.drew
          refine wp_region_inv3 (act := ?actwb_r16_2) (Mod (fun _ => False)) (fun i => (wb_r16_2_F odd a1 a2 a3 n1 d1 n2 d2 n3 d3 md).getD i (fun _ _ => True)) (fun i => wb_r16_2_D.getD i []) (by kernel_rfl) (by kernel_rfl) (by kernel_rfl) (by kernel_rfl) (fun _ => Mod.refl _ _)
            (fun _ _ _ h k => h.trans k (fun _ _ e => e) (fun _ _ e => e)) ?hactwb_r16_2 (stable_list ?_) ?_ ?_
          case hactwb_r16_2 => intro vs; simp only [putAll, Nat.zero_add, Nat.reduceAdd, Act.put, List.setIfInBounds_toArray, List.set_cons_succ, List.set_cons_zero]; exact rfl
          · unfold wb_r16_2_F
            exact stable_cons (stable_val _) <| stable_cons (stable_val _) <| stable_cons (stable_val _) <| stable_cons (stable_val _) <| stable_cons (stable_val _) <| stable_cons (stable_val _) <| stable_cons (stable_val _) <| stable_cons (stable_val _) <| stable_cons (stable_val _) <| stable_cons (stable_val _) <| stable_cons (stable_val _) <| stable_cons (stable_val _) <| stable_cons (stable_val _) <| stable_cons (stable_val _) <| stable_cons (stable_val _) <| stable_cons (stable_val _) <| stable_cons (stable_val _) <| stable_cons (stable_val _) <| stable_cons (stable_val _) <| stable_cons (stable_val _) <| stable_cons (stable_val _) <| stable_cons (stable_val _) <| stable_nil
          · refine opsOkA_cons ?_ ?_
            · intro K vs W hR hD hK
              clear hD
              try dsimp only at hK ⊢
              simp only [Act.put, List.setIfInBounds_toArray, List.set_cons_succ, List.set_cons_zero] at hK
              have hbx := (HSd.out.at (hR)).2.2.2.1
              have q0 := hbx.cell 0 rfl
              have q1 := hbx.cell 1 rfl
              have q2 := hbx.cell 2 rfl
              go_wp2
              exact hK _ _ rfl (Mod.refl _ _)
            refine opsOkA_cons ?_ ?_
            · intro K vs W hR hD hK
              clear hD
              try dsimp only at hK ⊢
              simp only [Act.put, List.setIfInBounds_toArray, List.set_cons_succ, List.set_cons_zero] at hK
              go_wp2
              exact hK _ _ rfl (Mod.refl _ _)
            refine opsOkA_cons ?_ ?_
            · intro K vs W hR hD hK
              clear hD
              try dsimp only at hK ⊢
              simp only [Act.put, List.setIfInBounds_toArray, List.set_cons_succ, List.set_cons_zero] at hK
              go_wp2
              exact hK _ _ rfl (Mod.refl _ _)
            refine opsOkA_cons ?_ ?_
            · intro K vs W hR hD hK
              have dq0 : vs 0 = .agg #[.slice a1 n1 d1, .slice a2 n2 d2, .slice a3 n3 d3] := hD 0 (by decide)
              have dq1 : vs 1 = .int .i64 md := hD 1 (by decide)
              have dq2 : vs 2 = .int .i64 odd := hD 2 (by decide)
              clear hD
              try dsimp only at hK ⊢
              simp only [Act.put, List.setIfInBounds_toArray, List.set_cons_succ, List.set_cons_zero] at hK
              generalize vs 0 = vq0 at hK dq0 ⊢
              subst vq0
              generalize vs 1 = vq1 at hK dq1 ⊢
              subst vq1
              generalize vs 2 = vq2 at hK dq2 ⊢
              subst vq2
              go_wp2_with (go_at_call 24; refine (r4turn_any G W a1 n1 d1 a2 n2 d2 a3 n3 d3 ((HSd.out.at (hR)).2.2.2.2.2.1) (by omega) (by omega) md odd).mono ?_; rintro e' w' ⟨rfl, hm'⟩; rw [HB1.out])
              exact hK _ _ rfl hm'
            refine opsOkA_cons ?_ ?_
            · intro K vs W hR hD hK
              have dq3 : vs 3 = .bool false := hD 3 (by decide)
              clear hD
              try dsimp only at hK ⊢
              simp only [Act.put, List.setIfInBounds_toArray, List.set_cons_succ, List.set_cons_zero] at hK
              generalize vs 3 = vq3 at hK dq3 ⊢
              subst vq3
              go_wp2
              exact hK _ _ rfl (Mod.refl _ _)
            refine opsOkA_cons ?_ ?_
            · intro K vs W hR hD hK
              have dq4 : vs 4 = .bool false := hD 4 (by decide)
              clear hD
              try dsimp only at hK ⊢
              simp only [Act.put, List.setIfInBounds_toArray, List.set_cons_succ, List.set_cons_zero] at hK
              generalize vs 4 = vq4 at hK dq4 ⊢
              subst vq4
              go_wp2
              exact hK _ _ rfl (Mod.refl _ _)
            refine opsOkA_cons ?_ ?_
            · intro K vs W hR hD hK
              have dq4 : vs 4 = .bool false := hD 4 (by decide)
              clear hD
              try dsimp only at hK ⊢
              simp only [Act.put, List.setIfInBounds_toArray, List.set_cons_succ, List.set_cons_zero] at hK
              generalize vs 4 = vq4 at hK dq4 ⊢
              subst vq4
              go_wp2
              exact hK _ _ rfl (Mod.refl _ _)
            refine opsOkA_cons ?_ ?_
            · intro K vs W hR hD hK
              have dq4 : vs 4 = .bool false := hD 4 (by decide)
              clear hD
              try dsimp only at hK ⊢
              simp only [Act.put, List.setIfInBounds_toArray, List.set_cons_succ, List.set_cons_zero] at hK
              generalize vs 4 = vq4 at hK dq4 ⊢
              subst vq4
              go_wp2_with fail
              exact hK _ _ rfl (Mod.refl _ _)
            refine opsOkA_cons ?_ ?_
            · intro K vs W hR hD hK
              have dq4 : vs 4 = .bool false := hD 4 (by decide)
              clear hD
              try dsimp only at hK ⊢
              simp only [Act.put, List.setIfInBounds_toArray, List.set_cons_succ, List.set_cons_zero] at hK
              generalize vs 4 = vq4 at hK dq4 ⊢
              subst vq4
              go_wp2
              exact hK _ _ rfl (Mod.refl _ _)
            refine opsOkA_cons ?_ ?_
            · intro K vs W hR hD hK
              have dq4 : vs 4 = .bool false := hD 4 (by decide)
              clear hD
              try dsimp only at hK ⊢
              simp only [Act.put, List.setIfInBounds_toArray, List.set_cons_succ, List.set_cons_zero] at hK
              generalize vs 4 = vq4 at hK dq4 ⊢
              subst vq4
              go_wp2
              exact hK _ _ rfl (Mod.refl _ _)
            refine opsOkA_cons ?_ ?_
            · intro K vs W hR hD hK
              have dq4 : vs 4 = .bool false := hD 4 (by decide)
              clear hD
              try dsimp only at hK ⊢
              simp only [Act.put, List.setIfInBounds_toArray, List.set_cons_succ, List.set_cons_zero] at hK
              generalize vs 4 = vq4 at hK dq4 ⊢
              subst vq4
              go_wp2
              exact hK _ _ rfl (Mod.refl _ _)
            refine opsOkA_cons ?_ ?_
            · intro K vs W hR hD hK
              have dq10 : vs 10 = undef := hD 10 (by decide)
              clear hD
              try dsimp only at hK ⊢
              simp only [Act.put, List.setIfInBounds_toArray, List.set_cons_succ, List.set_cons_zero] at hK
              generalize vs 10 = vq10 at hK dq10 ⊢
              subst vq10
              go_wp2
              exact hK _ _ rfl (Mod.refl _ _)
            refine opsOkA_cons ?_ ?_
            · intro K vs W hR hD hK
              have dq10 : vs 10 = undef := hD 10 (by decide)
              clear hD
              try dsimp only at hK ⊢
              simp only [Act.put, List.setIfInBounds_toArray, List.set_cons_succ, List.set_cons_zero] at hK
              generalize vs 10 = vq10 at hK dq10 ⊢
              subst vq10
              go_wp2
              exact hK _ _ rfl (Mod.refl _ _)
            refine opsOkA_cons ?_ ?_
            · intro K vs W hR hD hK
              have dq10 : vs 10 = undef := hD 10 (by decide)
              clear hD
              try dsimp only at hK ⊢
              simp only [Act.put, List.setIfInBounds_toArray, List.set_cons_succ, List.set_cons_zero] at hK
              generalize vs 10 = vq10 at hK dq10 ⊢
              subst vq10
              go_wp2
              exact hK _ _ rfl (Mod.refl _ _)
            refine opsOkA_cons ?_ ?_
            · intro K vs W hR hD hK
              have dq10 : vs 10 = undef := hD 10 (by decide)
              clear hD
              try dsimp only at hK ⊢
              simp only [Act.put, List.setIfInBounds_toArray, List.set_cons_succ, List.set_cons_zero] at hK
              generalize vs 10 = vq10 at hK dq10 ⊢
              subst vq10
              go_wp2
              exact hK _ _ rfl (Mod.refl _ _)
            refine opsOkA_cons ?_ ?_
            · intro K vs W hR hD hK
              have dq10 : vs 10 = undef := hD 10 (by decide)
              clear hD
              try dsimp only at hK ⊢
              simp only [Act.put, List.setIfInBounds_toArray, List.set_cons_succ, List.set_cons_zero] at hK
              generalize vs 10 = vq10 at hK dq10 ⊢
              subst vq10
              go_wp2
              exact hK _ _ rfl (Mod.refl _ _)
            refine opsOkA_cons ?_ ?_
            · intro K vs W hR hD hK
              have dq10 : vs 10 = undef := hD 10 (by decide)
              clear hD
              try dsimp only at hK ⊢
              simp only [Act.put, List.setIfInBounds_toArray, List.set_cons_succ, List.set_cons_zero] at hK
              generalize vs 10 = vq10 at hK dq10 ⊢
              subst vq10
              go_wp2_with fail
              exact hK _ _ rfl (Mod.refl _ _)
            refine opsOkA_cons ?_ ?_
            · intro K vs W hR hD hK
              have dq10 : vs 10 = undef := hD 10 (by decide)
              clear hD
              try dsimp only at hK ⊢
              simp only [Act.put, List.setIfInBounds_toArray, List.set_cons_succ, List.set_cons_zero] at hK
              generalize vs 10 = vq10 at hK dq10 ⊢
              subst vq10
              go_wp2
              exact hK _ _ rfl (Mod.refl _ _)
            refine opsOkA_cons ?_ ?_
            · intro K vs W hR hD hK
              have dq10 : vs 10 = undef := hD 10 (by decide)
              clear hD
              try dsimp only at hK ⊢
              simp only [Act.put, List.setIfInBounds_toArray, List.set_cons_succ, List.set_cons_zero] at hK
              generalize vs 10 = vq10 at hK dq10 ⊢
              subst vq10
              go_wp2_with fail
              exact hK _ _ rfl (Mod.refl _ _)
            refine opsOkA_cons ?_ ?_
            · intro K vs W hR hD hK
              have dq4 : vs 4 = .bool false := hD 4 (by decide)
              clear hD
              try dsimp only at hK ⊢
              simp only [Act.put, List.setIfInBounds_toArray, List.set_cons_succ, List.set_cons_zero] at hK
              generalize vs 4 = vq4 at hK dq4 ⊢
              subst vq4
              go_wp2
              exact hK _ _ rfl (Mod.refl _ _)
            refine opsOkA_cons ?_ ?_
            · intro K vs W hR hD hK
              have dq4 : vs 4 = .bool false := hD 4 (by decide)
              have dq19 : vs 19 = undef := hD 19 (by decide)
              clear hD
              try dsimp only at hK ⊢
              simp only [Act.put, List.setIfInBounds_toArray, List.set_cons_succ, List.set_cons_zero] at hK
              generalize vs 4 = vq4 at hK dq4 ⊢
              subst vq4
              generalize vs 19 = vq19 at hK dq19 ⊢
              subst vq19
              go_wp2
              exact hK _ _ rfl (Mod.refl _ _)
            refine opsOkA_cons ?_ ?_
            · intro K vs W hR hD hK
              have dq20 : vs 20 = .bool false := hD 20 (by decide)
              clear hD
              try dsimp only at hK ⊢
              simp only [Act.put, List.setIfInBounds_toArray, List.set_cons_succ, List.set_cons_zero] at hK
              generalize vs 20 = vq20 at hK dq20 ⊢
              subst vq20
              go_wp2
              exact hK _ _ rfl (Mod.refl _ _)
            exact opsOkA_nil
          · intro vs wq20 hR hF
            have dq21 : vs 21 = .bool false := hF 21 (by decide)
            clear hF
            try dsimp only
            generalize vs 21 = vq21 at dq21 ⊢
            subst dq21
            replace HS := Lib.hid (HSd.out.step hR)
            clear HSd hR
            have hbbg := (HS.out.now).2.2.2.1
            have qbg_0 := hbbg.cell 0 rfl
            have qbg_1 := hbbg.cell 1 rfl
            have qbg_2 := hbbg.cell 2 rfl
            have lbg := hbbg.lt
            clear hbbg
            go_wp2_with fail
            replace HS := Lib.hid ((Ev.mod wq20).and HS.out)
            go_loopw [19, 20] (fun s i wr => ∃ (i0 : Nat) (s0 : Int), i0 ≤ lw ∧ i = .int .i64 i0 ∧ s = .int .i64 s0 ∧ s0 = wS G (ws.take i0) ∧ Mod (fun _ => False) wq20 wr) (fun s i _ => lw - (intOf i).toNat)
            case atStart => exact ⟨0, 0, by omega, rfl, rfl, rfl, Mod.refl _ _⟩
            case round =>
              obtain ⟨i0, s0, hi0, rfl, rfl, hs, hmr⟩ := hrel
              obtain ⟨wl, hwo⟩ : ∃ x : World, x = wr := ⟨_, rfl⟩
              subst hwo
              replace HS := Lib.hid (HS.out.step hmr)
              clear hmr
              clear qbg_0 qbg_1 qbg_2 lbg
              have hbbg := (HS.out.now).2.2.2.2.1
              have qbg_0 := hbbg.cell 0 rfl
              have qbg_1 := hbbg.cell 1 rfl
              have qbg_2 := hbbg.cell 2 rfl
              have lbg := hbbg.lt
              clear hbbg
              have hat : allE G (ws.take i0) = true := by have h := allE_append G (ws.take i0) (ws.drop i0); rw [List.take_append_drop, A3.out] at h; exact (Bool.and_eq_true_iff.1 h.symm).1
              have hsb := wS_le G hmay.out (ws.take i0) hat
              rw [← hs] at hsb
              have hl40 : (ws.take i0).length ≤ 40 := by have := List.length_take_le i0 ws; omega
              have hs1 := hsb.1
              have hs2 : s0 ≤ 2621400 := by have := hsb.2; omega
              have HSUM := Lib.hid hs
              clear hs hat hsb hl40
              by_cases hlt : i0 < lw
              case pos =>
                have hil : i0 < ws.length := by rw [HLW.out]; exact hlt
                have z0 : decide ((i0 : Int) < (lw : Int)) = true := by simp; omega
                have ht2 := Lib.hid (wS_take G ws i0 hil)
                have hxe : edB G ws[i0] = true := by have h := A3.out; unfold allE at h; exact List.all_eq_true.1 h _ (List.getElem_mem hil)
                have hz := wt_le G hmay.out _ hxe
                obtain ⟨xi, HXI0⟩ : ∃ qz, ws[i0] = qz := ⟨_, rfl⟩
                have HXI := Lib.hid HXI0
                clear HXI0
                rw [HXI.out] at hxe hz ht2
                obtain ⟨zi, HZI0⟩ : ∃ qz, (eAt G xi).2.2 = qz := ⟨_, rfl⟩
                have HZI := Lib.hid HZI0
                clear HZI0
                rw [HZI.out] at hz ht2
                have hz1 := hz.1
                have hz2 := hz.2
                have A1 : Hid (allE G [xi] = true) := Lib.hid (by unfold allE; simp [hxe])
                have W1 : Hid (wtN G [xi] = zi) := Lib.hid (by unfold wtN; rw [A1.out, if_pos rfl]; simp [wS, HZI.out])
                clear hz hxe
                obtain ⟨hb, ho, hpl, e0⟩ := rd1 (HS.out.now).2.2.2.1 i0 hil
                have hix := fun wx => run_indexS (P := Try.prog) wx 22 3 iI 1 Try.underlying22 hiI hsI aw lw cw i0 hlt ((HS.out.now).2.2.2.1.some_ (by have := hlt; omega))
                rw [hpl] at hix
                have HIh := Lib.hid hix
                clear hix hpl
                rw [HXI.out] at e0
                replace HS := Lib.hid ((Ev.cell e0).and HS.out)
                clear e0
                have qh := (HS.out.now).1
                have hix := HIh.out
                go_wp2_with fail
                clear qbg_0 qbg_1 qbg_2 lbg
                refine (wweight_any t p B C G hmay.out _ (((HS.out.now).2.2.2.2.2.2.1).keep (Mod.alloc _ _ _)) _ 1 _ [xi] rfl (Rd.lit 3 [.int .i64 xi] (0, 0) _ 1 rfl rfl (by decide)) (by omega)).mono ?_
                rintro e wq21 ⟨rfl, hm⟩
                replace HS := Lib.hid (HS.out.step ((Mod.alloc (fun _ => False) _ _).of2 hm))
                clear hm qh hix
                rw [A1.out, W1.out]
                go_wp2_with fail
                go_roundw
                case rel => exact ⟨i0 + 1, s0 + zi, hlt, by go_num, by go_num, by rw [ht2.out, ← HSUM.out], (HS.out.now).2.1⟩
                case measure => simp [intOf]; omega
              case neg =>
                obtain rfl : i0 = lw := by omega
                have z0 : decide ((i0 : Int) < (i0 : Int)) = false := by simp
                have W3 : Hid (wtN G ws = s0) := Lib.hid (by unfold wtN; rw [A3.out, if_pos rfl, HSUM.out, List.take_of_length_le (by rw [HLW.out]; exact Nat.le_refl _)])
                go_wp2_with fail
                refine (wweight_any t p B C G hmay.out _ ((HS.out.now).2.2.2.2.2.1) aw i0 cw ws HLW.out ((HS.out.now).2.2.2.1) (by omega)).mono ?_
                rintro e wq22 ⟨rfl, hmm⟩
                replace HS := Lib.hid (HS.out.step hmm)
                clear hmm
                clear qbg_0 qbg_1 qbg_2 lbg
                have hbbg := (HS.out.now).2.2.2.2.1
                have qbg_0 := hbbg.cell 0 rfl
                have qbg_1 := hbbg.cell 1 rfl
                have qbg_2 := hbbg.cell 2 rfl
                have lbg := hbbg.lt
                clear hbbg
                rw [W3.out, A3.out]
                go_wp2_with fail
                refine (wend_any t p B C G _ ((HS.out.now).2.2.2.2.2.1) (er : Int) _ i0 rc (ws.set kk odd) LX.out ((HS.out.now).2.2.1) (by omega)).mono ?_
                rintro e wq23 ⟨rfl, hmm⟩
                replace HS := Lib.hid (HS.out.step hmm)
                clear hmm
                clear qbg_0 qbg_1 qbg_2 lbg
                have hbbg := (HS.out.now).2.2.2.2.1
                have qbg_0 := hbbg.cell 0 rfl
                have qbg_1 := hbbg.cell 1 rfl
                have qbg_2 := hbbg.cell 2 rfl
                have lbg := hbbg.lt
                clear hbbg
                rw [VX.out]
                go_wp2_with fail
                refine (wvalid_any t p B C G _ ((HS.out.now).2.2.2.2.2.1) (er : Int) _ i0 rc (ws.set kk odd) LX.out ((HS.out.now).2.2.1) (by omega)).mono ?_
                rintro e wq24 ⟨rfl, hmm⟩
                replace HS := Lib.hid (HS.out.step hmm)
                clear hmm
                clear qbg_0 qbg_1 qbg_2 lbg
                have hbbg := (HS.out.now).2.2.2.2.1
                have qbg_0 := hbbg.cell 0 rfl
                have qbg_1 := hbbg.cell 1 rfl
                have qbg_2 := hbbg.cell 2 rfl
                have lbg := hbbg.lt
                clear hbbg
                rw [VX.out]
                simp only [Bool.true_and, Bool.false_and, Bool.and_true, Bool.and_false]
                go_wp2_with fail
                refine (awake8_any _).mono ?_
                rintro e wq25 ⟨rfl, hmm⟩
                replace HS := Lib.hid (HS.out.step hmm)
                clear hmm
                clear qbg_0 qbg_1 qbg_2 lbg
                have hbbg := (HS.out.now).2.2.2.2.1
                have qbg_0 := hbbg.cell 0 rfl
                have qbg_1 := hbbg.cell 1 rfl
                have qbg_2 := hbbg.cell 2 rfl
                have lbg := hbbg.lt
                clear hbbg
                go_wp2_with fail
                go_ret
                exact ⟨rfl, (HS.out.now).2.2.2.2.2.2.2.2.2⟩
        | true =>
          go_upto_region 16 with fail
          clear qbg_0 qbg_1 qbg_2 lbg
          have HSd := Lib.hid HS.out.drew
          refine wp_region_inv3 (act := ?actwb_r16_3) (Mod (fun _ => False)) (fun i => (wb_r16_3_F odd a1 a2 a3 n1 d1 n2 d2 n3 d3 lw cw aw kk md).getD i (fun _ _ => True)) (fun i => wb_r16_3_D.getD i []) (by kernel_rfl) (by kernel_rfl) (by kernel_rfl) (by kernel_rfl) (fun _ => Mod.refl _ _)
            (fun _ _ _ h k => h.trans k (fun _ _ e => e) (fun _ _ e => e)) ?hactwb_r16_3 (stable_list ?_) ?_ ?_
          case hactwb_r16_3 => intro vs; simp only [putAll, Nat.zero_add, Nat.reduceAdd, Act.put, List.setIfInBounds_toArray, List.set_cons_succ, List.set_cons_zero]; exact rfl
          · unfold wb_r16_3_F
            exact stable_cons (stable_val _) <| stable_cons (stable_val _) <| stable_cons (stable_val _) <| stable_cons (stable_val _) <| stable_cons (stable_val _) <| stable_cons (stable_val _) <| stable_cons (stable_val _) <| stable_cons (stable_val _) <| stable_cons (stable_val _) <| stable_cons (stable_val _) <| stable_cons (stable_val _) <| stable_cons (stable_val _) <| stable_cons (stable_val _) <| stable_cons (stable_val _) <| stable_cons (stable_val _) <| stable_cons (stable_val _) <| stable_cons (stable_val _) <| stable_cons (stable_val _) <| stable_cons (stable_val _) <| stable_cons (stable_val _) <| stable_cons (stable_val _) <| stable_cons (stable_val _) <| stable_nil
          · refine opsOkA_cons ?_ ?_
            · intro K vs W hR hD hK
              clear hD
              try dsimp only at hK ⊢
              simp only [Act.put, List.setIfInBounds_toArray, List.set_cons_succ, List.set_cons_zero] at hK
              have hbx := (HSd.out.at (hR)).2.2.2.1
              have q0 := hbx.cell 0 rfl
              have q1 := hbx.cell 1 rfl
              have q2 := hbx.cell 2 rfl
              go_wp2
              exact hK _ _ rfl (Mod.refl _ _)
            refine opsOkA_cons ?_ ?_
            · intro K vs W hR hD hK
              clear hD
              try dsimp only at hK ⊢
              simp only [Act.put, List.setIfInBounds_toArray, List.set_cons_succ, List.set_cons_zero] at hK
              go_wp2
              exact hK _ _ rfl (Mod.refl _ _)
            refine opsOkA_cons ?_ ?_
            · intro K vs W hR hD hK
              clear hD
              try dsimp only at hK ⊢
              simp only [Act.put, List.setIfInBounds_toArray, List.set_cons_succ, List.set_cons_zero] at hK
              go_wp2
              exact hK _ _ rfl (Mod.refl _ _)
            refine opsOkA_cons ?_ ?_
            · intro K vs W hR hD hK
              have dq0 : vs 0 = .agg #[.slice a1 n1 d1, .slice a2 n2 d2, .slice a3 n3 d3] := hD 0 (by decide)
              have dq1 : vs 1 = .int .i64 md := hD 1 (by decide)
              have dq2 : vs 2 = .int .i64 odd := hD 2 (by decide)
              clear hD
              try dsimp only at hK ⊢
              simp only [Act.put, List.setIfInBounds_toArray, List.set_cons_succ, List.set_cons_zero] at hK
              generalize vs 0 = vq0 at hK dq0 ⊢
              subst vq0
              generalize vs 1 = vq1 at hK dq1 ⊢
              subst vq1
              generalize vs 2 = vq2 at hK dq2 ⊢
              subst vq2
              go_wp2_with (go_at_call 24; refine (r4turn_any G W a1 n1 d1 a2 n2 d2 a3 n3 d3 ((HSd.out.at (hR)).2.2.2.2.2.1) (by omega) (by omega) md odd).mono ?_; rintro e' w' ⟨rfl, hm'⟩; rw [HB1.out])
              exact hK _ _ rfl hm'
            refine opsOkA_cons ?_ ?_
            · intro K vs W hR hD hK
              have dq3 : vs 3 = .bool true := hD 3 (by decide)
              clear hD
              try dsimp only at hK ⊢
              simp only [Act.put, List.setIfInBounds_toArray, List.set_cons_succ, List.set_cons_zero] at hK
              generalize vs 3 = vq3 at hK dq3 ⊢
              subst vq3
              go_wp2
              exact hK _ _ rfl (Mod.refl _ _)
            refine opsOkA_cons ?_ ?_
            · intro K vs W hR hD hK
              have dq4 : vs 4 = .bool true := hD 4 (by decide)
              clear hD
              try dsimp only at hK ⊢
              simp only [Act.put, List.setIfInBounds_toArray, List.set_cons_succ, List.set_cons_zero] at hK
              generalize vs 4 = vq4 at hK dq4 ⊢
              subst vq4
              go_wp2
              exact hK _ _ rfl (Mod.refl _ _)
            refine opsOkA_cons ?_ ?_
            · intro K vs W hR hD hK
              have dq4 : vs 4 = .bool true := hD 4 (by decide)
              clear hD
              try dsimp only at hK ⊢
              simp only [Act.put, List.setIfInBounds_toArray, List.set_cons_succ, List.set_cons_zero] at hK
              generalize vs 4 = vq4 at hK dq4 ⊢
              subst vq4
              go_wp2
              exact hK _ _ rfl (Mod.refl _ _)
            refine opsOkA_cons ?_ ?_
            · intro K vs W hR hD hK
              have dq4 : vs 4 = .bool true := hD 4 (by decide)
              have dq6 : vs 6 = .slice aw lw cw := hD 6 (by decide)
              clear hD
              try dsimp only at hK ⊢
              simp only [Act.put, List.setIfInBounds_toArray, List.set_cons_succ, List.set_cons_zero] at hK
              generalize vs 4 = vq4 at hK dq4 ⊢
              subst vq4
              generalize vs 6 = vq6 at hK dq6 ⊢
              subst vq6
              go_wp2_with fail
              exact hK _ _ rfl (Mod.refl _ _)
            refine opsOkA_cons ?_ ?_
            · intro K vs W hR hD hK
              have dq4 : vs 4 = .bool true := hD 4 (by decide)
              have dq7 : vs 7 = .int .i64 (lw : Int) := hD 7 (by decide)
              clear hD
              try dsimp only at hK ⊢
              simp only [Act.put, List.setIfInBounds_toArray, List.set_cons_succ, List.set_cons_zero] at hK
              generalize vs 4 = vq4 at hK dq4 ⊢
              subst vq4
              generalize vs 7 = vq7 at hK dq7 ⊢
              subst vq7
              go_wp2
              exact hK _ _ rfl (Mod.refl _ _)
            refine opsOkA_cons ?_ ?_
            · intro K vs W hR hD hK
              have dq4 : vs 4 = .bool true := hD 4 (by decide)
              have dq5 : vs 5 = .int .i64 (kk : Int) := hD 5 (by decide)
              have dq8 : vs 8 = .int .i64 ((lw : Int) - 1) := hD 8 (by decide)
              clear hD
              try dsimp only at hK ⊢
              simp only [Act.put, List.setIfInBounds_toArray, List.set_cons_succ, List.set_cons_zero] at hK
              generalize vs 4 = vq4 at hK dq4 ⊢
              subst vq4
              generalize vs 5 = vq5 at hK dq5 ⊢
              subst vq5
              generalize vs 8 = vq8 at hK dq8 ⊢
              subst vq8
              go_wp2
              exact hK _ _ rfl (Mod.refl _ _)
            refine opsOkA_cons ?_ ?_
            · intro K vs W hR hD hK
              have dq4 : vs 4 = .bool true := hD 4 (by decide)
              have dq9 : vs 9 = .bool true := hD 9 (by decide)
              clear hD
              try dsimp only at hK ⊢
              simp only [Act.put, List.setIfInBounds_toArray, List.set_cons_succ, List.set_cons_zero] at hK
              generalize vs 4 = vq4 at hK dq4 ⊢
              subst vq4
              generalize vs 9 = vq9 at hK dq9 ⊢
              subst vq9
              go_wp2
              exact hK _ _ rfl (Mod.refl _ _)
            refine opsOkA_cons ?_ ?_
            · intro K vs W hR hD hK
              have dq10 : vs 10 = .bool true := hD 10 (by decide)
              clear hD
              try dsimp only at hK ⊢
              simp only [Act.put, List.setIfInBounds_toArray, List.set_cons_succ, List.set_cons_zero] at hK
              generalize vs 10 = vq10 at hK dq10 ⊢
              subst vq10
              go_wp2
              exact hK _ _ rfl (Mod.refl _ _)
            refine opsOkA_cons ?_ ?_
            · intro K vs W hR hD hK
              have dq10 : vs 10 = .bool true := hD 10 (by decide)
              clear hD
              try dsimp only at hK ⊢
              simp only [Act.put, List.setIfInBounds_toArray, List.set_cons_succ, List.set_cons_zero] at hK
              generalize vs 10 = vq10 at hK dq10 ⊢
              subst vq10
              go_wp2
              exact hK _ _ rfl (Mod.refl _ _)
            refine opsOkA_cons ?_ ?_
            · intro K vs W hR hD hK
              have dq10 : vs 10 = .bool true := hD 10 (by decide)
              clear hD
              try dsimp only at hK ⊢
              simp only [Act.put, List.setIfInBounds_toArray, List.set_cons_succ, List.set_cons_zero] at hK
              generalize vs 10 = vq10 at hK dq10 ⊢
              subst vq10
              go_wp2
              exact hK _ _ rfl (Mod.refl _ _)
            refine opsOkA_cons ?_ ?_
            · intro K vs W hR hD hK
              have dq10 : vs 10 = .bool true := hD 10 (by decide)
              clear hD
              try dsimp only at hK ⊢
              simp only [Act.put, List.setIfInBounds_toArray, List.set_cons_succ, List.set_cons_zero] at hK
              generalize vs 10 = vq10 at hK dq10 ⊢
              subst vq10
              go_wp2
              exact hK _ _ rfl (Mod.refl _ _)
            refine opsOkA_cons ?_ ?_
            · intro K vs W hR hD hK
              have dq10 : vs 10 = .bool true := hD 10 (by decide)
              clear hD
              try dsimp only at hK ⊢
              simp only [Act.put, List.setIfInBounds_toArray, List.set_cons_succ, List.set_cons_zero] at hK
              generalize vs 10 = vq10 at hK dq10 ⊢
              subst vq10
              go_wp2
              exact hK _ _ rfl (Mod.refl _ _)
            refine opsOkA_cons ?_ ?_
            · intro K vs W hR hD hK
              have dq10 : vs 10 = .bool true := hD 10 (by decide)
              clear hD
              try dsimp only at hK ⊢
              simp only [Act.put, List.setIfInBounds_toArray, List.set_cons_succ, List.set_cons_zero] at hK
              generalize vs 10 = vq10 at hK dq10 ⊢
              subst vq10
              go_wp2_with fail
              exact hK _ _ rfl (Mod.refl _ _)
            refine opsOkA_cons ?_ ?_
            · intro K vs W hR hD hK
              have dq10 : vs 10 = .bool true := hD 10 (by decide)
              clear hD
              try dsimp only at hK ⊢
              simp only [Act.put, List.setIfInBounds_toArray, List.set_cons_succ, List.set_cons_zero] at hK
              generalize vs 10 = vq10 at hK dq10 ⊢
              subst vq10
              go_wp2
              exact hK _ _ rfl (Mod.refl _ _)
            refine opsOkA_cons ?_ ?_
            · intro K vs W hR hD hK
              have dq10 : vs 10 = .bool true := hD 10 (by decide)
              clear hD
              try dsimp only at hK ⊢
              simp only [Act.put, List.setIfInBounds_toArray, List.set_cons_succ, List.set_cons_zero] at hK
              generalize vs 10 = vq10 at hK dq10 ⊢
              subst vq10
              go_wp2_with fail
              exact hK _ _ rfl (Mod.refl _ _)
            refine opsOkA_cons ?_ ?_
            · intro K vs W hR hD hK
              have dq4 : vs 4 = .bool true := hD 4 (by decide)
              have dq10 : vs 10 = .bool true := hD 10 (by decide)
              have dq18 : vs 18 = undef := hD 18 (by decide)
              clear hD
              try dsimp only at hK ⊢
              simp only [Act.put, List.setIfInBounds_toArray, List.set_cons_succ, List.set_cons_zero] at hK
              generalize vs 4 = vq4 at hK dq4 ⊢
              subst vq4
              generalize vs 10 = vq10 at hK dq10 ⊢
              subst vq10
              generalize vs 18 = vq18 at hK dq18 ⊢
              subst vq18
              go_wp2
              exact hK _ _ rfl (Mod.refl _ _)
            refine opsOkA_cons ?_ ?_
            · intro K vs W hR hD hK
              have dq4 : vs 4 = .bool true := hD 4 (by decide)
              have dq19 : vs 19 = .bool true := hD 19 (by decide)
              clear hD
              try dsimp only at hK ⊢
              simp only [Act.put, List.setIfInBounds_toArray, List.set_cons_succ, List.set_cons_zero] at hK
              generalize vs 4 = vq4 at hK dq4 ⊢
              subst vq4
              generalize vs 19 = vq19 at hK dq19 ⊢
              subst vq19
              go_wp2
              exact hK _ _ rfl (Mod.refl _ _)
            refine opsOkA_cons ?_ ?_
            · intro K vs W hR hD hK
              have dq20 : vs 20 = .bool true := hD 20 (by decide)
              clear hD
              try dsimp only at hK ⊢
              simp only [Act.put, List.setIfInBounds_toArray, List.set_cons_succ, List.set_cons_zero] at hK
              generalize vs 20 = vq20 at hK dq20 ⊢
              subst vq20
              go_wp2
              exact hK _ _ rfl (Mod.refl _ _)
            exact opsOkA_nil
          · intro vs wq26 hR hF
            have dq21 : vs 21 = .bool true := hF 21 (by decide)
            clear hF
            try dsimp only
            generalize vs 21 = vq21 at dq21 ⊢
            subst dq21
            replace HS := Lib.hid (HSd.out.step hR)
            clear HSd hR
            have hbbg := (HS.out.now).2.2.2.1
            have qbg_0 := hbbg.cell 0 rfl
            have qbg_1 := hbbg.cell 1 rfl
            have qbg_2 := hbbg.cell 2 rfl
            have lbg := hbbg.lt
            clear hbbg
            go_wp2_with fail
            replace HS := Lib.hid ((Ev.mod wq26).and HS.out)
            go_loopw [19, 20] (fun s i wr => ∃ (i0 : Nat) (s0 : Int), i0 ≤ lw ∧ i = .int .i64 i0 ∧ s = .int .i64 s0 ∧ s0 = wS G (ws.take i0) ∧ Mod (fun _ => False) wq26 wr) (fun s i _ => lw - (intOf i).toNat)
            case atStart => exact ⟨0, 0, by omega, rfl, rfl, rfl, Mod.refl _ _⟩
            case round =>
              obtain ⟨i0, s0, hi0, rfl, rfl, hs, hmr⟩ := hrel
              obtain ⟨wl, hwo⟩ : ∃ x : World, x = wr := ⟨_, rfl⟩
              subst hwo
              replace HS := Lib.hid (HS.out.step hmr)
              clear hmr
              clear qbg_0 qbg_1 qbg_2 lbg
              have hbbg := (HS.out.now).2.2.2.2.1
              have qbg_0 := hbbg.cell 0 rfl
              have qbg_1 := hbbg.cell 1 rfl
              have qbg_2 := hbbg.cell 2 rfl
              have lbg := hbbg.lt
              clear hbbg
              have hat : allE G (ws.take i0) = true := by have h := allE_append G (ws.take i0) (ws.drop i0); rw [List.take_append_drop, A3.out] at h; exact (Bool.and_eq_true_iff.1 h.symm).1
              have hsb := wS_le G hmay.out (ws.take i0) hat
              rw [← hs] at hsb
              have hl40 : (ws.take i0).length ≤ 40 := by have := List.length_take_le i0 ws; omega
              have hs1 := hsb.1
              have hs2 : s0 ≤ 2621400 := by have := hsb.2; omega
              have HSUM := Lib.hid hs
              clear hs hat hsb hl40
              by_cases hlt : i0 < lw
              case pos =>
                have hil : i0 < ws.length := by rw [HLW.out]; exact hlt
                have z0 : decide ((i0 : Int) < (lw : Int)) = true := by simp; omega
                have ht2 := Lib.hid (wS_take G ws i0 hil)
                have hxe : edB G ws[i0] = true := by have h := A3.out; unfold allE at h; exact List.all_eq_true.1 h _ (List.getElem_mem hil)
                have hz := wt_le G hmay.out _ hxe
                obtain ⟨xi, HXI0⟩ : ∃ qz, ws[i0] = qz := ⟨_, rfl⟩
                have HXI := Lib.hid HXI0
                clear HXI0
                rw [HXI.out] at hxe hz ht2
                obtain ⟨zi, HZI0⟩ : ∃ qz, (eAt G xi).2.2 = qz := ⟨_, rfl⟩
                have HZI := Lib.hid HZI0
                clear HZI0
                rw [HZI.out] at hz ht2
                have hz1 := hz.1
                have hz2 := hz.2
                have A1 : Hid (allE G [xi] = true) := Lib.hid (by unfold allE; simp [hxe])
                have W1 : Hid (wtN G [xi] = zi) := Lib.hid (by unfold wtN; rw [A1.out, if_pos rfl]; simp [wS, HZI.out])
                clear hz hxe
                obtain ⟨hb, ho, hpl, e0⟩ := rd1 (HS.out.now).2.2.2.1 i0 hil
                have hix := fun wx => run_indexS (P := Try.prog) wx 22 3 iI 1 Try.underlying22 hiI hsI aw lw cw i0 hlt ((HS.out.now).2.2.2.1.some_ (by have := hlt; omega))
                rw [hpl] at hix
                have HIh := Lib.hid hix
                clear hix hpl
                rw [HXI.out] at e0
                replace HS := Lib.hid ((Ev.cell e0).and HS.out)
                clear e0
                have qh := (HS.out.now).1
                have hix := HIh.out
                go_wp2_with fail
                clear qbg_0 qbg_1 qbg_2 lbg
                refine (wweight_any t p B C G hmay.out _ (((HS.out.now).2.2.2.2.2.2.1).keep (Mod.alloc _ _ _)) _ 1 _ [xi] rfl (Rd.lit 3 [.int .i64 xi] (0, 0) _ 1 rfl rfl (by decide)) (by omega)).mono ?_
                rintro e wq27 ⟨rfl, hm⟩
                replace HS := Lib.hid (HS.out.step ((Mod.alloc (fun _ => False) _ _).of2 hm))
                clear hm qh hix
                rw [A1.out, W1.out]
                go_wp2_with fail
                go_roundw
                case rel => exact ⟨i0 + 1, s0 + zi, hlt, by go_num, by go_num, by rw [ht2.out, ← HSUM.out], (HS.out.now).2.1⟩
                case measure => simp [intOf]; omega
              case neg =>
                obtain rfl : i0 = lw := by omega
                have z0 : decide ((i0 : Int) < (i0 : Int)) = false := by simp
                have W3 : Hid (wtN G ws = s0) := Lib.hid (by unfold wtN; rw [A3.out, if_pos rfl, HSUM.out, List.take_of_length_le (by rw [HLW.out]; exact Nat.le_refl _)])
                go_wp2_with fail
                refine (wweight_any t p B C G hmay.out _ ((HS.out.now).2.2.2.2.2.1) aw i0 cw ws HLW.out ((HS.out.now).2.2.2.1) (by omega)).mono ?_
                rintro e wq28 ⟨rfl, hmm⟩
                replace HS := Lib.hid (HS.out.step hmm)
                clear hmm
                clear qbg_0 qbg_1 qbg_2 lbg
                have hbbg := (HS.out.now).2.2.2.2.1
                have qbg_0 := hbbg.cell 0 rfl
                have qbg_1 := hbbg.cell 1 rfl
                have qbg_2 := hbbg.cell 2 rfl
                have lbg := hbbg.lt
                clear hbbg
                rw [W3.out, A3.out]
                go_wp2_with fail
                refine (wend_any t p B C G _ ((HS.out.now).2.2.2.2.2.1) (er : Int) _ i0 rc (ws.set kk odd) LX.out ((HS.out.now).2.2.1) (by omega)).mono ?_
                rintro e wq29 ⟨rfl, hmm⟩
                replace HS := Lib.hid (HS.out.step hmm)
                clear hmm
                clear qbg_0 qbg_1 qbg_2 lbg
                have hbbg := (HS.out.now).2.2.2.2.1
                have qbg_0 := hbbg.cell 0 rfl
                have qbg_1 := hbbg.cell 1 rfl
                have qbg_2 := hbbg.cell 2 rfl
                have lbg := hbbg.lt
                clear hbbg
                rw [VX.out]
                go_wp2_with fail
                refine (wvalid_any t p B C G _ ((HS.out.now).2.2.2.2.2.1) (er : Int) _ i0 rc (ws.set kk odd) LX.out ((HS.out.now).2.2.1) (by omega)).mono ?_
                rintro e wq30 ⟨rfl, hmm⟩
                replace HS := Lib.hid (HS.out.step hmm)
                clear hmm
                clear qbg_0 qbg_1 qbg_2 lbg
                have hbbg := (HS.out.now).2.2.2.2.1
                have qbg_0 := hbbg.cell 0 rfl
                have qbg_1 := hbbg.cell 1 rfl
                have qbg_2 := hbbg.cell 2 rfl
                have lbg := hbbg.lt
                clear hbbg
                rw [VX.out]
                simp only [Bool.true_and, Bool.false_and, Bool.and_true, Bool.and_false]
                go_wp2_with fail
                refine (awake8_any _).mono ?_
                rintro e wq31 ⟨rfl, hmm⟩
                replace HS := Lib.hid (HS.out.step hmm)
                clear hmm
                clear qbg_0 qbg_1 qbg_2 lbg
                have hbbg := (HS.out.now).2.2.2.2.1
                have qbg_0 := hbbg.cell 0 rfl
                have qbg_1 := hbbg.cell 1 rfl
                have qbg_2 := hbbg.cell 2 rfl
                have lbg := hbbg.lt
                clear hbbg
                go_wp2_with fail
                go_ret
                exact ⟨rfl, (HS.out.now).2.2.2.2.2.2.2.2.2⟩
    case neg =>
      have hmd : md = (er : Int) := by rw [← HMD.out, show kk = 0 by omega]; rfl
      subst hmd
      have z0 : decide ((0 : Int) < (kk : Int)) = false := by simp; omega
      go_upto_region 16 with fail
      clear z0
      by_cases hlast : kk + 1 < lw
      case pos =>
        have hk1l : kk + 1 < ws.length := by rw [HLW.out]; exact hlast
        have hb2t : turnB G odd ws[kk + 1] = b2 := by have h := HB2.out; rw [dif_pos hk1l] at h; exact h
        obtain ⟨k2, hk2⟩ : ∃ k2, kk + 1 = k2 := ⟨_, rfl⟩
        have hk2l : k2 < ws.length := by rw [← hk2]; exact hk1l
        have hk2w : k2 < lw := by omega
        have hwe : ws[kk + 1] = ws[k2] := by simp only [hk2]
        rw [hwe] at hb2t
        have zk : (kk : Int) + 1 = (k2 : Int) := by omega
        have ze : ((kk : Int) == (lw : Int) - 1) = false := beq_eq_false_iff_ne.2 (by omega)
        clear hwe hk2
        obtain ⟨yx, HYX0⟩ : ∃ qz, ws[k2] = qz := ⟨_, rfl⟩
        have HYX := Lib.hid HYX0
        clear HYX0
        rw [HYX.out] at hb2t
        have HB2T := Lib.hid hb2t
        clear hb2t
        obtain ⟨gb, go, hpl, e0⟩ := rd1 (HS.out.now).2.1 k2 hk2l
        have hix := fun wx => run_indexS (P := Try.prog) wx 22 3 iI 1 Try.underlying22 hiI hsI aw lw cw k2 hk2w ((HS.out.now).2.1.some_ (by have := hk2w; omega))
        rw [hpl] at hix
        have HIg := Lib.hid hix
        clear hix hpl
        rw [HYX.out] at e0
        replace HS := Lib.hid ((Ev.cell e0).and HS.out)
        clear e0
        cases b1 with
        | false =>
          go_upto_region 16 with fail
          clear qbg_0 qbg_1 qbg_2 lbg
          have HSd := Lib.hid HS.out.drew
          refine wp_region_inv3 (act := ?actwb_r16_4) (Mod (fun _ => False)) (fun i => (wb_r16_4_F odd a1 a2 a3 n1 d1 n2 d2 n3 d3 er).getD i (fun _ _ => True)) (fun i => wb_r16_4_D.getD i []) (by kernel_rfl) (by kernel_rfl) (by kernel_rfl) (by kernel_rfl) (fun _ => Mod.refl _ _)
            (fun _ _ _ h k => h.trans k (fun _ _ e => e) (fun _ _ e => e)) ?hactwb_r16_4 (stable_list ?_) ?_ ?_
          case hactwb_r16_4 => intro vs; simp only [putAll, Nat.zero_add, Nat.reduceAdd, Act.put, List.setIfInBounds_toArray, List.set_cons_succ, List.set_cons_zero]; exact rfl
          · unfold wb_r16_4_F
            exact stable_cons (stable_val _) <| stable_cons (stable_val _) <| stable_cons (stable_val _) <| stable_cons (stable_val _) <| stable_cons (stable_val _) <| stable_cons (stable_val _) <| stable_cons (stable_val _) <| stable_cons (stable_val _) <| stable_cons (stable_val _) <| stable_cons (stable_val _) <| stable_cons (stable_val _) <| stable_cons (stable_val _) <| stable_cons (stable_val _) <| stable_cons (stable_val _) <| stable_cons (stable_val _) <| stable_cons (stable_val _) <| stable_cons (stable_val _) <| stable_cons (stable_val _) <| stable_cons (stable_val _) <| stable_cons (stable_val _) <| stable_cons (stable_val _) <| stable_cons (stable_val _) <| stable_nil
          · refine opsOkA_cons ?_ ?_
            · intro K vs W hR hD hK
              clear hD
              try dsimp only at hK ⊢
              simp only [Act.put, List.setIfInBounds_toArray, List.set_cons_succ, List.set_cons_zero] at hK
              have hbx := (HSd.out.at (hR)).2.2.2.1
              have q0 := hbx.cell 0 rfl
              have q1 := hbx.cell 1 rfl
              have q2 := hbx.cell 2 rfl
              go_wp2
              exact hK _ _ rfl (Mod.refl _ _)
            refine opsOkA_cons ?_ ?_
            · intro K vs W hR hD hK
              clear hD
              try dsimp only at hK ⊢
              simp only [Act.put, List.setIfInBounds_toArray, List.set_cons_succ, List.set_cons_zero] at hK
              go_wp2
              exact hK _ _ rfl (Mod.refl _ _)
            refine opsOkA_cons ?_ ?_
            · intro K vs W hR hD hK
              clear hD
              try dsimp only at hK ⊢
              simp only [Act.put, List.setIfInBounds_toArray, List.set_cons_succ, List.set_cons_zero] at hK
              go_wp2
              exact hK _ _ rfl (Mod.refl _ _)
            refine opsOkA_cons ?_ ?_
            · intro K vs W hR hD hK
              have dq0 : vs 0 = .agg #[.slice a1 n1 d1, .slice a2 n2 d2, .slice a3 n3 d3] := hD 0 (by decide)
              have dq1 : vs 1 = .int .i64 (er : Int) := hD 1 (by decide)
              have dq2 : vs 2 = .int .i64 odd := hD 2 (by decide)
              clear hD
              try dsimp only at hK ⊢
              simp only [Act.put, List.setIfInBounds_toArray, List.set_cons_succ, List.set_cons_zero] at hK
              generalize vs 0 = vq0 at hK dq0 ⊢
              subst vq0
              generalize vs 1 = vq1 at hK dq1 ⊢
              subst vq1
              generalize vs 2 = vq2 at hK dq2 ⊢
              subst vq2
              go_wp2_with (go_at_call 24; refine (r4turn_any G W a1 n1 d1 a2 n2 d2 a3 n3 d3 ((HSd.out.at (hR)).2.2.2.2.2.1) (by omega) (by omega) (er : Int) odd).mono ?_; rintro e' w' ⟨rfl, hm'⟩; rw [HB1.out])
              exact hK _ _ rfl hm'
            refine opsOkA_cons ?_ ?_
            · intro K vs W hR hD hK
              have dq3 : vs 3 = .bool false := hD 3 (by decide)
              clear hD
              try dsimp only at hK ⊢
              simp only [Act.put, List.setIfInBounds_toArray, List.set_cons_succ, List.set_cons_zero] at hK
              generalize vs 3 = vq3 at hK dq3 ⊢
              subst vq3
              go_wp2
              exact hK _ _ rfl (Mod.refl _ _)
            refine opsOkA_cons ?_ ?_
            · intro K vs W hR hD hK
              have dq4 : vs 4 = .bool false := hD 4 (by decide)
              clear hD
              try dsimp only at hK ⊢
              simp only [Act.put, List.setIfInBounds_toArray, List.set_cons_succ, List.set_cons_zero] at hK
              generalize vs 4 = vq4 at hK dq4 ⊢
              subst vq4
              go_wp2
              exact hK _ _ rfl (Mod.refl _ _)
            refine opsOkA_cons ?_ ?_
            · intro K vs W hR hD hK
              have dq4 : vs 4 = .bool false := hD 4 (by decide)
              clear hD
              try dsimp only at hK ⊢
              simp only [Act.put, List.setIfInBounds_toArray, List.set_cons_succ, List.set_cons_zero] at hK
              generalize vs 4 = vq4 at hK dq4 ⊢
              subst vq4
              go_wp2
              exact hK _ _ rfl (Mod.refl _ _)
            refine opsOkA_cons ?_ ?_
            · intro K vs W hR hD hK
              have dq4 : vs 4 = .bool false := hD 4 (by decide)
              clear hD
              try dsimp only at hK ⊢
              simp only [Act.put, List.setIfInBounds_toArray, List.set_cons_succ, List.set_cons_zero] at hK
              generalize vs 4 = vq4 at hK dq4 ⊢
              subst vq4
              go_wp2_with fail
              exact hK _ _ rfl (Mod.refl _ _)
            refine opsOkA_cons ?_ ?_
            · intro K vs W hR hD hK
              have dq4 : vs 4 = .bool false := hD 4 (by decide)
              clear hD
              try dsimp only at hK ⊢
              simp only [Act.put, List.setIfInBounds_toArray, List.set_cons_succ, List.set_cons_zero] at hK
              generalize vs 4 = vq4 at hK dq4 ⊢
              subst vq4
              go_wp2
              exact hK _ _ rfl (Mod.refl _ _)
            refine opsOkA_cons ?_ ?_
            · intro K vs W hR hD hK
              have dq4 : vs 4 = .bool false := hD 4 (by decide)
              clear hD
              try dsimp only at hK ⊢
              simp only [Act.put, List.setIfInBounds_toArray, List.set_cons_succ, List.set_cons_zero] at hK
              generalize vs 4 = vq4 at hK dq4 ⊢
              subst vq4
              go_wp2
              exact hK _ _ rfl (Mod.refl _ _)
            refine opsOkA_cons ?_ ?_
            · intro K vs W hR hD hK
              have dq4 : vs 4 = .bool false := hD 4 (by decide)
              clear hD
              try dsimp only at hK ⊢
              simp only [Act.put, List.setIfInBounds_toArray, List.set_cons_succ, List.set_cons_zero] at hK
              generalize vs 4 = vq4 at hK dq4 ⊢
              subst vq4
              go_wp2
              exact hK _ _ rfl (Mod.refl _ _)
            refine opsOkA_cons ?_ ?_
            · intro K vs W hR hD hK
              have dq10 : vs 10 = undef := hD 10 (by decide)
              clear hD
              try dsimp only at hK ⊢
              simp only [Act.put, List.setIfInBounds_toArray, List.set_cons_succ, List.set_cons_zero] at hK
              generalize vs 10 = vq10 at hK dq10 ⊢
              subst vq10
              go_wp2
              exact hK _ _ rfl (Mod.refl _ _)
            refine opsOkA_cons ?_ ?_
            · intro K vs W hR hD hK
              have dq10 : vs 10 = undef := hD 10 (by decide)
              clear hD
              try dsimp only at hK ⊢
              simp only [Act.put, List.setIfInBounds_toArray, List.set_cons_succ, List.set_cons_zero] at hK
              generalize vs 10 = vq10 at hK dq10 ⊢
              subst vq10
              go_wp2
              exact hK _ _ rfl (Mod.refl _ _)
            refine opsOkA_cons ?_ ?_
            · intro K vs W hR hD hK
              have dq10 : vs 10 = undef := hD 10 (by decide)
              clear hD
              try dsimp only at hK ⊢
              simp only [Act.put, List.setIfInBounds_toArray, List.set_cons_succ, List.set_cons_zero] at hK
              generalize vs 10 = vq10 at hK dq10 ⊢
              subst vq10
              go_wp2
              exact hK _ _ rfl (Mod.refl _ _)
            refine opsOkA_cons ?_ ?_
            · intro K vs W hR hD hK
              have dq10 : vs 10 = undef := hD 10 (by decide)
              clear hD
              try dsimp only at hK ⊢
              simp only [Act.put, List.setIfInBounds_toArray, List.set_cons_succ, List.set_cons_zero] at hK
              generalize vs 10 = vq10 at hK dq10 ⊢
              subst vq10
              go_wp2
              exact hK _ _ rfl (Mod.refl _ _)
            refine opsOkA_cons ?_ ?_
            · intro K vs W hR hD hK
              have dq10 : vs 10 = undef := hD 10 (by decide)
              clear hD
              try dsimp only at hK ⊢
              simp only [Act.put, List.setIfInBounds_toArray, List.set_cons_succ, List.set_cons_zero] at hK
              generalize vs 10 = vq10 at hK dq10 ⊢
              subst vq10
              go_wp2
              exact hK _ _ rfl (Mod.refl _ _)
            refine opsOkA_cons ?_ ?_
            · intro K vs W hR hD hK
              have dq10 : vs 10 = undef := hD 10 (by decide)
              clear hD
              try dsimp only at hK ⊢
              simp only [Act.put, List.setIfInBounds_toArray, List.set_cons_succ, List.set_cons_zero] at hK
              generalize vs 10 = vq10 at hK dq10 ⊢
              subst vq10
              go_wp2_with fail
              exact hK _ _ rfl (Mod.refl _ _)
            refine opsOkA_cons ?_ ?_
            · intro K vs W hR hD hK
              have dq10 : vs 10 = undef := hD 10 (by decide)
              clear hD
              try dsimp only at hK ⊢
              simp only [Act.put, List.setIfInBounds_toArray, List.set_cons_succ, List.set_cons_zero] at hK
              generalize vs 10 = vq10 at hK dq10 ⊢
              subst vq10
              go_wp2
              exact hK _ _ rfl (Mod.refl _ _)
            refine opsOkA_cons ?_ ?_
            · intro K vs W hR hD hK
              have dq10 : vs 10 = undef := hD 10 (by decide)
              clear hD
              try dsimp only at hK ⊢
              simp only [Act.put, List.setIfInBounds_toArray, List.set_cons_succ, List.set_cons_zero] at hK
              generalize vs 10 = vq10 at hK dq10 ⊢
              subst vq10
              go_wp2_with fail
              exact hK _ _ rfl (Mod.refl _ _)
            refine opsOkA_cons ?_ ?_
            · intro K vs W hR hD hK
              have dq4 : vs 4 = .bool false := hD 4 (by decide)
              clear hD
              try dsimp only at hK ⊢
              simp only [Act.put, List.setIfInBounds_toArray, List.set_cons_succ, List.set_cons_zero] at hK
              generalize vs 4 = vq4 at hK dq4 ⊢
              subst vq4
              go_wp2
              exact hK _ _ rfl (Mod.refl _ _)
            refine opsOkA_cons ?_ ?_
            · intro K vs W hR hD hK
              have dq4 : vs 4 = .bool false := hD 4 (by decide)
              have dq19 : vs 19 = undef := hD 19 (by decide)
              clear hD
              try dsimp only at hK ⊢
              simp only [Act.put, List.setIfInBounds_toArray, List.set_cons_succ, List.set_cons_zero] at hK
              generalize vs 4 = vq4 at hK dq4 ⊢
              subst vq4
              generalize vs 19 = vq19 at hK dq19 ⊢
              subst vq19
              go_wp2
              exact hK _ _ rfl (Mod.refl _ _)
            refine opsOkA_cons ?_ ?_
            · intro K vs W hR hD hK
              have dq20 : vs 20 = .bool false := hD 20 (by decide)
              clear hD
              try dsimp only at hK ⊢
              simp only [Act.put, List.setIfInBounds_toArray, List.set_cons_succ, List.set_cons_zero] at hK
              generalize vs 20 = vq20 at hK dq20 ⊢
              subst vq20
              go_wp2
              exact hK _ _ rfl (Mod.refl _ _)
            exact opsOkA_nil
          · intro vs wq32 hR hF
            have dq21 : vs 21 = .bool false := hF 21 (by decide)
            clear hF
            try dsimp only
            generalize vs 21 = vq21 at dq21 ⊢
            subst dq21
            replace HS := Lib.hid (HSd.out.step hR)
            clear HSd hR
            have hbbg := (HS.out.now).2.2.2.1
            have qbg_0 := hbbg.cell 0 rfl
            have qbg_1 := hbbg.cell 1 rfl
            have qbg_2 := hbbg.cell 2 rfl
            have lbg := hbbg.lt
            clear hbbg
            go_wp2_with fail
            replace HS := Lib.hid ((Ev.mod wq32).and HS.out)
            go_loopw [19, 20] (fun s i wr => ∃ (i0 : Nat) (s0 : Int), i0 ≤ lw ∧ i = .int .i64 i0 ∧ s = .int .i64 s0 ∧ s0 = wS G (ws.take i0) ∧ Mod (fun _ => False) wq32 wr) (fun s i _ => lw - (intOf i).toNat)
            case atStart => exact ⟨0, 0, by omega, rfl, rfl, rfl, Mod.refl _ _⟩
            case round =>
              obtain ⟨i0, s0, hi0, rfl, rfl, hs, hmr⟩ := hrel
              obtain ⟨wl, hwo⟩ : ∃ x : World, x = wr := ⟨_, rfl⟩
              subst hwo
              replace HS := Lib.hid (HS.out.step hmr)
              clear hmr
              clear qbg_0 qbg_1 qbg_2 lbg
              have hbbg := (HS.out.now).2.2.2.2.1
              have qbg_0 := hbbg.cell 0 rfl
              have qbg_1 := hbbg.cell 1 rfl
              have qbg_2 := hbbg.cell 2 rfl
              have lbg := hbbg.lt
              clear hbbg
              have hat : allE G (ws.take i0) = true := by have h := allE_append G (ws.take i0) (ws.drop i0); rw [List.take_append_drop, A3.out] at h; exact (Bool.and_eq_true_iff.1 h.symm).1
              have hsb := wS_le G hmay.out (ws.take i0) hat
              rw [← hs] at hsb
              have hl40 : (ws.take i0).length ≤ 40 := by have := List.length_take_le i0 ws; omega
              have hs1 := hsb.1
              have hs2 : s0 ≤ 2621400 := by have := hsb.2; omega
              have HSUM := Lib.hid hs
              clear hs hat hsb hl40
              by_cases hlt : i0 < lw
              case pos =>
                have hil : i0 < ws.length := by rw [HLW.out]; exact hlt
                have z0 : decide ((i0 : Int) < (lw : Int)) = true := by simp; omega
                have ht2 := Lib.hid (wS_take G ws i0 hil)
                have hxe : edB G ws[i0] = true := by have h := A3.out; unfold allE at h; exact List.all_eq_true.1 h _ (List.getElem_mem hil)
                have hz := wt_le G hmay.out _ hxe
                obtain ⟨xi, HXI0⟩ : ∃ qz, ws[i0] = qz := ⟨_, rfl⟩
                have HXI := Lib.hid HXI0
                clear HXI0
                rw [HXI.out] at hxe hz ht2
                obtain ⟨zi, HZI0⟩ : ∃ qz, (eAt G xi).2.2 = qz := ⟨_, rfl⟩
                have HZI := Lib.hid HZI0
                clear HZI0
                rw [HZI.out] at hz ht2
                have hz1 := hz.1
                have hz2 := hz.2
                have A1 : Hid (allE G [xi] = true) := Lib.hid (by unfold allE; simp [hxe])
                have W1 : Hid (wtN G [xi] = zi) := Lib.hid (by unfold wtN; rw [A1.out, if_pos rfl]; simp [wS, HZI.out])
                clear hz hxe
                obtain ⟨hb, ho, hpl, e0⟩ := rd1 (HS.out.now).2.2.2.1 i0 hil
                have hix := fun wx => run_indexS (P := Try.prog) wx 22 3 iI 1 Try.underlying22 hiI hsI aw lw cw i0 hlt ((HS.out.now).2.2.2.1.some_ (by have := hlt; omega))
                rw [hpl] at hix
                have HIh := Lib.hid hix
                clear hix hpl
                rw [HXI.out] at e0
                replace HS := Lib.hid ((Ev.cell e0).and HS.out)
                clear e0
                have qh := (HS.out.now).1
                have hix := HIh.out
                go_wp2_with fail
                clear qbg_0 qbg_1 qbg_2 lbg
                refine (wweight_any t p B C G hmay.out _ (((HS.out.now).2.2.2.2.2.2.1).keep (Mod.alloc _ _ _)) _ 1 _ [xi] rfl (Rd.lit 3 [.int .i64 xi] (0, 0) _ 1 rfl rfl (by decide)) (by omega)).mono ?_
                rintro e wq33 ⟨rfl, hm⟩
                replace HS := Lib.hid (HS.out.step ((Mod.alloc (fun _ => False) _ _).of2 hm))
                clear hm qh hix
                rw [A1.out, W1.out]
                go_wp2_with fail
                go_roundw
                case rel => exact ⟨i0 + 1, s0 + zi, hlt, by go_num, by go_num, by rw [ht2.out, ← HSUM.out], (HS.out.now).2.1⟩
                case measure => simp [intOf]; omega
              case neg =>
                obtain rfl : i0 = lw := by omega
                have z0 : decide ((i0 : Int) < (i0 : Int)) = false := by simp
                have W3 : Hid (wtN G ws = s0) := Lib.hid (by unfold wtN; rw [A3.out, if_pos rfl, HSUM.out, List.take_of_length_le (by rw [HLW.out]; exact Nat.le_refl _)])
                go_wp2_with fail
                refine (wweight_any t p B C G hmay.out _ ((HS.out.now).2.2.2.2.2.1) aw i0 cw ws HLW.out ((HS.out.now).2.2.2.1) (by omega)).mono ?_
                rintro e wq34 ⟨rfl, hmm⟩
                replace HS := Lib.hid (HS.out.step hmm)
                clear hmm
                clear qbg_0 qbg_1 qbg_2 lbg
                have hbbg := (HS.out.now).2.2.2.2.1
                have qbg_0 := hbbg.cell 0 rfl
                have qbg_1 := hbbg.cell 1 rfl
                have qbg_2 := hbbg.cell 2 rfl
                have lbg := hbbg.lt
                clear hbbg
                rw [W3.out, A3.out]
                go_wp2_with fail
                refine (wend_any t p B C G _ ((HS.out.now).2.2.2.2.2.1) (er : Int) _ i0 rc (ws.set kk odd) LX.out ((HS.out.now).2.2.1) (by omega)).mono ?_
                rintro e wq35 ⟨rfl, hmm⟩
                replace HS := Lib.hid (HS.out.step hmm)
                clear hmm
                clear qbg_0 qbg_1 qbg_2 lbg
                have hbbg := (HS.out.now).2.2.2.2.1
                have qbg_0 := hbbg.cell 0 rfl
                have qbg_1 := hbbg.cell 1 rfl
                have qbg_2 := hbbg.cell 2 rfl
                have lbg := hbbg.lt
                clear hbbg
                rw [VX.out]
                go_wp2_with fail
                refine (wvalid_any t p B C G _ ((HS.out.now).2.2.2.2.2.1) (er : Int) _ i0 rc (ws.set kk odd) LX.out ((HS.out.now).2.2.1) (by omega)).mono ?_
                rintro e wq36 ⟨rfl, hmm⟩
                replace HS := Lib.hid (HS.out.step hmm)
                clear hmm
                clear qbg_0 qbg_1 qbg_2 lbg
                have hbbg := (HS.out.now).2.2.2.2.1
                have qbg_0 := hbbg.cell 0 rfl
                have qbg_1 := hbbg.cell 1 rfl
                have qbg_2 := hbbg.cell 2 rfl
                have lbg := hbbg.lt
                clear hbbg
                rw [VX.out]
                simp only [Bool.true_and, Bool.false_and, Bool.and_true, Bool.and_false]
                go_wp2_with fail
                refine (awake8_any _).mono ?_
                rintro e wq37 ⟨rfl, hmm⟩
                replace HS := Lib.hid (HS.out.step hmm)
                clear hmm
                clear qbg_0 qbg_1 qbg_2 lbg
                have hbbg := (HS.out.now).2.2.2.2.1
                have qbg_0 := hbbg.cell 0 rfl
                have qbg_1 := hbbg.cell 1 rfl
                have qbg_2 := hbbg.cell 2 rfl
                have lbg := hbbg.lt
                clear hbbg
                go_wp2_with fail
                go_ret
                exact ⟨rfl, (HS.out.now).2.2.2.2.2.2.2.2.2⟩
        | true =>
          go_upto_region 16 with fail
          clear qbg_0 qbg_1 qbg_2 lbg
          have HSd := Lib.hid HS.out.drew
          refine wp_region_inv3 (act := ?actwb_r16_5) (Mod (fun _ => False)) (fun i => (wb_r16_5_F odd a1 a2 a3 n1 d1 n2 d2 n3 d3 er lw cw aw kk b2 k2 yx gb go).getD i (fun _ _ => True)) (fun i => wb_r16_5_D.getD i []) (by kernel_rfl) (by kernel_rfl) (by kernel_rfl) (by kernel_rfl) (fun _ => Mod.refl _ _)
            (fun _ _ _ h k => h.trans k (fun _ _ e => e) (fun _ _ e => e)) ?hactwb_r16_5 (stable_list ?_) ?_ ?_
          case hactwb_r16_5 => intro vs; simp only [putAll, Nat.zero_add, Nat.reduceAdd, Act.put, List.setIfInBounds_toArray, List.set_cons_succ, List.set_cons_zero]; exact rfl
          · unfold wb_r16_5_F
            exact stable_cons (stable_val _) <| stable_cons (stable_val _) <| stable_cons (stable_val _) <| stable_cons (stable_val _) <| stable_cons (stable_val _) <| stable_cons (stable_val _) <| stable_cons (stable_val _) <| stable_cons (stable_val _) <| stable_cons (stable_val _) <| stable_cons (stable_val _) <| stable_cons (stable_val _) <| stable_cons (stable_val _) <| stable_cons (stable_val _) <| stable_cons (stable_val _) <| stable_cons (stable_val _) <| stable_cons (stable_val _) <| stable_cons (stable_val _) <| stable_cons (stable_val _) <| stable_cons (stable_val _) <| stable_cons (stable_val _) <| stable_cons (stable_val _) <| stable_cons (stable_val _) <| stable_nil
          · refine opsOkA_cons ?_ ?_
            · intro K vs W hR hD hK
              clear hD
              try dsimp only at hK ⊢
              simp only [Act.put, List.setIfInBounds_toArray, List.set_cons_succ, List.set_cons_zero] at hK
              have hbx := (HSd.out.at (hR)).2.2.2.1
              have q0 := hbx.cell 0 rfl
              have q1 := hbx.cell 1 rfl
              have q2 := hbx.cell 2 rfl
              go_wp2
              exact hK _ _ rfl (Mod.refl _ _)
            refine opsOkA_cons ?_ ?_
            · intro K vs W hR hD hK
              clear hD
              try dsimp only at hK ⊢
              simp only [Act.put, List.setIfInBounds_toArray, List.set_cons_succ, List.set_cons_zero] at hK
              go_wp2
              exact hK _ _ rfl (Mod.refl _ _)
            refine opsOkA_cons ?_ ?_
            · intro K vs W hR hD hK
              clear hD
              try dsimp only at hK ⊢
              simp only [Act.put, List.setIfInBounds_toArray, List.set_cons_succ, List.set_cons_zero] at hK
              go_wp2
              exact hK _ _ rfl (Mod.refl _ _)
            refine opsOkA_cons ?_ ?_
            · intro K vs W hR hD hK
              have dq0 : vs 0 = .agg #[.slice a1 n1 d1, .slice a2 n2 d2, .slice a3 n3 d3] := hD 0 (by decide)
              have dq1 : vs 1 = .int .i64 (er : Int) := hD 1 (by decide)
              have dq2 : vs 2 = .int .i64 odd := hD 2 (by decide)
              clear hD
              try dsimp only at hK ⊢
              simp only [Act.put, List.setIfInBounds_toArray, List.set_cons_succ, List.set_cons_zero] at hK
              generalize vs 0 = vq0 at hK dq0 ⊢
              subst vq0
              generalize vs 1 = vq1 at hK dq1 ⊢
              subst vq1
              generalize vs 2 = vq2 at hK dq2 ⊢
              subst vq2
              go_wp2_with (go_at_call 24; refine (r4turn_any G W a1 n1 d1 a2 n2 d2 a3 n3 d3 ((HSd.out.at (hR)).2.2.2.2.2.1) (by omega) (by omega) (er : Int) odd).mono ?_; rintro e' w' ⟨rfl, hm'⟩; rw [HB1.out])
              exact hK _ _ rfl hm'
            refine opsOkA_cons ?_ ?_
            · intro K vs W hR hD hK
              have dq3 : vs 3 = .bool true := hD 3 (by decide)
              clear hD
              try dsimp only at hK ⊢
              simp only [Act.put, List.setIfInBounds_toArray, List.set_cons_succ, List.set_cons_zero] at hK
              generalize vs 3 = vq3 at hK dq3 ⊢
              subst vq3
              go_wp2
              exact hK _ _ rfl (Mod.refl _ _)
            refine opsOkA_cons ?_ ?_
            · intro K vs W hR hD hK
              have dq4 : vs 4 = .bool true := hD 4 (by decide)
              clear hD
              try dsimp only at hK ⊢
              simp only [Act.put, List.setIfInBounds_toArray, List.set_cons_succ, List.set_cons_zero] at hK
              generalize vs 4 = vq4 at hK dq4 ⊢
              subst vq4
              go_wp2
              exact hK _ _ rfl (Mod.refl _ _)
            refine opsOkA_cons ?_ ?_
            · intro K vs W hR hD hK
              have dq4 : vs 4 = .bool true := hD 4 (by decide)
              clear hD
              try dsimp only at hK ⊢
              simp only [Act.put, List.setIfInBounds_toArray, List.set_cons_succ, List.set_cons_zero] at hK
              generalize vs 4 = vq4 at hK dq4 ⊢
              subst vq4
              go_wp2
              exact hK _ _ rfl (Mod.refl _ _)
            refine opsOkA_cons ?_ ?_
            · intro K vs W hR hD hK
              have dq4 : vs 4 = .bool true := hD 4 (by decide)
              have dq6 : vs 6 = .slice aw lw cw := hD 6 (by decide)
              clear hD
              try dsimp only at hK ⊢
              simp only [Act.put, List.setIfInBounds_toArray, List.set_cons_succ, List.set_cons_zero] at hK
              generalize vs 4 = vq4 at hK dq4 ⊢
              subst vq4
              generalize vs 6 = vq6 at hK dq6 ⊢
              subst vq6
              go_wp2_with fail
              exact hK _ _ rfl (Mod.refl _ _)
            refine opsOkA_cons ?_ ?_
            · intro K vs W hR hD hK
              have dq4 : vs 4 = .bool true := hD 4 (by decide)
              have dq7 : vs 7 = .int .i64 (lw : Int) := hD 7 (by decide)
              clear hD
              try dsimp only at hK ⊢
              simp only [Act.put, List.setIfInBounds_toArray, List.set_cons_succ, List.set_cons_zero] at hK
              generalize vs 4 = vq4 at hK dq4 ⊢
              subst vq4
              generalize vs 7 = vq7 at hK dq7 ⊢
              subst vq7
              go_wp2
              exact hK _ _ rfl (Mod.refl _ _)
            refine opsOkA_cons ?_ ?_
            · intro K vs W hR hD hK
              have dq4 : vs 4 = .bool true := hD 4 (by decide)
              have dq5 : vs 5 = .int .i64 (kk : Int) := hD 5 (by decide)
              have dq8 : vs 8 = .int .i64 ((lw : Int) - 1) := hD 8 (by decide)
              clear hD
              try dsimp only at hK ⊢
              simp only [Act.put, List.setIfInBounds_toArray, List.set_cons_succ, List.set_cons_zero] at hK
              generalize vs 4 = vq4 at hK dq4 ⊢
              subst vq4
              generalize vs 5 = vq5 at hK dq5 ⊢
              subst vq5
              generalize vs 8 = vq8 at hK dq8 ⊢
              subst vq8
              go_wp2
              exact hK _ _ rfl (Mod.refl _ _)
            refine opsOkA_cons ?_ ?_
            · intro K vs W hR hD hK
              have dq4 : vs 4 = .bool true := hD 4 (by decide)
              have dq9 : vs 9 = .bool false := hD 9 (by decide)
              clear hD
              try dsimp only at hK ⊢
              simp only [Act.put, List.setIfInBounds_toArray, List.set_cons_succ, List.set_cons_zero] at hK
              generalize vs 4 = vq4 at hK dq4 ⊢
              subst vq4
              generalize vs 9 = vq9 at hK dq9 ⊢
              subst vq9
              go_wp2
              exact hK _ _ rfl (Mod.refl _ _)
            refine opsOkA_cons ?_ ?_
            · intro K vs W hR hD hK
              have dq10 : vs 10 = .bool false := hD 10 (by decide)
              clear hD
              try dsimp only at hK ⊢
              simp only [Act.put, List.setIfInBounds_toArray, List.set_cons_succ, List.set_cons_zero] at hK
              generalize vs 10 = vq10 at hK dq10 ⊢
              subst vq10
              have hbx := (HSd.out.at (hR)).2.2.2.1
              have q0 := hbx.cell 0 rfl
              have q1 := hbx.cell 1 rfl
              have q2 := hbx.cell 2 rfl
              go_wp2
              exact hK _ _ rfl (Mod.refl _ _)
            refine opsOkA_cons ?_ ?_
            · intro K vs W hR hD hK
              have dq10 : vs 10 = .bool false := hD 10 (by decide)
              clear hD
              try dsimp only at hK ⊢
              simp only [Act.put, List.setIfInBounds_toArray, List.set_cons_succ, List.set_cons_zero] at hK
              generalize vs 10 = vq10 at hK dq10 ⊢
              subst vq10
              go_wp2
              exact hK _ _ rfl (Mod.refl _ _)
            refine opsOkA_cons ?_ ?_
            · intro K vs W hR hD hK
              have dq10 : vs 10 = .bool false := hD 10 (by decide)
              clear hD
              try dsimp only at hK ⊢
              simp only [Act.put, List.setIfInBounds_toArray, List.set_cons_succ, List.set_cons_zero] at hK
              generalize vs 10 = vq10 at hK dq10 ⊢
              subst vq10
              go_wp2
              exact hK _ _ rfl (Mod.refl _ _)
            refine opsOkA_cons ?_ ?_
            · intro K vs W hR hD hK
              have dq10 : vs 10 = .bool false := hD 10 (by decide)
              clear hD
              try dsimp only at hK ⊢
              simp only [Act.put, List.setIfInBounds_toArray, List.set_cons_succ, List.set_cons_zero] at hK
              generalize vs 10 = vq10 at hK dq10 ⊢
              subst vq10
              go_wp2
              exact hK _ _ rfl (Mod.refl _ _)
            refine opsOkA_cons ?_ ?_
            · intro K vs W hR hD hK
              have dq10 : vs 10 = .bool false := hD 10 (by decide)
              have dq14 : vs 14 = .int .i64 (kk : Int) := hD 14 (by decide)
              clear hD
              try dsimp only at hK ⊢
              simp only [Act.put, List.setIfInBounds_toArray, List.set_cons_succ, List.set_cons_zero] at hK
              generalize vs 10 = vq10 at hK dq10 ⊢
              subst vq10
              generalize vs 14 = vq14 at hK dq14 ⊢
              subst vq14
              go_wp2
              exact hK _ _ rfl (Mod.refl _ _)
            refine opsOkA_cons ?_ ?_
            · intro K vs W hR hD hK
              have dq10 : vs 10 = .bool false := hD 10 (by decide)
              have dq13 : vs 13 = .slice aw lw cw := hD 13 (by decide)
              have dq15 : vs 15 = .int .i64 (k2 : Int) := hD 15 (by decide)
              clear hD
              try dsimp only at hK ⊢
              simp only [Act.put, List.setIfInBounds_toArray, List.set_cons_succ, List.set_cons_zero] at hK
              generalize vs 10 = vq10 at hK dq10 ⊢
              subst vq10
              generalize vs 13 = vq13 at hK dq13 ⊢
              subst vq13
              generalize vs 15 = vq15 at hK dq15 ⊢
              subst vq15
              have hix := HIg.out
              go_wp2_with fail
              exact hK _ _ rfl (Mod.refl _ _)
            refine opsOkA_cons ?_ ?_
            · intro K vs W hR hD hK
              have dq10 : vs 10 = .bool false := hD 10 (by decide)
              have dq16 : vs 16 = .pointer (some ⟨gb, go, none⟩) := hD 16 (by decide)
              clear hD
              try dsimp only at hK ⊢
              simp only [Act.put, List.setIfInBounds_toArray, List.set_cons_succ, List.set_cons_zero] at hK
              generalize vs 10 = vq10 at hK dq10 ⊢
              subst vq10
              generalize vs 16 = vq16 at hK dq16 ⊢
              subst vq16
              have c0 := (HSd.out.at (hR)).1
              go_wp2
              exact hK _ _ rfl (Mod.refl _ _)
            refine opsOkA_cons ?_ ?_
            · intro K vs W hR hD hK
              have dq10 : vs 10 = .bool false := hD 10 (by decide)
              have dq11 : vs 11 = .agg #[.slice a1 n1 d1, .slice a2 n2 d2, .slice a3 n3 d3] := hD 11 (by decide)
              have dq12 : vs 12 = .int .i64 odd := hD 12 (by decide)
              have dq17 : vs 17 = .int .i64 yx := hD 17 (by decide)
              clear hD
              try dsimp only at hK ⊢
              simp only [Act.put, List.setIfInBounds_toArray, List.set_cons_succ, List.set_cons_zero] at hK
              generalize vs 10 = vq10 at hK dq10 ⊢
              subst vq10
              generalize vs 11 = vq11 at hK dq11 ⊢
              subst vq11
              generalize vs 12 = vq12 at hK dq12 ⊢
              subst vq12
              generalize vs 17 = vq17 at hK dq17 ⊢
              subst vq17
              go_wp2_with (go_at_call 24; refine (r4turn_any G W a1 n1 d1 a2 n2 d2 a3 n3 d3 ((HSd.out.at (hR)).2.2.2.2.2.1) (by omega) (by omega) odd yx).mono ?_; rintro e' w' ⟨rfl, hm'⟩; rw [HB2T.out])
              exact hK _ _ rfl hm'
            refine opsOkA_cons ?_ ?_
            · intro K vs W hR hD hK
              have dq4 : vs 4 = .bool true := hD 4 (by decide)
              have dq10 : vs 10 = .bool false := hD 10 (by decide)
              have dq18 : vs 18 = .bool b2 := hD 18 (by decide)
              clear hD
              try dsimp only at hK ⊢
              simp only [Act.put, List.setIfInBounds_toArray, List.set_cons_succ, List.set_cons_zero] at hK
              generalize vs 4 = vq4 at hK dq4 ⊢
              subst vq4
              generalize vs 10 = vq10 at hK dq10 ⊢
              subst vq10
              generalize vs 18 = vq18 at hK dq18 ⊢
              subst vq18
              go_wp2
              exact hK _ _ rfl (Mod.refl _ _)
            refine opsOkA_cons ?_ ?_
            · intro K vs W hR hD hK
              have dq4 : vs 4 = .bool true := hD 4 (by decide)
              have dq19 : vs 19 = .bool b2 := hD 19 (by decide)
              clear hD
              try dsimp only at hK ⊢
              simp only [Act.put, List.setIfInBounds_toArray, List.set_cons_succ, List.set_cons_zero] at hK
              generalize vs 4 = vq4 at hK dq4 ⊢
              subst vq4
              generalize vs 19 = vq19 at hK dq19 ⊢
              subst vq19
              go_wp2
              exact hK _ _ rfl (Mod.refl _ _)
            refine opsOkA_cons ?_ ?_
            · intro K vs W hR hD hK
              have dq20 : vs 20 = .bool b2 := hD 20 (by decide)
              clear hD
              try dsimp only at hK ⊢
              simp only [Act.put, List.setIfInBounds_toArray, List.set_cons_succ, List.set_cons_zero] at hK
              generalize vs 20 = vq20 at hK dq20 ⊢
              subst vq20
              go_wp2
              exact hK _ _ rfl (Mod.refl _ _)
            exact opsOkA_nil
          · intro vs wq38 hR hF
            have dq21 : vs 21 = .bool b2 := hF 21 (by decide)
            clear hF
            try dsimp only
            generalize vs 21 = vq21 at dq21 ⊢
            subst dq21
            replace HS := Lib.hid (HSd.out.step hR)
            clear HSd hR
            have hbbg := (HS.out.now).2.2.2.1
            have qbg_0 := hbbg.cell 0 rfl
            have qbg_1 := hbbg.cell 1 rfl
            have qbg_2 := hbbg.cell 2 rfl
            have lbg := hbbg.lt
            clear hbbg
            go_wp2_with fail
            replace HS := Lib.hid ((Ev.mod wq38).and HS.out)
            go_loopw [19, 20] (fun s i wr => ∃ (i0 : Nat) (s0 : Int), i0 ≤ lw ∧ i = .int .i64 i0 ∧ s = .int .i64 s0 ∧ s0 = wS G (ws.take i0) ∧ Mod (fun _ => False) wq38 wr) (fun s i _ => lw - (intOf i).toNat)
            case atStart => exact ⟨0, 0, by omega, rfl, rfl, rfl, Mod.refl _ _⟩
            case round =>
              obtain ⟨i0, s0, hi0, rfl, rfl, hs, hmr⟩ := hrel
              obtain ⟨wl, hwo⟩ : ∃ x : World, x = wr := ⟨_, rfl⟩
              subst hwo
              replace HS := Lib.hid (HS.out.step hmr)
              clear hmr
              clear qbg_0 qbg_1 qbg_2 lbg
              have hbbg := (HS.out.now).2.2.2.2.1
              have qbg_0 := hbbg.cell 0 rfl
              have qbg_1 := hbbg.cell 1 rfl
              have qbg_2 := hbbg.cell 2 rfl
              have lbg := hbbg.lt
              clear hbbg
              have hat : allE G (ws.take i0) = true := by have h := allE_append G (ws.take i0) (ws.drop i0); rw [List.take_append_drop, A3.out] at h; exact (Bool.and_eq_true_iff.1 h.symm).1
              have hsb := wS_le G hmay.out (ws.take i0) hat
              rw [← hs] at hsb
              have hl40 : (ws.take i0).length ≤ 40 := by have := List.length_take_le i0 ws; omega
              have hs1 := hsb.1
              have hs2 : s0 ≤ 2621400 := by have := hsb.2; omega
              have HSUM := Lib.hid hs
              clear hs hat hsb hl40
              by_cases hlt : i0 < lw
              case pos =>
                have hil : i0 < ws.length := by rw [HLW.out]; exact hlt
                have z0 : decide ((i0 : Int) < (lw : Int)) = true := by simp; omega
                have ht2 := Lib.hid (wS_take G ws i0 hil)
                have hxe : edB G ws[i0] = true := by have h := A3.out; unfold allE at h; exact List.all_eq_true.1 h _ (List.getElem_mem hil)
                have hz := wt_le G hmay.out _ hxe
                obtain ⟨xi, HXI0⟩ : ∃ qz, ws[i0] = qz := ⟨_, rfl⟩
                have HXI := Lib.hid HXI0
                clear HXI0
                rw [HXI.out] at hxe hz ht2
                obtain ⟨zi, HZI0⟩ : ∃ qz, (eAt G xi).2.2 = qz := ⟨_, rfl⟩
                have HZI := Lib.hid HZI0
                clear HZI0
                rw [HZI.out] at hz ht2
                have hz1 := hz.1
                have hz2 := hz.2
                have A1 : Hid (allE G [xi] = true) := Lib.hid (by unfold allE; simp [hxe])
                have W1 : Hid (wtN G [xi] = zi) := Lib.hid (by unfold wtN; rw [A1.out, if_pos rfl]; simp [wS, HZI.out])
                clear hz hxe
                obtain ⟨hb, ho, hpl, e0⟩ := rd1 (HS.out.now).2.2.2.1 i0 hil
                have hix := fun wx => run_indexS (P := Try.prog) wx 22 3 iI 1 Try.underlying22 hiI hsI aw lw cw i0 hlt ((HS.out.now).2.2.2.1.some_ (by have := hlt; omega))
                rw [hpl] at hix
                have HIh := Lib.hid hix
                clear hix hpl
                rw [HXI.out] at e0
                replace HS := Lib.hid ((Ev.cell e0).and HS.out)
                clear e0
                have qh := (HS.out.now).1
                have hix := HIh.out
                go_wp2_with fail
                clear qbg_0 qbg_1 qbg_2 lbg
                refine (wweight_any t p B C G hmay.out _ (((HS.out.now).2.2.2.2.2.2.1).keep (Mod.alloc _ _ _)) _ 1 _ [xi] rfl (Rd.lit 3 [.int .i64 xi] (0, 0) _ 1 rfl rfl (by decide)) (by omega)).mono ?_
                rintro e wq39 ⟨rfl, hm⟩
                replace HS := Lib.hid (HS.out.step ((Mod.alloc (fun _ => False) _ _).of2 hm))
                clear hm qh hix
                rw [A1.out, W1.out]
                go_wp2_with fail
                go_roundw
                case rel => exact ⟨i0 + 1, s0 + zi, hlt, by go_num, by go_num, by rw [ht2.out, ← HSUM.out], (HS.out.now).2.1⟩
                case measure => simp [intOf]; omega
              case neg =>
                obtain rfl : i0 = lw := by omega
                have z0 : decide ((i0 : Int) < (i0 : Int)) = false := by simp
                have W3 : Hid (wtN G ws = s0) := Lib.hid (by unfold wtN; rw [A3.out, if_pos rfl, HSUM.out, List.take_of_length_le (by rw [HLW.out]; exact Nat.le_refl _)])
                go_wp2_with fail
                refine (wweight_any t p B C G hmay.out _ ((HS.out.now).2.2.2.2.2.1) aw i0 cw ws HLW.out ((HS.out.now).2.2.2.1) (by omega)).mono ?_
                rintro e wq40 ⟨rfl, hmm⟩
                replace HS := Lib.hid (HS.out.step hmm)
                clear hmm
                clear qbg_0 qbg_1 qbg_2 lbg
                have hbbg := (HS.out.now).2.2.2.2.1
                have qbg_0 := hbbg.cell 0 rfl
                have qbg_1 := hbbg.cell 1 rfl
                have qbg_2 := hbbg.cell 2 rfl
                have lbg := hbbg.lt
                clear hbbg
                rw [W3.out, A3.out]
                go_wp2_with fail
                refine (wend_any t p B C G _ ((HS.out.now).2.2.2.2.2.1) (er : Int) _ i0 rc (ws.set kk odd) LX.out ((HS.out.now).2.2.1) (by omega)).mono ?_
                rintro e wq41 ⟨rfl, hmm⟩
                replace HS := Lib.hid (HS.out.step hmm)
                clear hmm
                clear qbg_0 qbg_1 qbg_2 lbg
                have hbbg := (HS.out.now).2.2.2.2.1
                have qbg_0 := hbbg.cell 0 rfl
                have qbg_1 := hbbg.cell 1 rfl
                have qbg_2 := hbbg.cell 2 rfl
                have lbg := hbbg.lt
                clear hbbg
                rw [VX.out]
                go_wp2_with fail
                refine (wvalid_any t p B C G _ ((HS.out.now).2.2.2.2.2.1) (er : Int) _ i0 rc (ws.set kk odd) LX.out ((HS.out.now).2.2.1) (by omega)).mono ?_
                rintro e wq42 ⟨rfl, hmm⟩
                replace HS := Lib.hid (HS.out.step hmm)
                clear hmm
                clear qbg_0 qbg_1 qbg_2 lbg
                have hbbg := (HS.out.now).2.2.2.2.1
                have qbg_0 := hbbg.cell 0 rfl
                have qbg_1 := hbbg.cell 1 rfl
                have qbg_2 := hbbg.cell 2 rfl
                have lbg := hbbg.lt
                clear hbbg
                rw [VX.out]
                cases b2 <;> simp only [Bool.true_and, Bool.and_true, Bool.and_false, Bool.false_and]
                all_goals
                  go_wp2_with fail
                  refine (awake8_any _).mono ?_
                  rintro e wq43 ⟨rfl, hmm⟩
                  replace HS := Lib.hid (HS.out.step hmm)
                  clear hmm
                  clear qbg_0 qbg_1 qbg_2 lbg
                  have hbbg := (HS.out.now).2.2.2.2.1
                  have qbg_0 := hbbg.cell 0 rfl
                  have qbg_1 := hbbg.cell 1 rfl
                  have qbg_2 := hbbg.cell 2 rfl
                  have lbg := hbbg.lt
                  clear hbbg
                  go_wp2_with fail
                  go_ret
                  exact ⟨rfl, (HS.out.now).2.2.2.2.2.2.2.2.2⟩
      case neg =>
        have ze : ((kk : Int) == (lw : Int) - 1) = true := by simp; omega
        have hb2 : b2 = true := by have h := HB2.out; rw [dif_neg (by rw [HLW.out]; exact hlast)] at h; exact h.symm
        subst hb2
        cases b1 with
        | false =>
          go_upto_region 16 with fail
          clear qbg_0 qbg_1 qbg_2 lbg
          have HSd := Lib.hid HS.out.drew
          refine wp_region_inv3 (act := ?actwb_r16_6) (Mod (fun _ => False)) (fun i => (wb_r16_6_F odd a1 a2 a3 n1 d1 n2 d2 n3 d3 er).getD i (fun _ _ => True)) (fun i => wb_r16_6_D.getD i []) (by kernel_rfl) (by kernel_rfl) (by kernel_rfl) (by kernel_rfl) (fun _ => Mod.refl _ _)
            (fun _ _ _ h k => h.trans k (fun _ _ e => e) (fun _ _ e => e)) ?hactwb_r16_6 (stable_list ?_) ?_ ?_
          case hactwb_r16_6 => intro vs; simp only [putAll, Nat.zero_add, Nat.reduceAdd, Act.put, List.setIfInBounds_toArray, List.set_cons_succ, List.set_cons_zero]; exact rfl
          · unfold wb_r16_6_F
            exact stable_cons (stable_val _) <| stable_cons (stable_val _) <| stable_cons (stable_val _) <| stable_cons (stable_val _) <| stable_cons (stable_val _) <| stable_cons (stable_val _) <| stable_cons (stable_val _) <| stable_cons (stable_val _) <| stable_cons (stable_val _) <| stable_cons (stable_val _) <| stable_cons (stable_val _) <| stable_cons (stable_val _) <| stable_cons (stable_val _) <| stable_cons (stable_val _) <| stable_cons (stable_val _) <| stable_cons (stable_val _) <| stable_cons (stable_val _) <| stable_cons (stable_val _) <| stable_cons (stable_val _) <| stable_cons (stable_val _) <| stable_cons (stable_val _) <| stable_cons (stable_val _) <| stable_nil
          · refine opsOkA_cons ?_ ?_
            · intro K vs W hR hD hK
              clear hD
              try dsimp only at hK ⊢
              simp only [Act.put, List.setIfInBounds_toArray, List.set_cons_succ, List.set_cons_zero] at hK
              have hbx := (HSd.out.at (hR)).2.2.1
              have q0 := hbx.cell 0 rfl
              have q1 := hbx.cell 1 rfl
              have q2 := hbx.cell 2 rfl
              go_wp2
              exact hK _ _ rfl (Mod.refl _ _)
            refine opsOkA_cons ?_ ?_
            · intro K vs W hR hD hK
              clear hD
              try dsimp only at hK ⊢
              simp only [Act.put, List.setIfInBounds_toArray, List.set_cons_succ, List.set_cons_zero] at hK
              go_wp2
              exact hK _ _ rfl (Mod.refl _ _)
            refine opsOkA_cons ?_ ?_
            · intro K vs W hR hD hK
              clear hD
              try dsimp only at hK ⊢
              simp only [Act.put, List.setIfInBounds_toArray, List.set_cons_succ, List.set_cons_zero] at hK
              go_wp2
              exact hK _ _ rfl (Mod.refl _ _)
            refine opsOkA_cons ?_ ?_
            · intro K vs W hR hD hK
              have dq0 : vs 0 = .agg #[.slice a1 n1 d1, .slice a2 n2 d2, .slice a3 n3 d3] := hD 0 (by decide)
              have dq1 : vs 1 = .int .i64 (er : Int) := hD 1 (by decide)
              have dq2 : vs 2 = .int .i64 odd := hD 2 (by decide)
              clear hD
              try dsimp only at hK ⊢
              simp only [Act.put, List.setIfInBounds_toArray, List.set_cons_succ, List.set_cons_zero] at hK
              generalize vs 0 = vq0 at hK dq0 ⊢
              subst vq0
              generalize vs 1 = vq1 at hK dq1 ⊢
              subst vq1
              generalize vs 2 = vq2 at hK dq2 ⊢
              subst vq2
              go_wp2_with (go_at_call 24; refine (r4turn_any G W a1 n1 d1 a2 n2 d2 a3 n3 d3 ((HSd.out.at (hR)).2.2.2.2.1) (by omega) (by omega) (er : Int) odd).mono ?_; rintro e' w' ⟨rfl, hm'⟩; rw [HB1.out])
              exact hK _ _ rfl hm'
            refine opsOkA_cons ?_ ?_
            · intro K vs W hR hD hK
              have dq3 : vs 3 = .bool false := hD 3 (by decide)
              clear hD
              try dsimp only at hK ⊢
              simp only [Act.put, List.setIfInBounds_toArray, List.set_cons_succ, List.set_cons_zero] at hK
              generalize vs 3 = vq3 at hK dq3 ⊢
              subst vq3
              go_wp2
              exact hK _ _ rfl (Mod.refl _ _)
            refine opsOkA_cons ?_ ?_
            · intro K vs W hR hD hK
              have dq4 : vs 4 = .bool false := hD 4 (by decide)
              clear hD
              try dsimp only at hK ⊢
              simp only [Act.put, List.setIfInBounds_toArray, List.set_cons_succ, List.set_cons_zero] at hK
              generalize vs 4 = vq4 at hK dq4 ⊢
              subst vq4
              go_wp2
              exact hK _ _ rfl (Mod.refl _ _)
            refine opsOkA_cons ?_ ?_
            · intro K vs W hR hD hK
              have dq4 : vs 4 = .bool false := hD 4 (by decide)
              clear hD
              try dsimp only at hK ⊢
              simp only [Act.put, List.setIfInBounds_toArray, List.set_cons_succ, List.set_cons_zero] at hK
              generalize vs 4 = vq4 at hK dq4 ⊢
              subst vq4
              go_wp2
              exact hK _ _ rfl (Mod.refl _ _)
            refine opsOkA_cons ?_ ?_
            · intro K vs W hR hD hK
              have dq4 : vs 4 = .bool false := hD 4 (by decide)
              clear hD
              try dsimp only at hK ⊢
              simp only [Act.put, List.setIfInBounds_toArray, List.set_cons_succ, List.set_cons_zero] at hK
              generalize vs 4 = vq4 at hK dq4 ⊢
              subst vq4
              go_wp2_with fail
              exact hK _ _ rfl (Mod.refl _ _)
            refine opsOkA_cons ?_ ?_
            · intro K vs W hR hD hK
              have dq4 : vs 4 = .bool false := hD 4 (by decide)
              clear hD
              try dsimp only at hK ⊢
              simp only [Act.put, List.setIfInBounds_toArray, List.set_cons_succ, List.set_cons_zero] at hK
              generalize vs 4 = vq4 at hK dq4 ⊢
              subst vq4
              go_wp2
              exact hK _ _ rfl (Mod.refl _ _)
            refine opsOkA_cons ?_ ?_
            · intro K vs W hR hD hK
              have dq4 : vs 4 = .bool false := hD 4 (by decide)
              clear hD
              try dsimp only at hK ⊢
              simp only [Act.put, List.setIfInBounds_toArray, List.set_cons_succ, List.set_cons_zero] at hK
              generalize vs 4 = vq4 at hK dq4 ⊢
              subst vq4
              go_wp2
              exact hK _ _ rfl (Mod.refl _ _)
            refine opsOkA_cons ?_ ?_
            · intro K vs W hR hD hK
              have dq4 : vs 4 = .bool false := hD 4 (by decide)
              clear hD
              try dsimp only at hK ⊢
              simp only [Act.put, List.setIfInBounds_toArray, List.set_cons_succ, List.set_cons_zero] at hK
              generalize vs 4 = vq4 at hK dq4 ⊢
              subst vq4
              go_wp2
              exact hK _ _ rfl (Mod.refl _ _)
            refine opsOkA_cons ?_ ?_
            · intro K vs W hR hD hK
              have dq10 : vs 10 = undef := hD 10 (by decide)
              clear hD
              try dsimp only at hK ⊢
              simp only [Act.put, List.setIfInBounds_toArray, List.set_cons_succ, List.set_cons_zero] at hK
              generalize vs 10 = vq10 at hK dq10 ⊢
              subst vq10
              go_wp2
              exact hK _ _ rfl (Mod.refl _ _)
            refine opsOkA_cons ?_ ?_
            · intro K vs W hR hD hK
              have dq10 : vs 10 = undef := hD 10 (by decide)
              clear hD
              try dsimp only at hK ⊢
              simp only [Act.put, List.setIfInBounds_toArray, List.set_cons_succ, List.set_cons_zero] at hK
              generalize vs 10 = vq10 at hK dq10 ⊢
              subst vq10
              go_wp2
              exact hK _ _ rfl (Mod.refl _ _)
            refine opsOkA_cons ?_ ?_
            · intro K vs W hR hD hK
              have dq10 : vs 10 = undef := hD 10 (by decide)
              clear hD
              try dsimp only at hK ⊢
              simp only [Act.put, List.setIfInBounds_toArray, List.set_cons_succ, List.set_cons_zero] at hK
              generalize vs 10 = vq10 at hK dq10 ⊢
              subst vq10
              go_wp2
              exact hK _ _ rfl (Mod.refl _ _)
            refine opsOkA_cons ?_ ?_
            · intro K vs W hR hD hK
              have dq10 : vs 10 = undef := hD 10 (by decide)
              clear hD
              try dsimp only at hK ⊢
              simp only [Act.put, List.setIfInBounds_toArray, List.set_cons_succ, List.set_cons_zero] at hK
              generalize vs 10 = vq10 at hK dq10 ⊢
              subst vq10
              go_wp2
              exact hK _ _ rfl (Mod.refl _ _)
            refine opsOkA_cons ?_ ?_
            · intro K vs W hR hD hK
              have dq10 : vs 10 = undef := hD 10 (by decide)
              clear hD
              try dsimp only at hK ⊢
              simp only [Act.put, List.setIfInBounds_toArray, List.set_cons_succ, List.set_cons_zero] at hK
              generalize vs 10 = vq10 at hK dq10 ⊢
              subst vq10
              go_wp2
              exact hK _ _ rfl (Mod.refl _ _)
            refine opsOkA_cons ?_ ?_
            · intro K vs W hR hD hK
              have dq10 : vs 10 = undef := hD 10 (by decide)
              clear hD
              try dsimp only at hK ⊢
              simp only [Act.put, List.setIfInBounds_toArray, List.set_cons_succ, List.set_cons_zero] at hK
              generalize vs 10 = vq10 at hK dq10 ⊢
              subst vq10
              go_wp2_with fail
              exact hK _ _ rfl (Mod.refl _ _)
            refine opsOkA_cons ?_ ?_
            · intro K vs W hR hD hK
              have dq10 : vs 10 = undef := hD 10 (by decide)
              clear hD
              try dsimp only at hK ⊢
              simp only [Act.put, List.setIfInBounds_toArray, List.set_cons_succ, List.set_cons_zero] at hK
              generalize vs 10 = vq10 at hK dq10 ⊢
              subst vq10
              go_wp2
              exact hK _ _ rfl (Mod.refl _ _)
            refine opsOkA_cons ?_ ?_
            · intro K vs W hR hD hK
              have dq10 : vs 10 = undef := hD 10 (by decide)
              clear hD
              try dsimp only at hK ⊢
              simp only [Act.put, List.setIfInBounds_toArray, List.set_cons_succ, List.set_cons_zero] at hK
              generalize vs 10 = vq10 at hK dq10 ⊢
              subst vq10
              go_wp2_with fail
              exact hK _ _ rfl (Mod.refl _ _)
            refine opsOkA_cons ?_ ?_
            · intro K vs W hR hD hK
              have dq4 : vs 4 = .bool false := hD 4 (by decide)
              clear hD
              try dsimp only at hK ⊢
              simp only [Act.put, List.setIfInBounds_toArray, List.set_cons_succ, List.set_cons_zero] at hK
              generalize vs 4 = vq4 at hK dq4 ⊢
              subst vq4
              go_wp2
              exact hK _ _ rfl (Mod.refl _ _)
            refine opsOkA_cons ?_ ?_
            · intro K vs W hR hD hK
              have dq4 : vs 4 = .bool false := hD 4 (by decide)
              have dq19 : vs 19 = undef := hD 19 (by decide)
              clear hD
              try dsimp only at hK ⊢
              simp only [Act.put, List.setIfInBounds_toArray, List.set_cons_succ, List.set_cons_zero] at hK
              generalize vs 4 = vq4 at hK dq4 ⊢
              subst vq4
              generalize vs 19 = vq19 at hK dq19 ⊢
              subst vq19
              go_wp2
              exact hK _ _ rfl (Mod.refl _ _)
            refine opsOkA_cons ?_ ?_
            · intro K vs W hR hD hK
              have dq20 : vs 20 = .bool false := hD 20 (by decide)
              clear hD
              try dsimp only at hK ⊢
              simp only [Act.put, List.setIfInBounds_toArray, List.set_cons_succ, List.set_cons_zero] at hK
              generalize vs 20 = vq20 at hK dq20 ⊢
              subst vq20
              go_wp2
              exact hK _ _ rfl (Mod.refl _ _)
            exact opsOkA_nil
          · intro vs wq44 hR hF
            have dq21 : vs 21 = .bool false := hF 21 (by decide)
            clear hF
            try dsimp only
            generalize vs 21 = vq21 at dq21 ⊢
            subst dq21
            replace HS := Lib.hid (HSd.out.step hR)
            clear HSd hR
            have hbbg := (HS.out.now).2.2.1
            have qbg_0 := hbbg.cell 0 rfl
            have qbg_1 := hbbg.cell 1 rfl
            have qbg_2 := hbbg.cell 2 rfl
            have lbg := hbbg.lt
            clear hbbg
            go_wp2_with fail
            replace HS := Lib.hid ((Ev.mod wq44).and HS.out)
            go_loopw [19, 20] (fun s i wr => ∃ (i0 : Nat) (s0 : Int), i0 ≤ lw ∧ i = .int .i64 i0 ∧ s = .int .i64 s0 ∧ s0 = wS G (ws.take i0) ∧ Mod (fun _ => False) wq44 wr) (fun s i _ => lw - (intOf i).toNat)
            case atStart => exact ⟨0, 0, by omega, rfl, rfl, rfl, Mod.refl _ _⟩
            case round =>
              obtain ⟨i0, s0, hi0, rfl, rfl, hs, hmr⟩ := hrel
              obtain ⟨wl, hwo⟩ : ∃ x : World, x = wr := ⟨_, rfl⟩
              subst hwo
              replace HS := Lib.hid (HS.out.step hmr)
              clear hmr
              clear qbg_0 qbg_1 qbg_2 lbg
              have hbbg := (HS.out.now).2.2.2.1
              have qbg_0 := hbbg.cell 0 rfl
              have qbg_1 := hbbg.cell 1 rfl
              have qbg_2 := hbbg.cell 2 rfl
              have lbg := hbbg.lt
              clear hbbg
              have hat : allE G (ws.take i0) = true := by have h := allE_append G (ws.take i0) (ws.drop i0); rw [List.take_append_drop, A3.out] at h; exact (Bool.and_eq_true_iff.1 h.symm).1
              have hsb := wS_le G hmay.out (ws.take i0) hat
              rw [← hs] at hsb
              have hl40 : (ws.take i0).length ≤ 40 := by have := List.length_take_le i0 ws; omega
              have hs1 := hsb.1
              have hs2 : s0 ≤ 2621400 := by have := hsb.2; omega
              have HSUM := Lib.hid hs
              clear hs hat hsb hl40
              by_cases hlt : i0 < lw
              case pos =>
                have hil : i0 < ws.length := by rw [HLW.out]; exact hlt
                have z0 : decide ((i0 : Int) < (lw : Int)) = true := by simp; omega
                have ht2 := Lib.hid (wS_take G ws i0 hil)
                have hxe : edB G ws[i0] = true := by have h := A3.out; unfold allE at h; exact List.all_eq_true.1 h _ (List.getElem_mem hil)
                have hz := wt_le G hmay.out _ hxe
                obtain ⟨xi, HXI0⟩ : ∃ qz, ws[i0] = qz := ⟨_, rfl⟩
                have HXI := Lib.hid HXI0
                clear HXI0
                rw [HXI.out] at hxe hz ht2
                obtain ⟨zi, HZI0⟩ : ∃ qz, (eAt G xi).2.2 = qz := ⟨_, rfl⟩
                have HZI := Lib.hid HZI0
                clear HZI0
                rw [HZI.out] at hz ht2
                have hz1 := hz.1
                have hz2 := hz.2
                have A1 : Hid (allE G [xi] = true) := Lib.hid (by unfold allE; simp [hxe])
                have W1 : Hid (wtN G [xi] = zi) := Lib.hid (by unfold wtN; rw [A1.out, if_pos rfl]; simp [wS, HZI.out])
                clear hz hxe
                obtain ⟨hb, ho, hpl, e0⟩ := rd1 (HS.out.now).2.2.1 i0 hil
                have hix := fun wx => run_indexS (P := Try.prog) wx 22 3 iI 1 Try.underlying22 hiI hsI aw lw cw i0 hlt ((HS.out.now).2.2.1.some_ (by have := hlt; omega))
                rw [hpl] at hix
                have HIh := Lib.hid hix
                clear hix hpl
                rw [HXI.out] at e0
                replace HS := Lib.hid ((Ev.cell e0).and HS.out)
                clear e0
                have qh := (HS.out.now).1
                have hix := HIh.out
                go_wp2_with fail
                clear qbg_0 qbg_1 qbg_2 lbg
                refine (wweight_any t p B C G hmay.out _ (((HS.out.now).2.2.2.2.2.1).keep (Mod.alloc _ _ _)) _ 1 _ [xi] rfl (Rd.lit 3 [.int .i64 xi] (0, 0) _ 1 rfl rfl (by decide)) (by omega)).mono ?_
                rintro e wq45 ⟨rfl, hm⟩
                replace HS := Lib.hid (HS.out.step ((Mod.alloc (fun _ => False) _ _).of2 hm))
                clear hm qh hix
                rw [A1.out, W1.out]
                go_wp2_with fail
                go_roundw
                case rel => exact ⟨i0 + 1, s0 + zi, hlt, by go_num, by go_num, by rw [ht2.out, ← HSUM.out], (HS.out.now).2.1⟩
                case measure => simp [intOf]; omega
              case neg =>
                obtain rfl : i0 = lw := by omega
                have z0 : decide ((i0 : Int) < (i0 : Int)) = false := by simp
                have W3 : Hid (wtN G ws = s0) := Lib.hid (by unfold wtN; rw [A3.out, if_pos rfl, HSUM.out, List.take_of_length_le (by rw [HLW.out]; exact Nat.le_refl _)])
                go_wp2_with fail
                refine (wweight_any t p B C G hmay.out _ ((HS.out.now).2.2.2.2.1) aw i0 cw ws HLW.out ((HS.out.now).2.2.1) (by omega)).mono ?_
                rintro e wq46 ⟨rfl, hmm⟩
                replace HS := Lib.hid (HS.out.step hmm)
                clear hmm
                clear qbg_0 qbg_1 qbg_2 lbg
                have hbbg := (HS.out.now).2.2.2.1
                have qbg_0 := hbbg.cell 0 rfl
                have qbg_1 := hbbg.cell 1 rfl
                have qbg_2 := hbbg.cell 2 rfl
                have lbg := hbbg.lt
                clear hbbg
                rw [W3.out, A3.out]
                go_wp2_with fail
                refine (wend_any t p B C G _ ((HS.out.now).2.2.2.2.1) (er : Int) _ i0 rc (ws.set kk odd) LX.out ((HS.out.now).2.1) (by omega)).mono ?_
                rintro e wq47 ⟨rfl, hmm⟩
                replace HS := Lib.hid (HS.out.step hmm)
                clear hmm
                clear qbg_0 qbg_1 qbg_2 lbg
                have hbbg := (HS.out.now).2.2.2.1
                have qbg_0 := hbbg.cell 0 rfl
                have qbg_1 := hbbg.cell 1 rfl
                have qbg_2 := hbbg.cell 2 rfl
                have lbg := hbbg.lt
                clear hbbg
                rw [VX.out]
                go_wp2_with fail
                refine (wvalid_any t p B C G _ ((HS.out.now).2.2.2.2.1) (er : Int) _ i0 rc (ws.set kk odd) LX.out ((HS.out.now).2.1) (by omega)).mono ?_
                rintro e wq48 ⟨rfl, hmm⟩
                replace HS := Lib.hid (HS.out.step hmm)
                clear hmm
                clear qbg_0 qbg_1 qbg_2 lbg
                have hbbg := (HS.out.now).2.2.2.1
                have qbg_0 := hbbg.cell 0 rfl
                have qbg_1 := hbbg.cell 1 rfl
                have qbg_2 := hbbg.cell 2 rfl
                have lbg := hbbg.lt
                clear hbbg
                rw [VX.out]
                simp only [Bool.true_and, Bool.false_and, Bool.and_true, Bool.and_false]
                go_wp2_with fail
                refine (awake8_any _).mono ?_
                rintro e wq49 ⟨rfl, hmm⟩
                replace HS := Lib.hid (HS.out.step hmm)
                clear hmm
                clear qbg_0 qbg_1 qbg_2 lbg
                have hbbg := (HS.out.now).2.2.2.1
                have qbg_0 := hbbg.cell 0 rfl
                have qbg_1 := hbbg.cell 1 rfl
                have qbg_2 := hbbg.cell 2 rfl
                have lbg := hbbg.lt
                clear hbbg
                go_wp2_with fail
                go_ret
                exact ⟨rfl, (HS.out.now).2.2.2.2.2.2.2.2⟩
        | true =>
          go_upto_region 16 with fail
          clear qbg_0 qbg_1 qbg_2 lbg
          have HSd := Lib.hid HS.out.drew
          refine wp_region_inv3 (act := ?actwb_r16_7) (Mod (fun _ => False)) (fun i => (wb_r16_7_F odd a1 a2 a3 n1 d1 n2 d2 n3 d3 er lw cw aw kk).getD i (fun _ _ => True)) (fun i => wb_r16_7_D.getD i []) (by kernel_rfl) (by kernel_rfl) (by kernel_rfl) (by kernel_rfl) (fun _ => Mod.refl _ _)
            (fun _ _ _ h k => h.trans k (fun _ _ e => e) (fun _ _ e => e)) ?hactwb_r16_7 (stable_list ?_) ?_ ?_
          case hactwb_r16_7 => intro vs; simp only [putAll, Nat.zero_add, Nat.reduceAdd, Act.put, List.setIfInBounds_toArray, List.set_cons_succ, List.set_cons_zero]; exact rfl
          · unfold wb_r16_7_F
            exact stable_cons (stable_val _) <| stable_cons (stable_val _) <| stable_cons (stable_val _) <| stable_cons (stable_val _) <| stable_cons (stable_val _) <| stable_cons (stable_val _) <| stable_cons (stable_val _) <| stable_cons (stable_val _) <| stable_cons (stable_val _) <| stable_cons (stable_val _) <| stable_cons (stable_val _) <| stable_cons (stable_val _) <| stable_cons (stable_val _) <| stable_cons (stable_val _) <| stable_cons (stable_val _) <| stable_cons (stable_val _) <| stable_cons (stable_val _) <| stable_cons (stable_val _) <| stable_cons (stable_val _) <| stable_cons (stable_val _) <| stable_cons (stable_val _) <| stable_cons (stable_val _) <| stable_nil
          · refine opsOkA_cons ?_ ?_
            · intro K vs W hR hD hK
              clear hD
              try dsimp only at hK ⊢
              simp only [Act.put, List.setIfInBounds_toArray, List.set_cons_succ, List.set_cons_zero] at hK
              have hbx := (HSd.out.at (hR)).2.2.1
              have q0 := hbx.cell 0 rfl
              have q1 := hbx.cell 1 rfl
              have q2 := hbx.cell 2 rfl
              go_wp2
              exact hK _ _ rfl (Mod.refl _ _)
            refine opsOkA_cons ?_ ?_
            · intro K vs W hR hD hK
              clear hD
              try dsimp only at hK ⊢
              simp only [Act.put, List.setIfInBounds_toArray, List.set_cons_succ, List.set_cons_zero] at hK
              go_wp2
              exact hK _ _ rfl (Mod.refl _ _)
            refine opsOkA_cons ?_ ?_
            · intro K vs W hR hD hK
              clear hD
              try dsimp only at hK ⊢
              simp only [Act.put, List.setIfInBounds_toArray, List.set_cons_succ, List.set_cons_zero] at hK
              go_wp2
              exact hK _ _ rfl (Mod.refl _ _)
            refine opsOkA_cons ?_ ?_
            · intro K vs W hR hD hK
              have dq0 : vs 0 = .agg #[.slice a1 n1 d1, .slice a2 n2 d2, .slice a3 n3 d3] := hD 0 (by decide)
              have dq1 : vs 1 = .int .i64 (er : Int) := hD 1 (by decide)
              have dq2 : vs 2 = .int .i64 odd := hD 2 (by decide)
              clear hD
              try dsimp only at hK ⊢
              simp only [Act.put, List.setIfInBounds_toArray, List.set_cons_succ, List.set_cons_zero] at hK
              generalize vs 0 = vq0 at hK dq0 ⊢
              subst vq0
              generalize vs 1 = vq1 at hK dq1 ⊢
              subst vq1
              generalize vs 2 = vq2 at hK dq2 ⊢
              subst vq2
              go_wp2_with (go_at_call 24; refine (r4turn_any G W a1 n1 d1 a2 n2 d2 a3 n3 d3 ((HSd.out.at (hR)).2.2.2.2.1) (by omega) (by omega) (er : Int) odd).mono ?_; rintro e' w' ⟨rfl, hm'⟩; rw [HB1.out])
              exact hK _ _ rfl hm'
            refine opsOkA_cons ?_ ?_
            · intro K vs W hR hD hK
              have dq3 : vs 3 = .bool true := hD 3 (by decide)
              clear hD
              try dsimp only at hK ⊢
              simp only [Act.put, List.setIfInBounds_toArray, List.set_cons_succ, List.set_cons_zero] at hK
              generalize vs 3 = vq3 at hK dq3 ⊢
              subst vq3
              go_wp2
              exact hK _ _ rfl (Mod.refl _ _)
            refine opsOkA_cons ?_ ?_
            · intro K vs W hR hD hK
              have dq4 : vs 4 = .bool true := hD 4 (by decide)
              clear hD
              try dsimp only at hK ⊢
              simp only [Act.put, List.setIfInBounds_toArray, List.set_cons_succ, List.set_cons_zero] at hK
              generalize vs 4 = vq4 at hK dq4 ⊢
              subst vq4
              go_wp2
              exact hK _ _ rfl (Mod.refl _ _)
            refine opsOkA_cons ?_ ?_
            · intro K vs W hR hD hK
              have dq4 : vs 4 = .bool true := hD 4 (by decide)
              clear hD
              try dsimp only at hK ⊢
              simp only [Act.put, List.setIfInBounds_toArray, List.set_cons_succ, List.set_cons_zero] at hK
              generalize vs 4 = vq4 at hK dq4 ⊢
              subst vq4
              go_wp2
              exact hK _ _ rfl (Mod.refl _ _)
            refine opsOkA_cons ?_ ?_
            · intro K vs W hR hD hK
              have dq4 : vs 4 = .bool true := hD 4 (by decide)
              have dq6 : vs 6 = .slice aw lw cw := hD 6 (by decide)
              clear hD
              try dsimp only at hK ⊢
              simp only [Act.put, List.setIfInBounds_toArray, List.set_cons_succ, List.set_cons_zero] at hK
              generalize vs 4 = vq4 at hK dq4 ⊢
              subst vq4
              generalize vs 6 = vq6 at hK dq6 ⊢
              subst vq6
              go_wp2_with fail
              exact hK _ _ rfl (Mod.refl _ _)
            refine opsOkA_cons ?_ ?_
            · intro K vs W hR hD hK
              have dq4 : vs 4 = .bool true := hD 4 (by decide)
              have dq7 : vs 7 = .int .i64 (lw : Int) := hD 7 (by decide)
              clear hD
              try dsimp only at hK ⊢
              simp only [Act.put, List.setIfInBounds_toArray, List.set_cons_succ, List.set_cons_zero] at hK
              generalize vs 4 = vq4 at hK dq4 ⊢
              subst vq4
              generalize vs 7 = vq7 at hK dq7 ⊢
              subst vq7
              go_wp2
              exact hK _ _ rfl (Mod.refl _ _)
            refine opsOkA_cons ?_ ?_
            · intro K vs W hR hD hK
              have dq4 : vs 4 = .bool true := hD 4 (by decide)
              have dq5 : vs 5 = .int .i64 (kk : Int) := hD 5 (by decide)
              have dq8 : vs 8 = .int .i64 ((lw : Int) - 1) := hD 8 (by decide)
              clear hD
              try dsimp only at hK ⊢
              simp only [Act.put, List.setIfInBounds_toArray, List.set_cons_succ, List.set_cons_zero] at hK
              generalize vs 4 = vq4 at hK dq4 ⊢
              subst vq4
              generalize vs 5 = vq5 at hK dq5 ⊢
              subst vq5
              generalize vs 8 = vq8 at hK dq8 ⊢
              subst vq8
              go_wp2
              exact hK _ _ rfl (Mod.refl _ _)
            refine opsOkA_cons ?_ ?_
            · intro K vs W hR hD hK
              have dq4 : vs 4 = .bool true := hD 4 (by decide)
              have dq9 : vs 9 = .bool true := hD 9 (by decide)
              clear hD
              try dsimp only at hK ⊢
              simp only [Act.put, List.setIfInBounds_toArray, List.set_cons_succ, List.set_cons_zero] at hK
              generalize vs 4 = vq4 at hK dq4 ⊢
              subst vq4
              generalize vs 9 = vq9 at hK dq9 ⊢
              subst vq9
              go_wp2
              exact hK _ _ rfl (Mod.refl _ _)
            refine opsOkA_cons ?_ ?_
            · intro K vs W hR hD hK
              have dq10 : vs 10 = .bool true := hD 10 (by decide)
              clear hD
              try dsimp only at hK ⊢
              simp only [Act.put, List.setIfInBounds_toArray, List.set_cons_succ, List.set_cons_zero] at hK
              generalize vs 10 = vq10 at hK dq10 ⊢
              subst vq10
              go_wp2
              exact hK _ _ rfl (Mod.refl _ _)
            refine opsOkA_cons ?_ ?_
            · intro K vs W hR hD hK
              have dq10 : vs 10 = .bool true := hD 10 (by decide)
              clear hD
              try dsimp only at hK ⊢
              simp only [Act.put, List.setIfInBounds_toArray, List.set_cons_succ, List.set_cons_zero] at hK
              generalize vs 10 = vq10 at hK dq10 ⊢
              subst vq10
              go_wp2
              exact hK _ _ rfl (Mod.refl _ _)
            refine opsOkA_cons ?_ ?_
            · intro K vs W hR hD hK
              have dq10 : vs 10 = .bool true := hD 10 (by decide)
              clear hD
              try dsimp only at hK ⊢
              simp only [Act.put, List.setIfInBounds_toArray, List.set_cons_succ, List.set_cons_zero] at hK
              generalize vs 10 = vq10 at hK dq10 ⊢
              subst vq10
              go_wp2
              exact hK _ _ rfl (Mod.refl _ _)
            refine opsOkA_cons ?_ ?_
            · intro K vs W hR hD hK
              have dq10 : vs 10 = .bool true := hD 10 (by decide)
              clear hD
              try dsimp only at hK ⊢
              simp only [Act.put, List.setIfInBounds_toArray, List.set_cons_succ, List.set_cons_zero] at hK
              generalize vs 10 = vq10 at hK dq10 ⊢
              subst vq10
              go_wp2
              exact hK _ _ rfl (Mod.refl _ _)
            refine opsOkA_cons ?_ ?_
            · intro K vs W hR hD hK
              have dq10 : vs 10 = .bool true := hD 10 (by decide)
              clear hD
              try dsimp only at hK ⊢
              simp only [Act.put, List.setIfInBounds_toArray, List.set_cons_succ, List.set_cons_zero] at hK
              generalize vs 10 = vq10 at hK dq10 ⊢
              subst vq10
              go_wp2
              exact hK _ _ rfl (Mod.refl _ _)
            refine opsOkA_cons ?_ ?_
            · intro K vs W hR hD hK
              have dq10 : vs 10 = .bool true := hD 10 (by decide)
              clear hD
              try dsimp only at hK ⊢
              simp only [Act.put, List.setIfInBounds_toArray, List.set_cons_succ, List.set_cons_zero] at hK
              generalize vs 10 = vq10 at hK dq10 ⊢
              subst vq10
              go_wp2_with fail
              exact hK _ _ rfl (Mod.refl _ _)
            refine opsOkA_cons ?_ ?_
            · intro K vs W hR hD hK
              have dq10 : vs 10 = .bool true := hD 10 (by decide)
              clear hD
              try dsimp only at hK ⊢
              simp only [Act.put, List.setIfInBounds_toArray, List.set_cons_succ, List.set_cons_zero] at hK
              generalize vs 10 = vq10 at hK dq10 ⊢
              subst vq10
              go_wp2
              exact hK _ _ rfl (Mod.refl _ _)
            refine opsOkA_cons ?_ ?_
            · intro K vs W hR hD hK
              have dq10 : vs 10 = .bool true := hD 10 (by decide)
              clear hD
              try dsimp only at hK ⊢
              simp only [Act.put, List.setIfInBounds_toArray, List.set_cons_succ, List.set_cons_zero] at hK
              generalize vs 10 = vq10 at hK dq10 ⊢
              subst vq10
              go_wp2_with fail
              exact hK _ _ rfl (Mod.refl _ _)
            refine opsOkA_cons ?_ ?_
            · intro K vs W hR hD hK
              have dq4 : vs 4 = .bool true := hD 4 (by decide)
              have dq10 : vs 10 = .bool true := hD 10 (by decide)
              have dq18 : vs 18 = undef := hD 18 (by decide)
              clear hD
              try dsimp only at hK ⊢
              simp only [Act.put, List.setIfInBounds_toArray, List.set_cons_succ, List.set_cons_zero] at hK
              generalize vs 4 = vq4 at hK dq4 ⊢
              subst vq4
              generalize vs 10 = vq10 at hK dq10 ⊢
              subst vq10
              generalize vs 18 = vq18 at hK dq18 ⊢
              subst vq18
              go_wp2
              exact hK _ _ rfl (Mod.refl _ _)
            refine opsOkA_cons ?_ ?_
            · intro K vs W hR hD hK
              have dq4 : vs 4 = .bool true := hD 4 (by decide)
              have dq19 : vs 19 = .bool true := hD 19 (by decide)
              clear hD
              try dsimp only at hK ⊢
              simp only [Act.put, List.setIfInBounds_toArray, List.set_cons_succ, List.set_cons_zero] at hK
              generalize vs 4 = vq4 at hK dq4 ⊢
              subst vq4
              generalize vs 19 = vq19 at hK dq19 ⊢
              subst vq19
              go_wp2
              exact hK _ _ rfl (Mod.refl _ _)
            refine opsOkA_cons ?_ ?_
            · intro K vs W hR hD hK
              have dq20 : vs 20 = .bool true := hD 20 (by decide)
              clear hD
              try dsimp only at hK ⊢
              simp only [Act.put, List.setIfInBounds_toArray, List.set_cons_succ, List.set_cons_zero] at hK
              generalize vs 20 = vq20 at hK dq20 ⊢
              subst vq20
              go_wp2
              exact hK _ _ rfl (Mod.refl _ _)
            exact opsOkA_nil
          · intro vs wq50 hR hF
            have dq21 : vs 21 = .bool true := hF 21 (by decide)
            clear hF
            try dsimp only
            generalize vs 21 = vq21 at dq21 ⊢
            subst dq21
            replace HS := Lib.hid (HSd.out.step hR)
            clear HSd hR
            have hbbg := (HS.out.now).2.2.1
            have qbg_0 := hbbg.cell 0 rfl
            have qbg_1 := hbbg.cell 1 rfl
            have qbg_2 := hbbg.cell 2 rfl
            have lbg := hbbg.lt
            clear hbbg
            go_wp2_with fail
            replace HS := Lib.hid ((Ev.mod wq50).and HS.out)
            go_loopw [19, 20] (fun s i wr => ∃ (i0 : Nat) (s0 : Int), i0 ≤ lw ∧ i = .int .i64 i0 ∧ s = .int .i64 s0 ∧ s0 = wS G (ws.take i0) ∧ Mod (fun _ => False) wq50 wr) (fun s i _ => lw - (intOf i).toNat)
            case atStart => exact ⟨0, 0, by omega, rfl, rfl, rfl, Mod.refl _ _⟩
            case round =>
              obtain ⟨i0, s0, hi0, rfl, rfl, hs, hmr⟩ := hrel
              obtain ⟨wl, hwo⟩ : ∃ x : World, x = wr := ⟨_, rfl⟩
              subst hwo
              replace HS := Lib.hid (HS.out.step hmr)
              clear hmr
              clear qbg_0 qbg_1 qbg_2 lbg
              have hbbg := (HS.out.now).2.2.2.1
              have qbg_0 := hbbg.cell 0 rfl
              have qbg_1 := hbbg.cell 1 rfl
              have qbg_2 := hbbg.cell 2 rfl
              have lbg := hbbg.lt
              clear hbbg
              have hat : allE G (ws.take i0) = true := by have h := allE_append G (ws.take i0) (ws.drop i0); rw [List.take_append_drop, A3.out] at h; exact (Bool.and_eq_true_iff.1 h.symm).1
              have hsb := wS_le G hmay.out (ws.take i0) hat
              rw [← hs] at hsb
              have hl40 : (ws.take i0).length ≤ 40 := by have := List.length_take_le i0 ws; omega
              have hs1 := hsb.1
              have hs2 : s0 ≤ 2621400 := by have := hsb.2; omega
              have HSUM := Lib.hid hs
              clear hs hat hsb hl40
              by_cases hlt : i0 < lw
              case pos =>
                have hil : i0 < ws.length := by rw [HLW.out]; exact hlt
                have z0 : decide ((i0 : Int) < (lw : Int)) = true := by simp; omega
                have ht2 := Lib.hid (wS_take G ws i0 hil)
                have hxe : edB G ws[i0] = true := by have h := A3.out; unfold allE at h; exact List.all_eq_true.1 h _ (List.getElem_mem hil)
                have hz := wt_le G hmay.out _ hxe
                obtain ⟨xi, HXI0⟩ : ∃ qz, ws[i0] = qz := ⟨_, rfl⟩
                have HXI := Lib.hid HXI0
                clear HXI0
                rw [HXI.out] at hxe hz ht2
                obtain ⟨zi, HZI0⟩ : ∃ qz, (eAt G xi).2.2 = qz := ⟨_, rfl⟩
                have HZI := Lib.hid HZI0
                clear HZI0
                rw [HZI.out] at hz ht2
                have hz1 := hz.1
                have hz2 := hz.2
                have A1 : Hid (allE G [xi] = true) := Lib.hid (by unfold allE; simp [hxe])
                have W1 : Hid (wtN G [xi] = zi) := Lib.hid (by unfold wtN; rw [A1.out, if_pos rfl]; simp [wS, HZI.out])
                clear hz hxe
                obtain ⟨hb, ho, hpl, e0⟩ := rd1 (HS.out.now).2.2.1 i0 hil
                have hix := fun wx => run_indexS (P := Try.prog) wx 22 3 iI 1 Try.underlying22 hiI hsI aw lw cw i0 hlt ((HS.out.now).2.2.1.some_ (by have := hlt; omega))
                rw [hpl] at hix
                have HIh := Lib.hid hix
                clear hix hpl
                rw [HXI.out] at e0
                replace HS := Lib.hid ((Ev.cell e0).and HS.out)
                clear e0
                have qh := (HS.out.now).1
                have hix := HIh.out
                go_wp2_with fail
                clear qbg_0 qbg_1 qbg_2 lbg
                refine (wweight_any t p B C G hmay.out _ (((HS.out.now).2.2.2.2.2.1).keep (Mod.alloc _ _ _)) _ 1 _ [xi] rfl (Rd.lit 3 [.int .i64 xi] (0, 0) _ 1 rfl rfl (by decide)) (by omega)).mono ?_
                rintro e wq51 ⟨rfl, hm⟩
                replace HS := Lib.hid (HS.out.step ((Mod.alloc (fun _ => False) _ _).of2 hm))
                clear hm qh hix
                rw [A1.out, W1.out]
                go_wp2_with fail
                go_roundw
                case rel => exact ⟨i0 + 1, s0 + zi, hlt, by go_num, by go_num, by rw [ht2.out, ← HSUM.out], (HS.out.now).2.1⟩
                case measure => simp [intOf]; omega
              case neg =>
                obtain rfl : i0 = lw := by omega
                have z0 : decide ((i0 : Int) < (i0 : Int)) = false := by simp
                have W3 : Hid (wtN G ws = s0) := Lib.hid (by unfold wtN; rw [A3.out, if_pos rfl, HSUM.out, List.take_of_length_le (by rw [HLW.out]; exact Nat.le_refl _)])
                go_wp2_with fail
                refine (wweight_any t p B C G hmay.out _ ((HS.out.now).2.2.2.2.1) aw i0 cw ws HLW.out ((HS.out.now).2.2.1) (by omega)).mono ?_
                rintro e wq52 ⟨rfl, hmm⟩
                replace HS := Lib.hid (HS.out.step hmm)
                clear hmm
                clear qbg_0 qbg_1 qbg_2 lbg
                have hbbg := (HS.out.now).2.2.2.1
                have qbg_0 := hbbg.cell 0 rfl
                have qbg_1 := hbbg.cell 1 rfl
                have qbg_2 := hbbg.cell 2 rfl
                have lbg := hbbg.lt
                clear hbbg
                rw [W3.out, A3.out]
                go_wp2_with fail
                refine (wend_any t p B C G _ ((HS.out.now).2.2.2.2.1) (er : Int) _ i0 rc (ws.set kk odd) LX.out ((HS.out.now).2.1) (by omega)).mono ?_
                rintro e wq53 ⟨rfl, hmm⟩
                replace HS := Lib.hid (HS.out.step hmm)
                clear hmm
                clear qbg_0 qbg_1 qbg_2 lbg
                have hbbg := (HS.out.now).2.2.2.1
                have qbg_0 := hbbg.cell 0 rfl
                have qbg_1 := hbbg.cell 1 rfl
                have qbg_2 := hbbg.cell 2 rfl
                have lbg := hbbg.lt
                clear hbbg
                rw [VX.out]
                go_wp2_with fail
                refine (wvalid_any t p B C G _ ((HS.out.now).2.2.2.2.1) (er : Int) _ i0 rc (ws.set kk odd) LX.out ((HS.out.now).2.1) (by omega)).mono ?_
                rintro e wq54 ⟨rfl, hmm⟩
                replace HS := Lib.hid (HS.out.step hmm)
                clear hmm
                clear qbg_0 qbg_1 qbg_2 lbg
                have hbbg := (HS.out.now).2.2.2.1
                have qbg_0 := hbbg.cell 0 rfl
                have qbg_1 := hbbg.cell 1 rfl
                have qbg_2 := hbbg.cell 2 rfl
                have lbg := hbbg.lt
                clear hbbg
                rw [VX.out]
                simp only [Bool.true_and, Bool.false_and, Bool.and_true, Bool.and_false]
                go_wp2_with fail
                refine (awake8_any _).mono ?_
                rintro e wq55 ⟨rfl, hmm⟩
                replace HS := Lib.hid (HS.out.step hmm)
                clear hmm
                clear qbg_0 qbg_1 qbg_2 lbg
                have hbbg := (HS.out.now).2.2.2.1
                have qbg_0 := hbbg.cell 0 rfl
                have qbg_1 := hbbg.cell 1 rfl
                have qbg_2 := hbbg.cell 2 rfl
                have lbg := hbbg.lt
                clear hbbg
                go_wp2_with fail
                go_ret
                exact ⟨rfl, (HS.out.now).2.2.2.2.2.2.2.2⟩
theorem wbreaks_law (w : World) (a0 : Option Addr) (m c0 : Nat) (l : List Int) (ok : (encSlice (encInt .i64)).ok w (.slice a0 m c0, l)) (fr : Int) (_ : (Lit.int .i64 fr).wf = true) (a4 : Option Addr) (n4 d4 : Nat) (st : List Int) (ok4 : (encSlice (encInt .i64)).ok w (.slice a4 n4 d4, st)) (at_ : Int) (_ : (Lit.int .i64 at_).wf = true) (odd : Int) (_ : (Lit.int .i64 odd).wf = true) :
    Calls Try.prog 10 #[.slice a0 m c0, .int .i64 fr, .slice a4 n4 d4, .int .i64 at_, .int .i64 odd] w fun e w' => e = .returned (.bool true) ∧ Below w.heap.size w w' := by
  obtain ⟨h1, r1, _⟩ := ok_ints ok
  obtain ⟨h4, r4, _⟩ := ok_ints ok4
  exact (wbreaks_all w a0 m c0 l h1 r1 fr a4 n4 d4 st h4 r4 at_ odd).mono fun e w' h => ⟨h.1, h.2.below (Nat.le_refl _) (fun _ e => e.elim)⟩
end Go.Proofs.Ytmpcpmgpnccphaa
