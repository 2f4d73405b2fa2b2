/- The reference's Shuts: Lapse, Close, Open by contract. -/
import Derived.Test.YthlpednakhjmhaaRShP
import Derived.Test.YthlpednakhjmhaaRegion2
import Derived.Test.YthlpednakhjmhaaRegion6
import Derived.Deep.DeepCutAuto
import Derived.Deep.CutBlock
namespace Go.Proofs.Ythlpednakhjmhaa
open Go.RowKit Mile
set_option maxRecDepth 100000
theorem Ev.uo {w : World} {q g n : Nat} {us : List Int} (h : UO w q g n us) : Ev (fun W => UO W q g n us) w := fun _ m => h.keep m (fun e => e) (fun e => e)

set_option maxHeartbeats 4000000 in
theorem ulapse_any (q g n : Nat) (us : List Int) (w : World) (h : UO w q g n us) (t : Int) :
    Calls Try.prog 16 #[.pointer (some ⟨q, 0, none⟩), .int .i64 t] w fun e w' => ∃ v, e = .returned v ∧ w'.ownsRow w.heap.size 3 1 v (overL t (allK us n)).length ((overL t (allK us n)).map (Value.int .i64)) ∧ UO w' q g n (lapU t us n) ∧ Mod (fun k => k = g) w w' := by
  obtain ⟨iI, hiI, hzI, hsI, hbI⟩ := info_parts infoI
  have hn := h.le
  have HUL := Lib.hid h.len
  have hgw : g < w.heap.size := h.gl
  have HS0 := Lib.hid h
  clear h
  go_enter Try.func16, Try.ntmps16
  go_wp2_with fail
  go_loopw [5, 6] (fun v i wr => ∃ k : Nat, k ≤ n ∧ i = .int .i64 k ∧ Mod (fun j => j = g) w wr ∧ World.ownsRow wr w.heap.size 3 1 v (overL t (allK us k)).length ((overL t (allK us k)).map (Value.int .i64)) ∧ UO wr q g n (lapU t us k)) (fun _ i _ => n - (intOf i).toNat)
  case atStart => exact ⟨0, by omega, rfl, Mod.refl _ _, World.ownsRow_nil _ _ _ _, by rw [lapU_zero]; exact HS0.out⟩
  case round =>
    obtain ⟨k, hk, rfl, hmr, hown, hso⟩ := hrel
    obtain ⟨wo, hwo⟩ : ∃ x : World, x = wr := ⟨_, rfl⟩
    subst hwo
    obtain ⟨av, cv, rfl⟩ := own_form hown
    have qq := hso.blk.cell 0 rfl
    have lqo := hso.blk.lt
    have lgo := hso.gl
    have HM := Lib.hid hmr
    have HO := Lib.hid hown
    have HU := Lib.hid hso
    clear hmr hown hso
    by_cases hlt : k < n
    case pos =>
      have hkl : k < us.length := by rw [HUL.out]; omega
      have z0 : decide ((k : Int) < (n : Int)) = true := by simp; omega
      have hkl2 : k < (lapU t us k).length := by rw [lapU_len]; exact hkl
      have cA := HU.out.cell k hkl2
      rw [lapU_at t us k hkl hkl2] at cA
      have has := over_succ t us k hkl
      have HY := Lib.hid (lapU_yes t us k hkl)
      have HNO := Lib.hid (lapU_no t us k hkl)
      obtain ⟨cu, hcu⟩ : ∃ x, us[k] = x := ⟨_, rfl⟩
      rw [hcu] at cA has HY HNO
      have HAS := Lib.hid has
      clear hcu has hkl2
      obtain ⟨ln, hln⟩ : ∃ q, (overL t (allK us k)).length = q := ⟨_, rfl⟩
      rw [hln] at HO ⊢
      have hlb : ln ≤ 512 := by rw [← hln]; have h1 := overL_len t (allK us k); have h2 := allK_len us k; omega
      have HLN := Lib.hid hln
      clear hln
      have HSW : Hid (w.heap.size ≤ wo.heap.size) := Lib.hid HM.out.size
      have hro := HU.out.room k hlt
      obtain ⟨v0, r0⟩ := hro.cell
      have f0 := hro.free
      clear hro r0
      by_cases hc : cu = 0
      case pos =>
        have zc : (cu != 0) = false := by simp [hc]
        have HC : Hid (¬ (cu ≠ 0 ∧ cu ≤ t)) := Lib.hid (fun h => h.1 hc)
        have HAK : Hid (overL t (allK us (k + 1)) = overL t (allK us k)) := Lib.hid (by rw [HAS.out, if_neg HC.out]; simp)
        clear hc f0
        go_wp2_with fail
        go_roundw
        case rel => exact ⟨k + 1, hlt, by go_num, HM.out, by rw [HAK.out, HLN.out]; exact HO.out, by rw [HNO.out HC.out]; exact HU.out⟩
        case measure => simp [intOf]; omega
      case neg =>
        have zc : (cu != 0) = true := by simp [hc]
        by_cases ht : cu ≤ t
        case neg =>
          have zt : decide (cu ≤ t) = false := decide_eq_false ht
          have HC : Hid (¬ (cu ≠ 0 ∧ cu ≤ t)) := Lib.hid (fun h => ht h.2)
          have HAK : Hid (overL t (allK us (k + 1)) = overL t (allK us k)) := Lib.hid (by rw [HAS.out, if_neg HC.out]; simp)
          clear hc ht f0
          go_wp2_with fail
          go_roundw
          case rel => exact ⟨k + 1, hlt, by go_num, HM.out, by rw [HAK.out, HLN.out]; exact HO.out, by rw [HNO.out HC.out]; exact HU.out⟩
          case measure => simp [intOf]; omega
        case pos =>
          have zt : decide (cu ≤ t) = true := decide_eq_true ht
          have HAK : Hid (overL t (allK us (k + 1)) = overL t (allK us k) ++ [(k : Int)]) := Lib.hid (by rw [HAS.out, if_pos ⟨hc, ht⟩])
          have HUK : Hid ((lapU t us k).set k 0 = lapU t us (k + 1)) := Lib.hid (HY.out hc ht)
          clear hc ht
          go_upto_region 7 with fail
          obtain ⟨ws, hws⟩ : ∃ W, World.setCell wo ⟨g, k, none⟩ (.int .i64 0) = W := ⟨_, rfl⟩
          have hus := HU.out.set k 0
          have hms : Mod (fun j => j = g) wo (World.setCell wo ⟨g, k, none⟩ (.int .i64 0)) := Mod.setCell (F := fun j => j = g) _ ⟨g, k, none⟩ _ rfl
          rw [hws] at hus hms ⊢
          rw [HUK.out] at hus
          have hos := Own.keep HO.out hms (fun j hj e => by have := (HO.out.lt j hj).1; omega)
          have HUS := Lib.hid hus
          have HOS := Lib.hid hos
          have HMS : Hid (Mod (fun j => j = g) w ws) := Lib.hid (HM.out.trans hms (fun _ _ e => e) (fun _ _ e => e))
          have HSS : Hid (w.heap.size ≤ ws.heap.size) := Lib.hid HMS.out.size
          clear hws hus hms hos qq cA f0
          go_wp2_with (at_builtin; refine wpList_append_any rfl (.tmp 41) (.tmp 43) 28 rfl 3 iI (.int .i64 0) 1 8 Try.underlying28 hiI hzI hsI hbI rfl (by decide) _ ln _ rfl (World.ownsRow.alloc (Own.base HOS.out (Nat.zero_le _)) _) _ 1 [.int .i64 (k : Int)] rfl (Rd.one _ _ _) (by simp [Value.oneCell']) (by unfold maxLen; omega) (by omega) ?_; intro v4 w4 hap; obtain ⟨a4, c4, rfl⟩ := hap.form; have ho4 := hap.own; have lo4 := hap.low (B := w.heap.size) (by have := HSS.out; simp; omega) (fun q hq => (HOS.out.lt q hq).1); have HO4 := Lib.hid (Own.rebase ho4 lo4); have HA4 := Lib.hid (hap.mod.mono (fun q _ e => (HOS.out.lt q e).1)); clear hap ho4 lo4)
          go_roundw
          case rel => exact ⟨k + 1, hlt, by go_num, (HMS.out.thenAlloc _).trans HA4.out (fun _ _ e => e) (fun i hi e => by have h : w.heap.size ≤ i := e; omega), by rw [HAK.out, List.length_append, HLN.out, List.map_append]; exact HO4.out, (HUS.out.keep (Mod.alloc (fun _ => False) ws _) (fun e => e) (fun e => e)).keep HA4.out (fun e => by have h1 := HS0.out.blk.lt; have h2 : w.heap.size ≤ q := e; omega) (fun e => by have h2 : w.heap.size ≤ g := e; omega)⟩
          case measure => simp [intOf]; omega
    case neg =>
      obtain rfl : k = n := by omega
      have z0 : decide ((k : Int) < (k : Int)) = false := by simp
      go_wp2_with fail
      go_ret
      exact ⟨_, rfl, HO.out, HU.out, HM.out⟩
/-- What each operation of the statement leaves. -/
def uc_r6_0_F (q : Nat) (g : Nat) (n : Nat) (m : Nat) (c : Nat) (k : Nat) (a : Option Addr) (x : Int) (eb : Nat) (eo : Nat) : List (Value → World → Prop) :=
  [IsV (.slice a m c),
   IsV (.int .i64 (k : Int)),
   IsV (.pointer (some ⟨eb, eo, none⟩)),
   IsV (.int .i64 x),
   IsV (.pointer (some ⟨q, 0, none⟩)),
   IsV (.pointer (some ⟨q, 0, none⟩)),
   IsV (.pointer (some ⟨q, 0, none⟩)),
   IsV (.slice (some ⟨g, 0, none⟩) n n),
   IsV (.int .i64 (n : Int)),
   IsV (.int .i64 ((n : Int) - 1)),
   IsV (.bool true),
   IsV (.bool false)]
def uc_r6_0_D : List (List Nat) := [[], [], [0, 1], [2], [], [4], [5], [6], [7], [8], [3, 9], [10]]

/-- What each operation of the statement leaves. -/
def uc_r6_1_F (q : Nat) (g : Nat) (n : Nat) (m : Nat) (c : Nat) (k : Nat) (a : Option Addr) (x : Int) (eb : Nat) (eo : Nat) : List (Value → World → Prop) :=
  [IsV (.slice a m c),
   IsV (.int .i64 (k : Int)),
   IsV (.pointer (some ⟨eb, eo, none⟩)),
   IsV (.int .i64 x),
   IsV (.pointer (some ⟨q, 0, none⟩)),
   IsV (.pointer (some ⟨q, 0, none⟩)),
   IsV (.pointer (some ⟨q, 0, none⟩)),
   IsV (.slice (some ⟨g, 0, none⟩) n n),
   IsV (.int .i64 (n : Int)),
   IsV (.int .i64 ((n : Int) - 1)),
   IsV (.bool false),
   IsV (.bool true)]
def uc_r6_1_D : List (List Nat) := [[], [], [0, 1], [2], [], [4], [5], [6], [7], [8], [3, 9], [10]]

/-- What each operation of the statement leaves. -/
def uc_r12_2_F (n : Nat) (c : Nat) (k : Nat) (fb : Nat) (kx : Nat) (a : Option Addr) (eb : Nat) (eo : Nat) (j : Nat) : List FactP :=
  [(true, fun _ => IsV (.slice (some ⟨fb, 0, none⟩) n n)),
   (true, fun _ => IsV (.slice a k c)),
   (true, fun _ => IsV (.int .i64 (j : Int))),
   (true, fun _ => IsV (.pointer (some ⟨eb, eo, none⟩))),
   (true, fun _ => IsV (.int .i64 (kx : Int))),
   (true, fun _ => IsV (.slice (some ⟨fb, 0, none⟩) n n)),
   (true, fun _ => IsV (.slice a k c)),
   (true, fun _ => IsV (.int .i64 (j : Int))),
   (true, fun _ => IsV (.pointer (some ⟨eb, eo, none⟩))),
   (true, fun _ => IsV (.int .i64 (kx : Int))),
   (true, fun _ => IsV (.pointer (some ⟨fb, kx, none⟩))),
   (true, fun _ => IsV (.bool true)),
   (true, fun _ => IsV (.bool true)),
   (true, fun _ => IsV (undef)),
   (true, fun _ => IsV (undef)),
   (true, fun _ => IsV (undef)),
   (true, fun _ => IsV (undef)),
   (true, fun _ => IsV (undef)),
   (true, fun _ => IsV (undef)),
   (true, fun _ => IsV (undef)),
   (true, fun _ => IsV (undef)),
   (true, fun _ => IsV (undef)),
   (true, fun _ => IsV (undef)),
   (true, fun _ => IsV (undef)),
   (true, fun _ => IsV (.bool true)),
   (true, fun _ => IsV (.pointer (some ⟨fb, kx, none⟩)))]
def uc_r12_2_D : List (List Nat) := [[], [], [], [1, 2], [3], [], [], [], [6, 7], [8], [5, 9], [10], [11], [12], [12], [12], [12], [12], [12], [12], [12], [12], [12], [12], [12, 23], [0, 4]]
def uc_r12_2_C : List Nat := [1000, 1000, 1000, 1000, 1000, 1000, 1000, 1000, 1000, 1000, 1000, 1000, 1000, 1000, 1000, 1000, 1000, 1000, 1000, 1000, 1000, 1000, 1000, 1000, 1000, 1000]

/-- What each operation of the statement leaves. -/
def uc_r13_3_F (q : Nat) (g : Nat) (n : Nat) (c : Nat) (k : Nat) (kx : Nat) (a : Option Addr) (u : Int) (j : Nat) (yb : Nat) (yo : Nat) : List FactP :=
  [(true, fun _ => IsV (.pointer (some ⟨q, 0, none⟩))),
   (true, fun _ => IsV (.pointer (some ⟨q, 0, none⟩))),
   (true, fun _ => IsV (.pointer (some ⟨q, 0, none⟩))),
   (true, fun _ => IsV (.slice (some ⟨g, 0, none⟩) n n)),
   (true, fun _ => IsV (.slice a k c)),
   (true, fun _ => IsV (.int .i64 (j : Int))),
   (true, fun _ => IsV (.pointer (some ⟨yb, yo, none⟩))),
   (true, fun _ => IsV (.int .i64 (kx : Int))),
   (true, fun _ => IsV (.int .i64 u)),
   (true, fun _ => IsV (.pointer (some ⟨g, kx, none⟩)))]
def uc_r13_3_D : List (List Nat) := [[], [0], [1], [2], [], [], [4, 5], [6], [], [3, 7]]
def uc_r13_3_C : List Nat := [1000, 1000, 1000, 1000, 1000, 1000, 1000, 1000, 1000, 1000]

/-- What each operation of the statement leaves. -/
def uc_r12_4_F (q : Nat) (g : Nat) (n : Nat) (c : Nat) (k : Nat) (fb : Nat) (kx : Nat) (a : Option Addr) (uk : Int) (eb : Nat) (eo : Nat) (j : Nat) : List FactP :=
  [(true, fun _ => IsV (.slice (some ⟨fb, 0, none⟩) n n)),
   (true, fun _ => IsV (.slice a k c)),
   (true, fun _ => IsV (.int .i64 (j : Int))),
   (true, fun _ => IsV (.pointer (some ⟨eb, eo, none⟩))),
   (true, fun _ => IsV (.int .i64 (kx : Int))),
   (true, fun _ => IsV (.slice (some ⟨fb, 0, none⟩) n n)),
   (true, fun _ => IsV (.slice a k c)),
   (true, fun _ => IsV (.int .i64 (j : Int))),
   (true, fun _ => IsV (.pointer (some ⟨eb, eo, none⟩))),
   (true, fun _ => IsV (.int .i64 (kx : Int))),
   (true, fun _ => IsV (.pointer (some ⟨fb, kx, none⟩))),
   (true, fun _ => IsV (.bool false)),
   (true, fun _ => IsV (.bool false)),
   (true, fun _ => IsV (.pointer (some ⟨q, 0, none⟩))),
   (true, fun _ => IsV (.pointer (some ⟨q, 0, none⟩))),
   (true, fun _ => IsV (.pointer (some ⟨q, 0, none⟩))),
   (true, fun _ => IsV (.slice (some ⟨g, 0, none⟩) n n)),
   (true, fun _ => IsV (.slice a k c)),
   (true, fun _ => IsV (.int .i64 (j : Int))),
   (true, fun _ => IsV (.pointer (some ⟨eb, eo, none⟩))),
   (true, fun _ => IsV (.int .i64 (kx : Int))),
   (true, fun _ => IsV (.pointer (some ⟨g, kx, none⟩))),
   (true, fun _ => IsV (.int .i64 uk)),
   (true, fun _ => IsV (.bool (uk == 0))),
   (true, fun _ => IsV (.bool (uk == 0))),
   (true, fun _ => IsV (.pointer (some ⟨fb, kx, none⟩)))]
def uc_r12_4_D : List (List Nat) := [[], [], [], [1, 2], [3], [], [], [], [6, 7], [8], [5, 9], [10], [11], [12], [12, 13], [12, 14], [12, 15], [12], [12], [12, 17, 18], [12, 19], [12, 16, 20], [12, 21], [12, 22], [12, 23], [0, 4]]
def uc_r12_4_C : List Nat := [1000, 1000, 1000, 1000, 1000, 1000, 1000, 1000, 1000, 1000, 1000, 1000, 1000, 1000, 1000, 1000, 1000, 1000, 1000, 1000, 1000, 1000, 1000, 1000, 1000, 1000]

/-- What each operation of the statement leaves. -/
def uc_r13_5_F (q : Nat) (g : Nat) (n : Nat) (c : Nat) (k : Nat) (kx : Nat) (a : Option Addr) (u : Int) (j : Nat) (yb : Nat) (yo : Nat) : List FactP :=
  [(true, fun _ => IsV (.pointer (some ⟨q, 0, none⟩))),
   (true, fun _ => IsV (.pointer (some ⟨q, 0, none⟩))),
   (true, fun _ => IsV (.pointer (some ⟨q, 0, none⟩))),
   (true, fun _ => IsV (.slice (some ⟨g, 0, none⟩) n n)),
   (true, fun _ => IsV (.slice a k c)),
   (true, fun _ => IsV (.int .i64 (j : Int))),
   (true, fun _ => IsV (.pointer (some ⟨yb, yo, none⟩))),
   (true, fun _ => IsV (.int .i64 (kx : Int))),
   (true, fun _ => IsV (.int .i64 u)),
   (true, fun _ => IsV (.pointer (some ⟨g, kx, none⟩)))]
def uc_r13_5_D : List (List Nat) := [[], [0], [1], [2], [], [], [4, 5], [6], [], [3, 7]]
def uc_r13_5_C : List Nat := [1000, 1000, 1000, 1000, 1000, 1000, 1000, 1000, 1000, 1000]

/-- What the call tells and leaves. -/
def ucloseP (q g n : Nat) (us : List Int) (u : Int) (xs : List Int) (w : World) (e : Ending) (w' : World) : Prop :=
  (((1 ≤ u ∧ u ≤ 1099511627776) ∧ hasB n xs = true) ∧ ∃ v, e = .returned (.tuple #[v, .int .i64 0]) ∧ w'.ownsRow w.heap.size 3 1 v (listK (frK u us xs xs.length) n).length ((listK (frK u us xs xs.length) n).map (Value.int .i64)) ∧ UO w' q g n (putU u us xs) ∧ Mod (fun b => b = g) w w') ∨
  (¬ ((1 ≤ u ∧ u ≤ 1099511627776) ∧ hasB n xs = true) ∧ e = .returned (.tuple #[.slice none 0 0, .int .i64 1]) ∧ Mod (fun _ => False) w w')
set_option maxHeartbeats 32000000 in
theorem uclose_any (q g n : Nat) (us : List Int) (w : World) (h : UO w q g n us) (a : Option Addr) (m c : Nat) (xs : List Int) (hx : XR w g a m c xs) (hb : m ≤ 100000) (u : Int) :
    Calls Try.prog 11 #[.pointer (some ⟨q, 0, none⟩), .int .i64 u, .slice a m c] w (ucloseP q g n us u xs w) := by
  obtain ⟨iI, hiI, hzI, hsI, hbI⟩ := info_parts infoI
  obtain ⟨iB, hiB, hzB, hsB, hbB⟩ := info_parts infoBl
  have hn := h.le
  have HUL := Lib.hid h.len
  have HL := Lib.hid hx.len
  have HU0 := Lib.hid h
  have HX0 := Lib.hid hx
  have hmk := run_makeS (P := Try.prog) 40 4 iB (.bool false) Try.underlying40 hiB hzB rfl hsB n (by rw [hbB]; omega) (by omega)
  have HMK := Lib.hid hmk
  clear hmk
  have HS : Hid (Ev (Mod (fun _ => False) w) w) := Lib.hid (Ev.mod w)
  replace HS := Lib.hid ((Ev.uo h).and HS.out)
  replace HS := Lib.hid ((Ev.rd hx.rd).and HS.out)
  clear h hx
  go_enter Try.func11, Try.ntmps11
  by_cases hu : 1 ≤ u ∧ u ≤ 1099511627776
  case neg =>
    have h1 : decide (1 ≤ u ∧ u ≤ 1099511627776) = false := decide_eq_false hu
    go_wp2_with fail
    refine (r4w_q h1 _).mono ?_
    rintro e w' ⟨rfl, rfl⟩
    go_wp2_with fail
    go_ret2
    exact .inr ⟨fun h => hu h.1, rfl, HS.out.now.2.2⟩
  case pos =>
    have h1 : decide (1 ≤ u ∧ u ≤ 1099511627776) = true := decide_eq_true hu
    go_wp2_with fail
    refine (r4w_q h1 _).mono ?_
    rintro e w' ⟨rfl, rfl⟩
    clear h1
    have HUU := Lib.hid hu
    clear hu
    go_wp2_with fail
    replace HS := Lib.hid ((Ev.mod w).and HS.out)
    go_loopw [8] (fun i wr => ∃ k : Nat, k ≤ m ∧ i = .int .i64 k ∧ hasB n (xs.take k) = true ∧ Mod (fun _ => False) w wr) (fun i _ => m - (intOf i).toNat)
    case atStart => exact ⟨0, by omega, rfl, rfl, Mod.refl _ _⟩
    case round =>
      obtain ⟨k, hk, rfl, hb1, hmr⟩ := hrel
      obtain ⟨wo, hwo⟩ : ∃ x : World, x = wr := ⟨_, rfl⟩
      subst hwo
      replace HS := Lib.hid (HS.out.step hmr)
      clear hmr
      have HB1 := Lib.hid hb1
      clear hb1
      by_cases hlt : k < m
      case pos =>
        have hkl : k < xs.length := by rw [HL.out]; exact hlt
        have z0 : decide ((k : Int) < (m : Int)) = true := by simp; omega
        have HTK := Lib.hid (hasB_take n xs k hkl)
        have HNOB := Lib.hid (hasB_no n xs k hkl)
        obtain ⟨x, HX0⟩ : ∃ qz, xs[k] = qz := ⟨_, rfl⟩
        have HX := Lib.hid HX0
        clear HX0
        rw [HX.out] at HTK HNOB
        obtain ⟨eb, eo, hpl, e0⟩ := rd1 (HS.out.now).2.1 k hkl
        have hix := fun wx => run_indexS (P := Try.prog) wx 28 3 iI 1 Try.underlying28 hiI hsI a m c k hlt ((HS.out.now).2.1.some_ (by have := hlt; omega))
        rw [hpl] at hix
        have HIe := Lib.hid hix
        clear hix hpl
        rw [HX.out] at e0
        replace HS := Lib.hid ((Ev.cell e0).and HS.out)
        clear e0
        by_cases hx : 0 ≤ x ∧ x < (n : Int)
        case pos =>
          have HE : Hid (edge1 n x = true) := Lib.hid (decide_eq_true hx)
          have HW : Hid (decide (0 ≤ x ∧ x ≤ (n : Int) - 1) = true) := Lib.hid (decide_eq_true (by omega))
          clear hx
          go_upto_region 6 with fail
          clear z0
          have HSd := Lib.hid HS.out.drew
          refine wp_region_inv3 (act := ?actuc_r6_0) (Mod (fun _ => False)) (fun i => (uc_r6_0_F q g n m c k a x eb eo).getD i (fun _ _ => True)) (fun i => uc_r6_0_D.getD i []) (by kernel_rfl) (by kernel_rfl) (by kernel_rfl) (by kernel_rfl) (fun _ => Mod.refl _ _)
            (fun _ _ _ h k => h.trans k (fun _ _ e => e) (fun _ _ e => e)) ?hactuc_r6_0 (stable_list ?_) ?_ ?_
          case hactuc_r6_0 => intro vs; simp only [putAll, Nat.zero_add, Nat.reduceAdd, Act.put, List.setIfInBounds_toArray, List.set_cons_succ, List.set_cons_zero]; exact rfl
          · unfold uc_r6_0_F
            exact stable_cons (stable_val _) <| stable_cons (stable_val _) <| stable_cons (stable_val _) <| stable_cons (stable_val _) <| stable_cons (stable_val _) <| stable_cons (stable_val _) <| stable_cons (stable_val _) <| stable_cons (stable_val _) <| stable_cons (stable_val _) <| stable_cons (stable_val _) <| stable_cons (stable_val _) <| stable_cons (stable_val _) <| stable_nil
          · refine opsOkA_cons ?_ ?_
            · intro K vs W hR hD hK
              clear hD
              try dsimp only at hK ⊢
              simp only [Act.put, List.setIfInBounds_toArray, List.set_cons_succ, List.set_cons_zero] at hK
              go_wp2
              exact hK _ _ rfl (Mod.refl _ _)
            refine opsOkA_cons ?_ ?_
            · intro K vs W hR hD hK
              clear hD
              try dsimp only at hK ⊢
              simp only [Act.put, List.setIfInBounds_toArray, List.set_cons_succ, List.set_cons_zero] at hK
              go_wp2
              exact hK _ _ rfl (Mod.refl _ _)
            refine opsOkA_cons ?_ ?_
            · intro K vs W hR hD hK
              have dq0 : vs 0 = .slice a m c := hD 0 (by decide)
              have dq1 : vs 1 = .int .i64 (k : Int) := hD 1 (by decide)
              clear hD
              try dsimp only at hK ⊢
              simp only [Act.put, List.setIfInBounds_toArray, List.set_cons_succ, List.set_cons_zero] at hK
              generalize vs 0 = vq0 at hK dq0 ⊢
              subst vq0
              generalize vs 1 = vq1 at hK dq1 ⊢
              subst vq1
              have hix := HIe.out
              go_wp2_with fail
              exact hK _ _ rfl (Mod.refl _ _)
            refine opsOkA_cons ?_ ?_
            · intro K vs W hR hD hK
              have dq2 : vs 2 = .pointer (some ⟨eb, eo, none⟩) := hD 2 (by decide)
              clear hD
              try dsimp only at hK ⊢
              simp only [Act.put, List.setIfInBounds_toArray, List.set_cons_succ, List.set_cons_zero] at hK
              generalize vs 2 = vq2 at hK dq2 ⊢
              subst vq2
              have c0 := (HSd.out.at (hR)).1
              go_wp2
              exact hK _ _ rfl (Mod.refl _ _)
            refine opsOkA_cons ?_ ?_
            · intro K vs W hR hD hK
              clear hD
              try dsimp only at hK ⊢
              simp only [Act.put, List.setIfInBounds_toArray, List.set_cons_succ, List.set_cons_zero] at hK
              go_wp2
              exact hK _ _ rfl (Mod.refl _ _)
            refine opsOkA_cons ?_ ?_
            · intro K vs W hR hD hK
              have dq4 : vs 4 = .pointer (some ⟨q, 0, none⟩) := hD 4 (by decide)
              clear hD
              try dsimp only at hK ⊢
              simp only [Act.put, List.setIfInBounds_toArray, List.set_cons_succ, List.set_cons_zero] at hK
              generalize vs 4 = vq4 at hK dq4 ⊢
              subst vq4
              go_wp2
              exact hK _ _ rfl (Mod.refl _ _)
            refine opsOkA_cons ?_ ?_
            · intro K vs W hR hD hK
              have dq5 : vs 5 = .pointer (some ⟨q, 0, none⟩) := hD 5 (by decide)
              clear hD
              try dsimp only at hK ⊢
              simp only [Act.put, List.setIfInBounds_toArray, List.set_cons_succ, List.set_cons_zero] at hK
              generalize vs 5 = vq5 at hK dq5 ⊢
              subst vq5
              go_wp2
              exact hK _ _ rfl (Mod.refl _ _)
            refine opsOkA_cons ?_ ?_
            · intro K vs W hR hD hK
              have dq6 : vs 6 = .pointer (some ⟨q, 0, none⟩) := hD 6 (by decide)
              clear hD
              try dsimp only at hK ⊢
              simp only [Act.put, List.setIfInBounds_toArray, List.set_cons_succ, List.set_cons_zero] at hK
              generalize vs 6 = vq6 at hK dq6 ⊢
              subst vq6
              have c0 := ((HSd.out.at (hR)).2.2.2.1).blk.cell 0 rfl
              go_wp2
              exact hK _ _ rfl (Mod.refl _ _)
            refine opsOkA_cons ?_ ?_
            · intro K vs W hR hD hK
              have dq7 : vs 7 = .slice (some ⟨g, 0, none⟩) n n := hD 7 (by decide)
              clear hD
              try dsimp only at hK ⊢
              simp only [Act.put, List.setIfInBounds_toArray, List.set_cons_succ, List.set_cons_zero] at hK
              generalize vs 7 = vq7 at hK dq7 ⊢
              subst vq7
              go_wp2_with fail
              exact hK _ _ rfl (Mod.refl _ _)
            refine opsOkA_cons ?_ ?_
            · intro K vs W hR hD hK
              have dq8 : vs 8 = .int .i64 (n : Int) := hD 8 (by decide)
              clear hD
              try dsimp only at hK ⊢
              simp only [Act.put, List.setIfInBounds_toArray, List.set_cons_succ, List.set_cons_zero] at hK
              generalize vs 8 = vq8 at hK dq8 ⊢
              subst vq8
              go_wp2
              exact hK _ _ rfl (Mod.refl _ _)
            refine opsOkA_cons ?_ ?_
            · intro K vs W hR hD hK
              have dq3 : vs 3 = .int .i64 x := hD 3 (by decide)
              have dq9 : vs 9 = .int .i64 ((n : Int) - 1) := hD 9 (by decide)
              clear hD
              try dsimp only at hK ⊢
              simp only [Act.put, List.setIfInBounds_toArray, List.set_cons_succ, List.set_cons_zero] at hK
              generalize vs 3 = vq3 at hK dq3 ⊢
              subst vq3
              generalize vs 9 = vq9 at hK dq9 ⊢
              subst vq9
              go_wp2_with (go_at_call 24; refine (r4w_q HW.out W).mono ?_; rintro e' w' ⟨rfl, rfl⟩)
              exact hK _ _ rfl (Mod.refl _ _)
            refine opsOkA_cons ?_ ?_
            · intro K vs W hR hD hK
              have dq10 : vs 10 = .bool true := hD 10 (by decide)
              clear hD
              try dsimp only at hK ⊢
              simp only [Act.put, List.setIfInBounds_toArray, List.set_cons_succ, List.set_cons_zero] at hK
              generalize vs 10 = vq10 at hK dq10 ⊢
              subst vq10
              go_wp2
              exact hK _ _ rfl (Mod.refl _ _)
            exact opsOkA_nil
          · intro vs wq1 hR hF
            have dq11 : vs 11 = .bool false := hF 11 (by decide)
            clear hF
            try dsimp only
            generalize vs 11 = vq11 at dq11 ⊢
            subst dq11
            replace HS := Lib.hid (HSd.out.step hR)
            clear HSd hR
            go_wp2_with fail
            go_roundw
            case rel => exact ⟨k + 1, hlt, by go_num, by rw [HTK.out, HB1.out, HE.out]; rfl, (HS.out.now).2.1⟩
            case measure => simp [intOf]; omega
        case neg =>
          have HE : Hid (edge1 n x = false) := Lib.hid (decide_eq_false hx)
          have HW : Hid (decide (0 ≤ x ∧ x ≤ (n : Int) - 1) = false) := Lib.hid (decide_eq_false (by omega))
          clear hx
          go_upto_region 6 with fail
          clear z0
          have HSd := Lib.hid HS.out.drew
          refine wp_region_inv3 (act := ?actuc_r6_1) (Mod (fun _ => False)) (fun i => (uc_r6_1_F q g n m c k a x eb eo).getD i (fun _ _ => True)) (fun i => uc_r6_1_D.getD i []) (by kernel_rfl) (by kernel_rfl) (by kernel_rfl) (by kernel_rfl) (fun _ => Mod.refl _ _)
            (fun _ _ _ h k => h.trans k (fun _ _ e => e) (fun _ _ e => e)) ?hactuc_r6_1 (stable_list ?_) ?_ ?_
          case hactuc_r6_1 => intro vs; simp only [putAll, Nat.zero_add, Nat.reduceAdd, Act.put, List.setIfInBounds_toArray, List.set_cons_succ, List.set_cons_zero]; exact rfl
          · unfold uc_r6_1_F
            exact stable_cons (stable_val _) <| stable_cons (stable_val _) <| stable_cons (stable_val _) <| stable_cons (stable_val _) <| stable_cons (stable_val _) <| stable_cons (stable_val _) <| stable_cons (stable_val _) <| stable_cons (stable_val _) <| stable_cons (stable_val _) <| stable_cons (stable_val _) <| stable_cons (stable_val _) <| stable_cons (stable_val _) <| stable_nil
          · refine opsOkA_cons ?_ ?_
            · intro K vs W hR hD hK
              clear hD
              try dsimp only at hK ⊢
              simp only [Act.put, List.setIfInBounds_toArray, List.set_cons_succ, List.set_cons_zero] at hK
              go_wp2
              exact hK _ _ rfl (Mod.refl _ _)
            refine opsOkA_cons ?_ ?_
            · intro K vs W hR hD hK
              clear hD
              try dsimp only at hK ⊢
              simp only [Act.put, List.setIfInBounds_toArray, List.set_cons_succ, List.set_cons_zero] at hK
              go_wp2
              exact hK _ _ rfl (Mod.refl _ _)
            refine opsOkA_cons ?_ ?_
            · intro K vs W hR hD hK
              have dq0 : vs 0 = .slice a m c := hD 0 (by decide)
              have dq1 : vs 1 = .int .i64 (k : Int) := hD 1 (by decide)
              clear hD
              try dsimp only at hK ⊢
              simp only [Act.put, List.setIfInBounds_toArray, List.set_cons_succ, List.set_cons_zero] at hK
              generalize vs 0 = vq0 at hK dq0 ⊢
              subst vq0
              generalize vs 1 = vq1 at hK dq1 ⊢
              subst vq1
              have hix := HIe.out
              go_wp2_with fail
              exact hK _ _ rfl (Mod.refl _ _)
            refine opsOkA_cons ?_ ?_
            · intro K vs W hR hD hK
              have dq2 : vs 2 = .pointer (some ⟨eb, eo, none⟩) := hD 2 (by decide)
              clear hD
              try dsimp only at hK ⊢
              simp only [Act.put, List.setIfInBounds_toArray, List.set_cons_succ, List.set_cons_zero] at hK
              generalize vs 2 = vq2 at hK dq2 ⊢
              subst vq2
              have c0 := (HSd.out.at (hR)).1
              go_wp2
              exact hK _ _ rfl (Mod.refl _ _)
            refine opsOkA_cons ?_ ?_
            · intro K vs W hR hD hK
              clear hD
              try dsimp only at hK ⊢
              simp only [Act.put, List.setIfInBounds_toArray, List.set_cons_succ, List.set_cons_zero] at hK
              go_wp2
              exact hK _ _ rfl (Mod.refl _ _)
            refine opsOkA_cons ?_ ?_
            · intro K vs W hR hD hK
              have dq4 : vs 4 = .pointer (some ⟨q, 0, none⟩) := hD 4 (by decide)
              clear hD
              try dsimp only at hK ⊢
              simp only [Act.put, List.setIfInBounds_toArray, List.set_cons_succ, List.set_cons_zero] at hK
              generalize vs 4 = vq4 at hK dq4 ⊢
              subst vq4
              go_wp2
              exact hK _ _ rfl (Mod.refl _ _)
            refine opsOkA_cons ?_ ?_
            · intro K vs W hR hD hK
              have dq5 : vs 5 = .pointer (some ⟨q, 0, none⟩) := hD 5 (by decide)
              clear hD
              try dsimp only at hK ⊢
              simp only [Act.put, List.setIfInBounds_toArray, List.set_cons_succ, List.set_cons_zero] at hK
              generalize vs 5 = vq5 at hK dq5 ⊢
              subst vq5
              go_wp2
              exact hK _ _ rfl (Mod.refl _ _)
            refine opsOkA_cons ?_ ?_
            · intro K vs W hR hD hK
              have dq6 : vs 6 = .pointer (some ⟨q, 0, none⟩) := hD 6 (by decide)
              clear hD
              try dsimp only at hK ⊢
              simp only [Act.put, List.setIfInBounds_toArray, List.set_cons_succ, List.set_cons_zero] at hK
              generalize vs 6 = vq6 at hK dq6 ⊢
              subst vq6
              have c0 := ((HSd.out.at (hR)).2.2.2.1).blk.cell 0 rfl
              go_wp2
              exact hK _ _ rfl (Mod.refl _ _)
            refine opsOkA_cons ?_ ?_
            · intro K vs W hR hD hK
              have dq7 : vs 7 = .slice (some ⟨g, 0, none⟩) n n := hD 7 (by decide)
              clear hD
              try dsimp only at hK ⊢
              simp only [Act.put, List.setIfInBounds_toArray, List.set_cons_succ, List.set_cons_zero] at hK
              generalize vs 7 = vq7 at hK dq7 ⊢
              subst vq7
              go_wp2_with fail
              exact hK _ _ rfl (Mod.refl _ _)
            refine opsOkA_cons ?_ ?_
            · intro K vs W hR hD hK
              have dq8 : vs 8 = .int .i64 (n : Int) := hD 8 (by decide)
              clear hD
              try dsimp only at hK ⊢
              simp only [Act.put, List.setIfInBounds_toArray, List.set_cons_succ, List.set_cons_zero] at hK
              generalize vs 8 = vq8 at hK dq8 ⊢
              subst vq8
              go_wp2
              exact hK _ _ rfl (Mod.refl _ _)
            refine opsOkA_cons ?_ ?_
            · intro K vs W hR hD hK
              have dq3 : vs 3 = .int .i64 x := hD 3 (by decide)
              have dq9 : vs 9 = .int .i64 ((n : Int) - 1) := hD 9 (by decide)
              clear hD
              try dsimp only at hK ⊢
              simp only [Act.put, List.setIfInBounds_toArray, List.set_cons_succ, List.set_cons_zero] at hK
              generalize vs 3 = vq3 at hK dq3 ⊢
              subst vq3
              generalize vs 9 = vq9 at hK dq9 ⊢
              subst vq9
              go_wp2_with (go_at_call 24; refine (r4w_q HW.out W).mono ?_; rintro e' w' ⟨rfl, rfl⟩)
              exact hK _ _ rfl (Mod.refl _ _)
            refine opsOkA_cons ?_ ?_
            · intro K vs W hR hD hK
              have dq10 : vs 10 = .bool false := hD 10 (by decide)
              clear hD
              try dsimp only at hK ⊢
              simp only [Act.put, List.setIfInBounds_toArray, List.set_cons_succ, List.set_cons_zero] at hK
              generalize vs 10 = vq10 at hK dq10 ⊢
              subst vq10
              go_wp2
              exact hK _ _ rfl (Mod.refl _ _)
            exact opsOkA_nil
          · intro vs wq2 hR hF
            have dq11 : vs 11 = .bool true := hF 11 (by decide)
            clear hF
            try dsimp only
            generalize vs 11 = vq11 at dq11 ⊢
            subst dq11
            replace HS := Lib.hid (HSd.out.step hR)
            clear HSd hR
            go_wp2_with fail
            go_ret2
            exact .inr ⟨(fun h => by have h2 := HNOB.out HE.out; rw [h.2] at h2; cases h2), rfl, (HS.out.now).2.2.2.2⟩
      case neg =>
        obtain rfl : k = m := by omega
        have z0 : decide ((k : Int) < (k : Int)) = false := by simp
        have hin := HB1.out
        rw [List.take_of_length_le (by rw [HL.out]; exact Nat.le_refl _)] at hin
        have HIN := Lib.hid hin
        clear hin
        have hq := ((HS.out.now).2.2.1).blk.cell 0 rfl
        have lq := ((HS.out.now).2.2.1).blk.lt
        have hmk := HMK.out
        go_upto_region 9 with fail
        clear hmk z0 hq lq
        obtain ⟨fb, hfb⟩ : ∃ g, wo.heap.size = g := ⟨_, rfl⟩
        have ho := own_zrow wo 4 (.bool false) n wo.heap.size rfl (by omega)
        obtain ⟨wA, hwA⟩ : ∃ W, World.alloc wo (.cells (zrow (.bool false) n) 4) = W := ⟨_, rfl⟩
        have hmA : Mod (fun _ => False) wo wA := by rw [← hwA]; exact Mod.alloc _ _ _
        rw [hwA] at ho ⊢
        rw [hfb] at ho ⊢
        have hsz : w.heap.size ≤ fb := by rw [← hfb]; exact ((HS.out.now).2.2.2).size
        have hmw := ((HS.out.now).2.2.2).of2 hmA
        have HOA : Hid (World.ownsRow wA 0 4 1 (.slice (some ⟨fb, 0, none⟩) n n) n ((frK u us xs 0).map Value.bool)) := Lib.hid (by rw [frK_zero, HUL.out, List.map_replicate]; exact ho)
        have HUA := Lib.hid (((HS.out.now).2.2.1).keep hmA (fun e => e) (fun e => e))
        have HMA := Lib.hid hmw
        have HFB := Lib.hid hsz
        have hgf : g < fb := by have := HU0.out.gl; omega
        have hqf : q < fb := by have := HU0.out.blk.lt; omega
        have lfA : fb < wA.heap.size := by rw [← hwA, heap_size_alloc]; omega
        clear ho hmA hwA hfb hmw hsz HS
        go_wp2_with fail
        go_loopw [10] (fun i wr => ∃ j : Nat, j ≤ k ∧ i = .int .i64 j ∧ Mod (fun b => b = g ∨ b = fb) wA wr ∧ World.ownsRow wr 0 4 1 (.slice (some ⟨fb, 0, none⟩) n n) n ((frK u us xs j).map Value.bool) ∧ UO wr q g n (putU u us (xs.take j))) (fun i _ => k - (intOf i).toNat)
        case atStart => exact ⟨0, by omega, rfl, Mod.refl _ _, HOA.out, HUA.out⟩
        case round =>
          obtain ⟨j, hj, rfl, hmr, hown, huo⟩ := hrel
          obtain ⟨wo, hwo⟩ : ∃ x : World, x = wr := ⟨_, rfl⟩
          subst hwo
          have hmw : Mod (fun b => b = g) w wo := HMA.out.trans hmr (fun _ _ e => e.elim) (fun i hi e => by rcases e with e | e; exact e; have := HFB.out; omega)
          have hrd := HX0.out.rd.keepA hmw (fun b hb e => HX0.out.off b hb e)
          have HMR := Lib.hid hmr
          have HMW := Lib.hid hmw
          have HOW := Lib.hid hown
          have HUO := Lib.hid huo
          clear hmr hmw hown huo
          by_cases hlt : j < k
          case neg =>
            obtain rfl : j = k := by omega
            have z0 : decide ((j : Int) < (j : Int)) = false := by simp
            have huo := HUO.out
            rw [List.take_of_length_le (by rw [HL.out]; exact Nat.le_refl _)] at huo
            have HUF := Lib.hid huo
            clear huo hrd
            go_wp2_with fail
            refine (listed_any wo _ n n (frK u us xs j) (by rw [frK_len, HUL.out]) (Rd.ofOwn HOW.out) hn).mono ?_
            rintro e wz ⟨v, rfl, ho, hm⟩
            obtain ⟨a4, c4, rfl⟩ := own_form ho
            have HO := Lib.hid ho
            have HM := Lib.hid hm
            clear ho hm
            go_wp2_with fail
            go_ret2
            have hmz : Mod (fun b => b = g) w wz := HMW.out.trans HM.out (fun _ _ e => e) (fun _ _ e => e.elim)
            refine .inl ⟨⟨HUU.out, HIN.out⟩, _, rfl, ?_, HUF.out.keep HM.out (fun e => e) (fun e => e), hmz⟩
            rw [HL.out]
            exact Own.rebase HO.out (fun b hb => Nat.le_trans HMW.out.size (HO.out.lt b hb).1)
          case pos =>
            have z0 : decide ((j : Int) < (k : Int)) = true := by simp; omega
            have hjl : j < xs.length := by rw [HL.out]; exact hlt
            obtain ⟨kx, hkx, hkn⟩ := hasB_at HIN.out j hjl
            have hku : kx < us.length := by rw [HUL.out]; exact hkn
            have HALL : Hid (∀ x ∈ xs, 0 ≤ x) := Lib.hid (fun x hx => (hasB_all HIN.out x hx).1)
            have hkp : kx < (putU u us (xs.take j)).length := by rw [putU_len]; exact hku
            obtain ⟨uk, huk⟩ : ∃ x, (putU u us (xs.take j))[kx] = x := ⟨_, rfl⟩
            have hukd : (putU u us (xs.take j)).getD kx 0 = uk := by simp [List.getD, hkp, huk]
            obtain ⟨bo, hbo⟩ : ∃ b, (frK u us xs j)[kx]? = some b := ⟨_, List.getElem?_eq_getElem (by rw [frK_len]; exact hku)⟩
            have HSTP := Lib.hid (frK_step u us xs j hjl HALL.out kx hkx hku bo _ hbo rfl)
            rw [hukd] at HSTP
            have HS : Hid (Ev (Mod (fun _ => False) wo) wo) := Lib.hid (Ev.mod wo)
            replace HS := Lib.hid ((Ev.uo HUO.out).and HS.out)
            replace HS := Lib.hid ((Ev.rd hrd).and HS.out)
            have hcu := HUO.out.cell kx hkp
            rw [huk] at hcu
            replace HS := Lib.hid ((Ev.cell hcu).and HS.out)
            have hcb : wo.cell? ⟨fb, kx, none⟩ = some (.bool bo) := by have h1 := (Rd.ofOwn HOW.out).elem (j := kx) (u := .bool bo) (by rw [List.getElem?_map, hbo]; rfl); rwa [show elemA (some ⟨fb, 0, none⟩) kx 1 = ⟨fb, kx, none⟩ by unfold elemA; rw [Option.getD_some, Addr.add_lit]; simp] at h1
            replace HS := Lib.hid ((Ev.cell hcb).and HS.out)
            obtain ⟨eb, eo, hpl, e0⟩ := rd1 (HS.out.now).2.2.1 j hjl
            have hix := fun wx => run_indexS (P := Try.prog) wx 28 3 iI 1 Try.underlying28 hiI hsI a k c j hlt ((HS.out.now).2.2.1.some_ (by have := hlt; omega))
            rw [hpl] at hix
            have HIe := Lib.hid hix
            clear hix hpl
            rw [hkx] at e0
            replace HS := Lib.hid ((Ev.cell e0).and HS.out)
            clear e0
            have HIG : Hid (∀ wx, (Instr.indexAt 28 (.slice (some ⟨g, 0, none⟩) n n) (.int .i64 (kx : Int))).run Try.prog wx = .ok (.pointer (some ⟨g, kx, none⟩)) wx) := Lib.hid (fun wx => by have h := run_indexS (P := Try.prog) wx 28 3 iI 1 Try.underlying28 hiI hsI (some ⟨g, 0, none⟩) n n kx hkn (by simp); rwa [show elemA (some ⟨g, 0, none⟩) kx 1 = ⟨g, kx, none⟩ by unfold elemA; rw [Option.getD_some, Addr.add_lit]; simp] at h)
            have HIF : Hid (∀ wx, (Instr.indexAt 40 (.slice (some ⟨fb, 0, none⟩) n n) (.int .i64 (kx : Int))).run Try.prog wx = .ok (.pointer (some ⟨fb, kx, none⟩)) wx) := Lib.hid (fun wx => by have h := run_indexS (P := Try.prog) wx 40 4 iB 1 Try.underlying40 hiB hsB (some ⟨fb, 0, none⟩) n n kx hkn (by simp); rwa [show elemA (some ⟨fb, 0, none⟩) kx 1 = ⟨fb, kx, none⟩ by unfold elemA; rw [Option.getD_some, Addr.add_lit]; simp] at h)
            have hfr := Room.ofOwn HOW.out kx (by omega)
            have hff := hfr.free
            have HRF := Lib.hid hfr
            have HFF := Lib.hid hff
            clear hrd hcu hcb hbo hfr hff huk
            go_upto_region 12 with fail
            clear z0
            cases bo with
            | true =>
              obtain ⟨B0, hB0⟩ : ∃ n, wo.heap.size = n := ⟨_, rfl⟩
              have HB0 := Lib.hid hB0
              clear hB0
              have HOLD : Hid (∀ W, Mod (fun k => B0 ≤ k) (World.drew wo) W → Mod (fun _ => False) (World.drew wo) W) := Lib.hid fun W h => h.mono (fun i hi e => by have := HB0.out; simp at hi; omega)
              go_upto_region 12 with fail
              have HSd := Lib.hid HS.out.drew
              have HST : ∀ (ix : Nat) (vs : Nat → Value) (vx : Value) (wx wy : World), factP (uc_r12_2_F n c k fb kx a eb eo j) ix vs vx wx → Mod (fun _ => False) wx wy → factP (uc_r12_2_F n c k fb kx a eb eo j) ix vs vx wy := by
                refine factP_stays ?_
                unfold uc_r12_2_F
                exact stableP_cons (StableP.of (stable_val _)) <| stableP_cons (StableP.of (stable_val _)) <| stableP_cons (StableP.of (stable_val _)) <| stableP_cons (StableP.of (stable_val _)) <| stableP_cons (StableP.of (stable_val _)) <| stableP_cons (StableP.of (stable_val _)) <| stableP_cons (StableP.of (stable_val _)) <| stableP_cons (StableP.of (stable_val _)) <| stableP_cons (StableP.of (stable_val _)) <| stableP_cons (StableP.of (stable_val _)) <| stableP_cons (StableP.of (stable_val _)) <| stableP_cons (StableP.of (stable_val _)) <| stableP_cons (StableP.of (stable_val _)) <| stableP_cons (StableP.of (stable_val _)) <| stableP_cons (StableP.of (stable_val _)) <| stableP_cons (StableP.of (stable_val _)) <| stableP_cons (StableP.of (stable_val _)) <| stableP_cons (StableP.of (stable_val _)) <| stableP_cons (StableP.of (stable_val _)) <| stableP_cons (StableP.of (stable_val _)) <| stableP_cons (StableP.of (stable_val _)) <| stableP_cons (StableP.of (stable_val _)) <| stableP_cons (StableP.of (stable_val _)) <| stableP_cons (StableP.of (stable_val _)) <| stableP_cons (StableP.of (stable_val _)) <| stableP_cons (StableP.of (stable_val _)) <| stableP_nil
              have HSO : ∀ px ∈ (uc_r12_2_F n c k fb kx a eb eo j), px.1 = true → ∀ (vs : Nat → Value) (vx : Value) (wx wy : World), px.2 vs vx wx → px.2 vs vx wy := by
                unfold uc_r12_2_F
                exact solidP_cons (solid_val _) <| solidP_cons (solid_val _) <| solidP_cons (solid_val _) <| solidP_cons (solid_val _) <| solidP_cons (solid_val _) <| solidP_cons (solid_val _) <| solidP_cons (solid_val _) <| solidP_cons (solid_val _) <| solidP_cons (solid_val _) <| solidP_cons (solid_val _) <| solidP_cons (solid_val _) <| solidP_cons (solid_val _) <| solidP_cons (solid_val _) <| solidP_cons (solid_val _) <| solidP_cons (solid_val _) <| solidP_cons (solid_val _) <| solidP_cons (solid_val _) <| solidP_cons (solid_val _) <| solidP_cons (solid_val _) <| solidP_cons (solid_val _) <| solidP_cons (solid_val _) <| solidP_cons (solid_val _) <| solidP_cons (solid_val _) <| solidP_cons (solid_val _) <| solidP_cons (solid_val _) <| solidP_cons (solid_val _) <| solidP_nil
              have HLO : LocL (fun i => uc_r12_2_D.getD i []) 0 (uc_r12_2_F n c k fb kx a eb eo j) := by
                unfold uc_r12_2_F
                exact loc_cons (loc_own _) <| loc_cons (loc_own _) <| loc_cons (loc_own _) <| loc_cons (loc_own _) <| loc_cons (loc_own _) <| loc_cons (loc_own _) <| loc_cons (loc_own _) <| loc_cons (loc_own _) <| loc_cons (loc_own _) <| loc_cons (loc_own _) <| loc_cons (loc_own _) <| loc_cons (loc_own _) <| loc_cons (loc_own _) <| loc_cons (loc_own _) <| loc_cons (loc_own _) <| loc_cons (loc_own _) <| loc_cons (loc_own _) <| loc_cons (loc_own _) <| loc_cons (loc_own _) <| loc_cons (loc_own _) <| loc_cons (loc_own _) <| loc_cons (loc_own _) <| loc_cons (loc_own _) <| loc_cons (loc_own _) <| loc_cons (loc_own _) <| loc_cons (loc_own _) <| loc_nil
              refine wp_region_pair (act := ?actuc_r12_2) (Mod (fun k => B0 ≤ k)) (factP (uc_r12_2_F n c k fb kx a eb eo j)) (fun i => uc_r12_2_C.getD i 1000) (fun i => uc_r12_2_D.getD i []) 26 _ rfl rfl (by kernel_rfl) (by kernel_rfl) (by kernel_rfl) (by kernel_rfl) (by kernel_rfl) (fun _ => Mod.refl _ _)
                (fun _ _ _ h k => h.trans k (fun _ _ e => e) (fun _ _ e => e)) ?hactuc_r12_2 (loc_of HLO) ?_ ?_
              case hactuc_r12_2 => intro vs; simp only [putAll, Nat.zero_add, Nat.reduceAdd, Act.put, List.setIfInBounds_toArray, List.set_cons_succ, List.set_cons_zero]; exact rfl
              · refine opsOkP_cons ?_ ?_
                · intro K vs W hR hD hN hK
                  clear hD
                  clear hN
                  try dsimp only at hK ⊢
                  simp only [Act.put, List.setIfInBounds_toArray, List.set_cons_succ, List.set_cons_zero] at hK
                  go_wp2
                  exact hK _ _ rfl (fun _ _ h => h) (Mod.refl _ _)
                refine opsOkP_cons ?_ ?_
                · intro K vs W hR hD hN hK
                  clear hD
                  clear hN
                  try dsimp only at hK ⊢
                  simp only [Act.put, List.setIfInBounds_toArray, List.set_cons_succ, List.set_cons_zero] at hK
                  go_wp2
                  exact hK _ _ rfl (fun _ _ h => h) (Mod.refl _ _)
                refine opsOkP_cons ?_ ?_
                · intro K vs W hR hD hN hK
                  clear hD
                  clear hN
                  try dsimp only at hK ⊢
                  simp only [Act.put, List.setIfInBounds_toArray, List.set_cons_succ, List.set_cons_zero] at hK
                  go_wp2
                  exact hK _ _ rfl (fun _ _ h => h) (Mod.refl _ _)
                refine opsOkP_cons ?_ ?_
                · intro K vs W hR hD hN hK
                  have dq1 : vs 1 = .slice a k c := hD 1 (by decide)
                  have dq2 : vs 2 = .int .i64 (j : Int) := hD 2 (by decide)
                  clear hD
                  clear hN
                  try dsimp only at hK ⊢
                  simp only [Act.put, List.setIfInBounds_toArray, List.set_cons_succ, List.set_cons_zero] at hK
                  generalize vs 1 = vq1 at hK dq1 ⊢
                  subst vq1
                  generalize vs 2 = vq2 at hK dq2 ⊢
                  subst vq2
                  have hix := HIe.out
                  go_wp2_with fail
                  exact hK _ _ rfl (fun _ _ h => h) (Mod.refl _ _)
                refine opsOkP_cons ?_ ?_
                · intro K vs W hR hD hN hK
                  have dq3 : vs 3 = .pointer (some ⟨eb, eo, none⟩) := hD 3 (by decide)
                  clear hD
                  clear hN
                  try dsimp only at hK ⊢
                  simp only [Act.put, List.setIfInBounds_toArray, List.set_cons_succ, List.set_cons_zero] at hK
                  generalize vs 3 = vq3 at hK dq3 ⊢
                  subst vq3
                  have c0 := (HSd.out.at (HOLD.out W hR)).1
                  go_wp2
                  exact hK _ _ rfl (fun _ _ h => h) (Mod.refl _ _)
                refine opsOkP_cons ?_ ?_
                · intro K vs W hR hD hN hK
                  clear hD
                  clear hN
                  try dsimp only at hK ⊢
                  simp only [Act.put, List.setIfInBounds_toArray, List.set_cons_succ, List.set_cons_zero] at hK
                  go_wp2
                  exact hK _ _ rfl (fun _ _ h => h) (Mod.refl _ _)
                refine opsOkP_cons ?_ ?_
                · intro K vs W hR hD hN hK
                  clear hD
                  clear hN
                  try dsimp only at hK ⊢
                  simp only [Act.put, List.setIfInBounds_toArray, List.set_cons_succ, List.set_cons_zero] at hK
                  go_wp2
                  exact hK _ _ rfl (fun _ _ h => h) (Mod.refl _ _)
                refine opsOkP_cons ?_ ?_
                · intro K vs W hR hD hN hK
                  clear hD
                  clear hN
                  try dsimp only at hK ⊢
                  simp only [Act.put, List.setIfInBounds_toArray, List.set_cons_succ, List.set_cons_zero] at hK
                  go_wp2
                  exact hK _ _ rfl (fun _ _ h => h) (Mod.refl _ _)
                refine opsOkP_cons ?_ ?_
                · intro K vs W hR hD hN hK
                  have dq6 : vs 6 = .slice a k c := hD 6 (by decide)
                  have dq7 : vs 7 = .int .i64 (j : Int) := hD 7 (by decide)
                  clear hD
                  clear hN
                  try dsimp only at hK ⊢
                  simp only [Act.put, List.setIfInBounds_toArray, List.set_cons_succ, List.set_cons_zero] at hK
                  generalize vs 6 = vq6 at hK dq6 ⊢
                  subst vq6
                  generalize vs 7 = vq7 at hK dq7 ⊢
                  subst vq7
                  have hix := HIe.out
                  go_wp2_with fail
                  exact hK _ _ rfl (fun _ _ h => h) (Mod.refl _ _)
                refine opsOkP_cons ?_ ?_
                · intro K vs W hR hD hN hK
                  have dq8 : vs 8 = .pointer (some ⟨eb, eo, none⟩) := hD 8 (by decide)
                  clear hD
                  clear hN
                  try dsimp only at hK ⊢
                  simp only [Act.put, List.setIfInBounds_toArray, List.set_cons_succ, List.set_cons_zero] at hK
                  generalize vs 8 = vq8 at hK dq8 ⊢
                  subst vq8
                  have c0 := (HSd.out.at (HOLD.out W hR)).1
                  go_wp2
                  exact hK _ _ rfl (fun _ _ h => h) (Mod.refl _ _)
                refine opsOkP_cons ?_ ?_
                · intro K vs W hR hD hN hK
                  have dq5 : vs 5 = .slice (some ⟨fb, 0, none⟩) n n := hD 5 (by decide)
                  have dq9 : vs 9 = .int .i64 (kx : Int) := hD 9 (by decide)
                  clear hD
                  clear hN
                  try dsimp only at hK ⊢
                  simp only [Act.put, List.setIfInBounds_toArray, List.set_cons_succ, List.set_cons_zero] at hK
                  generalize vs 5 = vq5 at hK dq5 ⊢
                  subst vq5
                  generalize vs 9 = vq9 at hK dq9 ⊢
                  subst vq9
                  have hif := HIF.out
                  go_wp2_with fail
                  exact hK _ _ rfl (fun _ _ h => h) (Mod.refl _ _)
                refine opsOkP_cons ?_ ?_
                · intro K vs W hR hD hN hK
                  have dq10 : vs 10 = .pointer (some ⟨fb, kx, none⟩) := hD 10 (by decide)
                  clear hD
                  clear hN
                  try dsimp only at hK ⊢
                  simp only [Act.put, List.setIfInBounds_toArray, List.set_cons_succ, List.set_cons_zero] at hK
                  generalize vs 10 = vq10 at hK dq10 ⊢
                  subst vq10
                  have cb := (HSd.out.at (HOLD.out W hR)).2.1
                  go_wp2
                  exact hK _ _ rfl (fun _ _ h => h) (Mod.refl _ _)
                refine opsOkP_cons ?_ ?_
                · intro K vs W hR hD hN hK
                  have dq11 : vs 11 = .bool true := hD 11 (by decide)
                  clear hD
                  clear hN
                  try dsimp only at hK ⊢
                  simp only [Act.put, List.setIfInBounds_toArray, List.set_cons_succ, List.set_cons_zero] at hK
                  generalize vs 11 = vq11 at hK dq11 ⊢
                  subst vq11
                  go_wp2
                  exact hK _ _ rfl (fun _ _ h => h) (Mod.refl _ _)
                refine opsOkP_cons ?_ ?_
                · intro K vs W hR hD hN hK
                  have dq12 : vs 12 = .bool true := hD 12 (by decide)
                  clear hD
                  clear hN
                  try dsimp only at hK ⊢
                  simp only [Act.put, List.setIfInBounds_toArray, List.set_cons_succ, List.set_cons_zero] at hK
                  generalize vs 12 = vq12 at hK dq12 ⊢
                  subst vq12
                  go_wp2
                  exact hK _ _ rfl (fun _ _ h => h) (Mod.refl _ _)
                refine opsOkP_cons ?_ ?_
                · intro K vs W hR hD hN hK
                  have dq12 : vs 12 = .bool true := hD 12 (by decide)
                  clear hD
                  clear hN
                  try dsimp only at hK ⊢
                  simp only [Act.put, List.setIfInBounds_toArray, List.set_cons_succ, List.set_cons_zero] at hK
                  generalize vs 12 = vq12 at hK dq12 ⊢
                  subst vq12
                  go_wp2
                  exact hK _ _ rfl (fun _ _ h => h) (Mod.refl _ _)
                refine opsOkP_cons ?_ ?_
                · intro K vs W hR hD hN hK
                  have dq12 : vs 12 = .bool true := hD 12 (by decide)
                  clear hD
                  clear hN
                  try dsimp only at hK ⊢
                  simp only [Act.put, List.setIfInBounds_toArray, List.set_cons_succ, List.set_cons_zero] at hK
                  generalize vs 12 = vq12 at hK dq12 ⊢
                  subst vq12
                  go_wp2
                  exact hK _ _ rfl (fun _ _ h => h) (Mod.refl _ _)
                refine opsOkP_cons ?_ ?_
                · intro K vs W hR hD hN hK
                  have dq12 : vs 12 = .bool true := hD 12 (by decide)
                  clear hD
                  clear hN
                  try dsimp only at hK ⊢
                  simp only [Act.put, List.setIfInBounds_toArray, List.set_cons_succ, List.set_cons_zero] at hK
                  generalize vs 12 = vq12 at hK dq12 ⊢
                  subst vq12
                  go_wp2
                  exact hK _ _ rfl (fun _ _ h => h) (Mod.refl _ _)
                refine opsOkP_cons ?_ ?_
                · intro K vs W hR hD hN hK
                  have dq12 : vs 12 = .bool true := hD 12 (by decide)
                  clear hD
                  clear hN
                  try dsimp only at hK ⊢
                  simp only [Act.put, List.setIfInBounds_toArray, List.set_cons_succ, List.set_cons_zero] at hK
                  generalize vs 12 = vq12 at hK dq12 ⊢
                  subst vq12
                  go_wp2
                  exact hK _ _ rfl (fun _ _ h => h) (Mod.refl _ _)
                refine opsOkP_cons ?_ ?_
                · intro K vs W hR hD hN hK
                  have dq12 : vs 12 = .bool true := hD 12 (by decide)
                  clear hD
                  clear hN
                  try dsimp only at hK ⊢
                  simp only [Act.put, List.setIfInBounds_toArray, List.set_cons_succ, List.set_cons_zero] at hK
                  generalize vs 12 = vq12 at hK dq12 ⊢
                  subst vq12
                  go_wp2
                  exact hK _ _ rfl (fun _ _ h => h) (Mod.refl _ _)
                refine opsOkP_cons ?_ ?_
                · intro K vs W hR hD hN hK
                  have dq12 : vs 12 = .bool true := hD 12 (by decide)
                  clear hD
                  clear hN
                  try dsimp only at hK ⊢
                  simp only [Act.put, List.setIfInBounds_toArray, List.set_cons_succ, List.set_cons_zero] at hK
                  generalize vs 12 = vq12 at hK dq12 ⊢
                  subst vq12
                  go_wp2_with fail
                  exact hK _ _ rfl (fun _ _ h => h) (Mod.refl _ _)
                refine opsOkP_cons ?_ ?_
                · intro K vs W hR hD hN hK
                  have dq12 : vs 12 = .bool true := hD 12 (by decide)
                  clear hD
                  clear hN
                  try dsimp only at hK ⊢
                  simp only [Act.put, List.setIfInBounds_toArray, List.set_cons_succ, List.set_cons_zero] at hK
                  generalize vs 12 = vq12 at hK dq12 ⊢
                  subst vq12
                  go_wp2
                  exact hK _ _ rfl (fun _ _ h => h) (Mod.refl _ _)
                refine opsOkP_cons ?_ ?_
                · intro K vs W hR hD hN hK
                  have dq12 : vs 12 = .bool true := hD 12 (by decide)
                  clear hD
                  clear hN
                  try dsimp only at hK ⊢
                  simp only [Act.put, List.setIfInBounds_toArray, List.set_cons_succ, List.set_cons_zero] at hK
                  generalize vs 12 = vq12 at hK dq12 ⊢
                  subst vq12
                  go_wp2_with fail
                  exact hK _ _ rfl (fun _ _ h => h) (Mod.refl _ _)
                refine opsOkP_cons ?_ ?_
                · intro K vs W hR hD hN hK
                  have dq12 : vs 12 = .bool true := hD 12 (by decide)
                  clear hD
                  clear hN
                  try dsimp only at hK ⊢
                  simp only [Act.put, List.setIfInBounds_toArray, List.set_cons_succ, List.set_cons_zero] at hK
                  generalize vs 12 = vq12 at hK dq12 ⊢
                  subst vq12
                  go_wp2
                  exact hK _ _ rfl (fun _ _ h => h) (Mod.refl _ _)
                refine opsOkP_cons ?_ ?_
                · intro K vs W hR hD hN hK
                  have dq12 : vs 12 = .bool true := hD 12 (by decide)
                  clear hD
                  clear hN
                  try dsimp only at hK ⊢
                  simp only [Act.put, List.setIfInBounds_toArray, List.set_cons_succ, List.set_cons_zero] at hK
                  generalize vs 12 = vq12 at hK dq12 ⊢
                  subst vq12
                  go_wp2
                  exact hK _ _ rfl (fun _ _ h => h) (Mod.refl _ _)
                refine opsOkP_cons ?_ ?_
                · intro K vs W hR hD hN hK
                  have dq12 : vs 12 = .bool true := hD 12 (by decide)
                  have dq23 : vs 23 = undef := hD 23 (by decide)
                  clear hD
                  clear hN
                  try dsimp only at hK ⊢
                  simp only [Act.put, List.setIfInBounds_toArray, List.set_cons_succ, List.set_cons_zero] at hK
                  generalize vs 12 = vq12 at hK dq12 ⊢
                  subst vq12
                  generalize vs 23 = vq23 at hK dq23 ⊢
                  subst vq23
                  go_wp2
                  exact hK _ _ rfl (fun _ _ h => h) (Mod.refl _ _)
                refine opsOkP_cons ?_ ?_
                · intro K vs W hR hD hN hK
                  have dq0 : vs 0 = .slice (some ⟨fb, 0, none⟩) n n := hD 0 (by decide)
                  have dq4 : vs 4 = .int .i64 (kx : Int) := hD 4 (by decide)
                  clear hD
                  clear hN
                  try dsimp only at hK ⊢
                  simp only [Act.put, List.setIfInBounds_toArray, List.set_cons_succ, List.set_cons_zero] at hK
                  generalize vs 0 = vq0 at hK dq0 ⊢
                  subst vq0
                  generalize vs 4 = vq4 at hK dq4 ⊢
                  subst vq4
                  have hif := HIF.out
                  go_wp2_with fail
                  exact hK _ _ rfl (fun _ _ h => h) (Mod.refl _ _)
                exact opsOkP_nil
              · intro vs wq3 hR hF
                have dq24 : vs 24 = .bool true := hF 24 (by decide) (by decide)
                have dq25 : vs 25 = .pointer (some ⟨fb, kx, none⟩) := hF 25 (by decide) (by decide)
                clear hF
                try dsimp only
                generalize vs 24 = vq24 at dq24 ⊢
                subst vq24
                generalize vs 25 = vq25 at dq25 ⊢
                subst vq25
                have hmw : Mod (fun _ => False) wo wq3 := (Mod.drew _ _).of2 (HOLD.out _ hR)
                replace HS := Lib.hid (HS.out.step hmw)
                clear hmw HSd
                clear HOLD HB0
                have hmq := (HS.out.now).2.2.2.2.2
                have hfr := HRF.out.keep (Shp.ofMod (F := fun _ => False) hmq)
                obtain ⟨v0, c0⟩ := hfr.cell
                have f0 := hfr.free
                go_upto_region 13 with fail
                clear hfr c0 f0
                obtain ⟨ws, hws⟩ : ∃ W, World.setCell wq3 ⟨fb, kx, none⟩ (.bool true) = W := ⟨_, rfl⟩
                have hms : Mod (fun b => b = fb) wq3 (World.setCell wq3 ⟨fb, kx, none⟩ (.bool true)) := Mod.setCell (F := fun b => b = fb) _ ⟨fb, kx, none⟩ _ rfl
                have hos := ((Own.keep HOW.out hmq (fun _ _ e => e)).stored kx (.bool true)).1
                rw [hws] at hms hos ⊢
                have hst : (frK u us xs j).set kx (true) = frK u us xs (j + 1) := by
                  rw [← HSTP.out]
                  congr 1
                  all_goals simp
                rw [show (((frK u us xs j).map Value.bool).set kx (.bool true)) = ((frK u us xs j).set kx (true)).map Value.bool from by rw [List.map_set], hst] at hos
                have huo := ((HS.out.now).2.2.2.2.1).keep hms (fun e => by omega) (fun e => by omega)
                have hrd := HX0.out.rd.keepA (((HMW.out.trans hmq (fun _ _ e => e) (fun _ _ e => e.elim)).trans hms (fun _ _ e => .inl e) (fun i hi e => .inr e) : Mod (fun b => b = g ∨ b = fb) w ws)) (fun b hb e => by rcases e with e | e; exact HX0.out.off b hb e; exact HX0.out.rd.lt hb (by have h2 := HFB.out; omega))
                have HMS : Hid (Mod (fun b => b = g ∨ b = fb) wA ws) := Lib.hid ((HMR.out.trans hmq (fun _ _ e => e) (fun _ _ e => e.elim)).trans hms (fun _ _ e => e) (fun _ _ e => .inr e))
                have HOS := Lib.hid hos
                have HUS := Lib.hid huo
                clear hms hmq hos huo hws hst HS
                have HS : Hid (Ev (Mod (fun _ => False) ws) ws) := Lib.hid (Ev.mod ws)
                replace HS := Lib.hid ((Ev.uo HUS.out).and HS.out)
                replace HS := Lib.hid ((Ev.rd hrd).and HS.out)
                obtain ⟨yb, yo, hpl, e0⟩ := rd1 (HS.out.now).1 j hjl
                have hix := fun wx => run_indexS (P := Try.prog) wx 28 3 iI 1 Try.underlying28 hiI hsI a k c j hlt ((HS.out.now).1.some_ (by have := hlt; omega))
                rw [hpl] at hix
                have HIy := Lib.hid hix
                clear hix hpl
                rw [hkx] at e0
                replace HS := Lib.hid ((Ev.cell e0).and HS.out)
                clear e0
                clear hrd
                obtain ⟨B0, hB0⟩ : ∃ n, ws.heap.size = n := ⟨_, rfl⟩
                have HB0 := Lib.hid hB0
                clear hB0
                have HOLD : Hid (∀ W, Mod (fun k => B0 ≤ k) (World.drew ws) W → Mod (fun _ => False) (World.drew ws) W) := Lib.hid fun W h => h.mono (fun i hi e => by have := HB0.out; simp at hi; omega)
                go_upto_region 13 with fail
                have HSd := Lib.hid HS.out.drew
                have HST : ∀ (ix : Nat) (vs : Nat → Value) (vx : Value) (wx wy : World), factP (uc_r13_3_F q g n c k kx a u j yb yo) ix vs vx wx → Mod (fun _ => False) wx wy → factP (uc_r13_3_F q g n c k kx a u j yb yo) ix vs vx wy := by
                  refine factP_stays ?_
                  unfold uc_r13_3_F
                  exact stableP_cons (StableP.of (stable_val _)) <| stableP_cons (StableP.of (stable_val _)) <| stableP_cons (StableP.of (stable_val _)) <| stableP_cons (StableP.of (stable_val _)) <| stableP_cons (StableP.of (stable_val _)) <| stableP_cons (StableP.of (stable_val _)) <| stableP_cons (StableP.of (stable_val _)) <| stableP_cons (StableP.of (stable_val _)) <| stableP_cons (StableP.of (stable_val _)) <| stableP_cons (StableP.of (stable_val _)) <| stableP_nil
                have HSO : ∀ px ∈ (uc_r13_3_F q g n c k kx a u j yb yo), px.1 = true → ∀ (vs : Nat → Value) (vx : Value) (wx wy : World), px.2 vs vx wx → px.2 vs vx wy := by
                  unfold uc_r13_3_F
                  exact solidP_cons (solid_val _) <| solidP_cons (solid_val _) <| solidP_cons (solid_val _) <| solidP_cons (solid_val _) <| solidP_cons (solid_val _) <| solidP_cons (solid_val _) <| solidP_cons (solid_val _) <| solidP_cons (solid_val _) <| solidP_cons (solid_val _) <| solidP_cons (solid_val _) <| solidP_nil
                have HLO : LocL (fun i => uc_r13_3_D.getD i []) 0 (uc_r13_3_F q g n c k kx a u j yb yo) := by
                  unfold uc_r13_3_F
                  exact loc_cons (loc_own _) <| loc_cons (loc_own _) <| loc_cons (loc_own _) <| loc_cons (loc_own _) <| loc_cons (loc_own _) <| loc_cons (loc_own _) <| loc_cons (loc_own _) <| loc_cons (loc_own _) <| loc_cons (loc_own _) <| loc_cons (loc_own _) <| loc_nil
                refine wp_region_pair (act := ?actuc_r13_3) (Mod (fun k => B0 ≤ k)) (factP (uc_r13_3_F q g n c k kx a u j yb yo)) (fun i => uc_r13_3_C.getD i 1000) (fun i => uc_r13_3_D.getD i []) 10 _ rfl rfl (by kernel_rfl) (by kernel_rfl) (by kernel_rfl) (by kernel_rfl) (by kernel_rfl) (fun _ => Mod.refl _ _)
                  (fun _ _ _ h k => h.trans k (fun _ _ e => e) (fun _ _ e => e)) ?hactuc_r13_3 (loc_of HLO) ?_ ?_
                case hactuc_r13_3 => intro vs; simp only [putAll, Nat.zero_add, Nat.reduceAdd, Act.put, List.setIfInBounds_toArray, List.set_cons_succ, List.set_cons_zero]; exact rfl
                · refine opsOkP_cons ?_ ?_
                  · intro K vs W hR hD hN hK
                    clear hD
                    clear hN
                    try dsimp only at hK ⊢
                    simp only [Act.put, List.setIfInBounds_toArray, List.set_cons_succ, List.set_cons_zero] at hK
                    go_wp2
                    exact hK _ _ rfl (fun _ _ h => h) (Mod.refl _ _)
                  refine opsOkP_cons ?_ ?_
                  · intro K vs W hR hD hN hK
                    have dq0 : vs 0 = .pointer (some ⟨q, 0, none⟩) := hD 0 (by decide)
                    clear hD
                    clear hN
                    try dsimp only at hK ⊢
                    simp only [Act.put, List.setIfInBounds_toArray, List.set_cons_succ, List.set_cons_zero] at hK
                    generalize vs 0 = vq0 at hK dq0 ⊢
                    subst vq0
                    go_wp2
                    exact hK _ _ rfl (fun _ _ h => h) (Mod.refl _ _)
                  refine opsOkP_cons ?_ ?_
                  · intro K vs W hR hD hN hK
                    have dq1 : vs 1 = .pointer (some ⟨q, 0, none⟩) := hD 1 (by decide)
                    clear hD
                    clear hN
                    try dsimp only at hK ⊢
                    simp only [Act.put, List.setIfInBounds_toArray, List.set_cons_succ, List.set_cons_zero] at hK
                    generalize vs 1 = vq1 at hK dq1 ⊢
                    subst vq1
                    go_wp2
                    exact hK _ _ rfl (fun _ _ h => h) (Mod.refl _ _)
                  refine opsOkP_cons ?_ ?_
                  · intro K vs W hR hD hN hK
                    have dq2 : vs 2 = .pointer (some ⟨q, 0, none⟩) := hD 2 (by decide)
                    clear hD
                    clear hN
                    try dsimp only at hK ⊢
                    simp only [Act.put, List.setIfInBounds_toArray, List.set_cons_succ, List.set_cons_zero] at hK
                    generalize vs 2 = vq2 at hK dq2 ⊢
                    subst vq2
                    have c0 := ((HSd.out.at (HOLD.out W hR)).2.2.1).blk.cell 0 rfl
                    go_wp2
                    exact hK _ _ rfl (fun _ _ h => h) (Mod.refl _ _)
                  refine opsOkP_cons ?_ ?_
                  · intro K vs W hR hD hN hK
                    clear hD
                    clear hN
                    try dsimp only at hK ⊢
                    simp only [Act.put, List.setIfInBounds_toArray, List.set_cons_succ, List.set_cons_zero] at hK
                    go_wp2
                    exact hK _ _ rfl (fun _ _ h => h) (Mod.refl _ _)
                  refine opsOkP_cons ?_ ?_
                  · intro K vs W hR hD hN hK
                    clear hD
                    clear hN
                    try dsimp only at hK ⊢
                    simp only [Act.put, List.setIfInBounds_toArray, List.set_cons_succ, List.set_cons_zero] at hK
                    go_wp2
                    exact hK _ _ rfl (fun _ _ h => h) (Mod.refl _ _)
                  refine opsOkP_cons ?_ ?_
                  · intro K vs W hR hD hN hK
                    have dq4 : vs 4 = .slice a k c := hD 4 (by decide)
                    have dq5 : vs 5 = .int .i64 (j : Int) := hD 5 (by decide)
                    clear hD
                    clear hN
                    try dsimp only at hK ⊢
                    simp only [Act.put, List.setIfInBounds_toArray, List.set_cons_succ, List.set_cons_zero] at hK
                    generalize vs 4 = vq4 at hK dq4 ⊢
                    subst vq4
                    generalize vs 5 = vq5 at hK dq5 ⊢
                    subst vq5
                    have hix := HIy.out
                    go_wp2_with fail
                    exact hK _ _ rfl (fun _ _ h => h) (Mod.refl _ _)
                  refine opsOkP_cons ?_ ?_
                  · intro K vs W hR hD hN hK
                    have dq6 : vs 6 = .pointer (some ⟨yb, yo, none⟩) := hD 6 (by decide)
                    clear hD
                    clear hN
                    try dsimp only at hK ⊢
                    simp only [Act.put, List.setIfInBounds_toArray, List.set_cons_succ, List.set_cons_zero] at hK
                    generalize vs 6 = vq6 at hK dq6 ⊢
                    subst vq6
                    have c0 := (HSd.out.at (HOLD.out W hR)).1
                    go_wp2
                    exact hK _ _ rfl (fun _ _ h => h) (Mod.refl _ _)
                  refine opsOkP_cons ?_ ?_
                  · intro K vs W hR hD hN hK
                    clear hD
                    clear hN
                    try dsimp only at hK ⊢
                    simp only [Act.put, List.setIfInBounds_toArray, List.set_cons_succ, List.set_cons_zero] at hK
                    go_wp2
                    exact hK _ _ rfl (fun _ _ h => h) (Mod.refl _ _)
                  refine opsOkP_cons ?_ ?_
                  · intro K vs W hR hD hN hK
                    have dq3 : vs 3 = .slice (some ⟨g, 0, none⟩) n n := hD 3 (by decide)
                    have dq7 : vs 7 = .int .i64 (kx : Int) := hD 7 (by decide)
                    clear hD
                    clear hN
                    try dsimp only at hK ⊢
                    simp only [Act.put, List.setIfInBounds_toArray, List.set_cons_succ, List.set_cons_zero] at hK
                    generalize vs 3 = vq3 at hK dq3 ⊢
                    subst vq3
                    generalize vs 7 = vq7 at hK dq7 ⊢
                    subst vq7
                    have hig := HIG.out
                    go_wp2_with fail
                    exact hK _ _ rfl (fun _ _ h => h) (Mod.refl _ _)
                  exact opsOkP_nil
                · intro vs wq4 hR hF
                  have dq8 : vs 8 = .int .i64 u := hF 8 (by decide) (by decide)
                  have dq9 : vs 9 = .pointer (some ⟨g, kx, none⟩) := hF 9 (by decide) (by decide)
                  clear hF
                  try dsimp only
                  generalize vs 8 = vq8 at dq8 ⊢
                  subst vq8
                  generalize vs 9 = vq9 at dq9 ⊢
                  subst vq9
                  have hmw : Mod (fun _ => False) ws wq4 := (Mod.drew _ _).of2 (HOLD.out _ hR)
                  replace HS := Lib.hid (HS.out.step hmw)
                  clear hmw HSd
                  clear HOLD HB0
                  have hmq := (HS.out.now).2.2.2
                  have huz := (HS.out.now).2.2.1
                  have hfr := huz.room kx hkn
                  obtain ⟨v0, c0⟩ := hfr.cell
                  have f0 := hfr.free
                  have HUZ := Lib.hid huz
                  have HMQ := Lib.hid hmq
                  clear hfr huz hmq
                  go_wp2_with fail
                  go_roundw
                  case rel =>
                    have hmf : Mod (fun b => b = g) wq4 (World.setCell wq4 ⟨g, kx, none⟩ (.int .i64 u)) := Mod.setCell (F := fun b => b = g) _ ⟨g, kx, none⟩ _ rfl
                    refine ⟨j + 1, hlt, by go_num, (HMS.out.trans HMQ.out (fun _ _ e => e) (fun _ _ e => e.elim)).trans hmf (fun _ _ e => e) (fun _ _ e => .inl e), Own.keep (Own.keep HOS.out HMQ.out (fun _ _ e => e)) hmf (fun b hb e => by have : fb = b := Option.some.inj hb; omega), ?_⟩
                    rw [show xs.take (j + 1) = xs.take j ++ [(kx : Int)] from by rw [List.take_succ_eq_append_getElem hjl, hkx], putU_snoc]
                    exact HUZ.out.set kx _
                  case measure => simp [intOf]; omega
            | false =>
              obtain ⟨B0, hB0⟩ : ∃ n, wo.heap.size = n := ⟨_, rfl⟩
              have HB0 := Lib.hid hB0
              clear hB0
              have HOLD : Hid (∀ W, Mod (fun k => B0 ≤ k) (World.drew wo) W → Mod (fun _ => False) (World.drew wo) W) := Lib.hid fun W h => h.mono (fun i hi e => by have := HB0.out; simp at hi; omega)
              go_upto_region 12 with fail
              have HSd := Lib.hid HS.out.drew
              have HST : ∀ (ix : Nat) (vs : Nat → Value) (vx : Value) (wx wy : World), factP (uc_r12_4_F q g n c k fb kx a uk eb eo j) ix vs vx wx → Mod (fun _ => False) wx wy → factP (uc_r12_4_F q g n c k fb kx a uk eb eo j) ix vs vx wy := by
                refine factP_stays ?_
                unfold uc_r12_4_F
                exact stableP_cons (StableP.of (stable_val _)) <| stableP_cons (StableP.of (stable_val _)) <| stableP_cons (StableP.of (stable_val _)) <| stableP_cons (StableP.of (stable_val _)) <| stableP_cons (StableP.of (stable_val _)) <| stableP_cons (StableP.of (stable_val _)) <| stableP_cons (StableP.of (stable_val _)) <| stableP_cons (StableP.of (stable_val _)) <| stableP_cons (StableP.of (stable_val _)) <| stableP_cons (StableP.of (stable_val _)) <| stableP_cons (StableP.of (stable_val _)) <| stableP_cons (StableP.of (stable_val _)) <| stableP_cons (StableP.of (stable_val _)) <| stableP_cons (StableP.of (stable_val _)) <| stableP_cons (StableP.of (stable_val _)) <| stableP_cons (StableP.of (stable_val _)) <| stableP_cons (StableP.of (stable_val _)) <| stableP_cons (StableP.of (stable_val _)) <| stableP_cons (StableP.of (stable_val _)) <| stableP_cons (StableP.of (stable_val _)) <| stableP_cons (StableP.of (stable_val _)) <| stableP_cons (StableP.of (stable_val _)) <| stableP_cons (StableP.of (stable_val _)) <| stableP_cons (StableP.of (stable_val _)) <| stableP_cons (StableP.of (stable_val _)) <| stableP_cons (StableP.of (stable_val _)) <| stableP_nil
              have HSO : ∀ px ∈ (uc_r12_4_F q g n c k fb kx a uk eb eo j), px.1 = true → ∀ (vs : Nat → Value) (vx : Value) (wx wy : World), px.2 vs vx wx → px.2 vs vx wy := by
                unfold uc_r12_4_F
                exact solidP_cons (solid_val _) <| solidP_cons (solid_val _) <| solidP_cons (solid_val _) <| solidP_cons (solid_val _) <| solidP_cons (solid_val _) <| solidP_cons (solid_val _) <| solidP_cons (solid_val _) <| solidP_cons (solid_val _) <| solidP_cons (solid_val _) <| solidP_cons (solid_val _) <| solidP_cons (solid_val _) <| solidP_cons (solid_val _) <| solidP_cons (solid_val _) <| solidP_cons (solid_val _) <| solidP_cons (solid_val _) <| solidP_cons (solid_val _) <| solidP_cons (solid_val _) <| solidP_cons (solid_val _) <| solidP_cons (solid_val _) <| solidP_cons (solid_val _) <| solidP_cons (solid_val _) <| solidP_cons (solid_val _) <| solidP_cons (solid_val _) <| solidP_cons (solid_val _) <| solidP_cons (solid_val _) <| solidP_cons (solid_val _) <| solidP_nil
              have HLO : LocL (fun i => uc_r12_4_D.getD i []) 0 (uc_r12_4_F q g n c k fb kx a uk eb eo j) := by
                unfold uc_r12_4_F
                exact loc_cons (loc_own _) <| loc_cons (loc_own _) <| loc_cons (loc_own _) <| loc_cons (loc_own _) <| loc_cons (loc_own _) <| loc_cons (loc_own _) <| loc_cons (loc_own _) <| loc_cons (loc_own _) <| loc_cons (loc_own _) <| loc_cons (loc_own _) <| loc_cons (loc_own _) <| loc_cons (loc_own _) <| loc_cons (loc_own _) <| loc_cons (loc_own _) <| loc_cons (loc_own _) <| loc_cons (loc_own _) <| loc_cons (loc_own _) <| loc_cons (loc_own _) <| loc_cons (loc_own _) <| loc_cons (loc_own _) <| loc_cons (loc_own _) <| loc_cons (loc_own _) <| loc_cons (loc_own _) <| loc_cons (loc_own _) <| loc_cons (loc_own _) <| loc_cons (loc_own _) <| loc_nil
              refine wp_region_pair (act := ?actuc_r12_4) (Mod (fun k => B0 ≤ k)) (factP (uc_r12_4_F q g n c k fb kx a uk eb eo j)) (fun i => uc_r12_4_C.getD i 1000) (fun i => uc_r12_4_D.getD i []) 26 _ rfl rfl (by kernel_rfl) (by kernel_rfl) (by kernel_rfl) (by kernel_rfl) (by kernel_rfl) (fun _ => Mod.refl _ _)
                (fun _ _ _ h k => h.trans k (fun _ _ e => e) (fun _ _ e => e)) ?hactuc_r12_4 (loc_of HLO) ?_ ?_
              case hactuc_r12_4 => intro vs; simp only [putAll, Nat.zero_add, Nat.reduceAdd, Act.put, List.setIfInBounds_toArray, List.set_cons_succ, List.set_cons_zero]; exact rfl
              · refine opsOkP_cons ?_ ?_
                · intro K vs W hR hD hN hK
                  clear hD
                  clear hN
                  try dsimp only at hK ⊢
                  simp only [Act.put, List.setIfInBounds_toArray, List.set_cons_succ, List.set_cons_zero] at hK
                  go_wp2
                  exact hK _ _ rfl (fun _ _ h => h) (Mod.refl _ _)
                refine opsOkP_cons ?_ ?_
                · intro K vs W hR hD hN hK
                  clear hD
                  clear hN
                  try dsimp only at hK ⊢
                  simp only [Act.put, List.setIfInBounds_toArray, List.set_cons_succ, List.set_cons_zero] at hK
                  go_wp2
                  exact hK _ _ rfl (fun _ _ h => h) (Mod.refl _ _)
                refine opsOkP_cons ?_ ?_
                · intro K vs W hR hD hN hK
                  clear hD
                  clear hN
                  try dsimp only at hK ⊢
                  simp only [Act.put, List.setIfInBounds_toArray, List.set_cons_succ, List.set_cons_zero] at hK
                  go_wp2
                  exact hK _ _ rfl (fun _ _ h => h) (Mod.refl _ _)
                refine opsOkP_cons ?_ ?_
                · intro K vs W hR hD hN hK
                  have dq1 : vs 1 = .slice a k c := hD 1 (by decide)
                  have dq2 : vs 2 = .int .i64 (j : Int) := hD 2 (by decide)
                  clear hD
                  clear hN
                  try dsimp only at hK ⊢
                  simp only [Act.put, List.setIfInBounds_toArray, List.set_cons_succ, List.set_cons_zero] at hK
                  generalize vs 1 = vq1 at hK dq1 ⊢
                  subst vq1
                  generalize vs 2 = vq2 at hK dq2 ⊢
                  subst vq2
                  have hix := HIe.out
                  go_wp2_with fail
                  exact hK _ _ rfl (fun _ _ h => h) (Mod.refl _ _)
                refine opsOkP_cons ?_ ?_
                · intro K vs W hR hD hN hK
                  have dq3 : vs 3 = .pointer (some ⟨eb, eo, none⟩) := hD 3 (by decide)
                  clear hD
                  clear hN
                  try dsimp only at hK ⊢
                  simp only [Act.put, List.setIfInBounds_toArray, List.set_cons_succ, List.set_cons_zero] at hK
                  generalize vs 3 = vq3 at hK dq3 ⊢
                  subst vq3
                  have c0 := (HSd.out.at (HOLD.out W hR)).1
                  go_wp2
                  exact hK _ _ rfl (fun _ _ h => h) (Mod.refl _ _)
                refine opsOkP_cons ?_ ?_
                · intro K vs W hR hD hN hK
                  clear hD
                  clear hN
                  try dsimp only at hK ⊢
                  simp only [Act.put, List.setIfInBounds_toArray, List.set_cons_succ, List.set_cons_zero] at hK
                  go_wp2
                  exact hK _ _ rfl (fun _ _ h => h) (Mod.refl _ _)
                refine opsOkP_cons ?_ ?_
                · intro K vs W hR hD hN hK
                  clear hD
                  clear hN
                  try dsimp only at hK ⊢
                  simp only [Act.put, List.setIfInBounds_toArray, List.set_cons_succ, List.set_cons_zero] at hK
                  go_wp2
                  exact hK _ _ rfl (fun _ _ h => h) (Mod.refl _ _)
                refine opsOkP_cons ?_ ?_
                · intro K vs W hR hD hN hK
                  clear hD
                  clear hN
                  try dsimp only at hK ⊢
                  simp only [Act.put, List.setIfInBounds_toArray, List.set_cons_succ, List.set_cons_zero] at hK
                  go_wp2
                  exact hK _ _ rfl (fun _ _ h => h) (Mod.refl _ _)
                refine opsOkP_cons ?_ ?_
                · intro K vs W hR hD hN hK
                  have dq6 : vs 6 = .slice a k c := hD 6 (by decide)
                  have dq7 : vs 7 = .int .i64 (j : Int) := hD 7 (by decide)
                  clear hD
                  clear hN
                  try dsimp only at hK ⊢
                  simp only [Act.put, List.setIfInBounds_toArray, List.set_cons_succ, List.set_cons_zero] at hK
                  generalize vs 6 = vq6 at hK dq6 ⊢
                  subst vq6
                  generalize vs 7 = vq7 at hK dq7 ⊢
                  subst vq7
                  have hix := HIe.out
                  go_wp2_with fail
                  exact hK _ _ rfl (fun _ _ h => h) (Mod.refl _ _)
                refine opsOkP_cons ?_ ?_
                · intro K vs W hR hD hN hK
                  have dq8 : vs 8 = .pointer (some ⟨eb, eo, none⟩) := hD 8 (by decide)
                  clear hD
                  clear hN
                  try dsimp only at hK ⊢
                  simp only [Act.put, List.setIfInBounds_toArray, List.set_cons_succ, List.set_cons_zero] at hK
                  generalize vs 8 = vq8 at hK dq8 ⊢
                  subst vq8
                  have c0 := (HSd.out.at (HOLD.out W hR)).1
                  go_wp2
                  exact hK _ _ rfl (fun _ _ h => h) (Mod.refl _ _)
                refine opsOkP_cons ?_ ?_
                · intro K vs W hR hD hN hK
                  have dq5 : vs 5 = .slice (some ⟨fb, 0, none⟩) n n := hD 5 (by decide)
                  have dq9 : vs 9 = .int .i64 (kx : Int) := hD 9 (by decide)
                  clear hD
                  clear hN
                  try dsimp only at hK ⊢
                  simp only [Act.put, List.setIfInBounds_toArray, List.set_cons_succ, List.set_cons_zero] at hK
                  generalize vs 5 = vq5 at hK dq5 ⊢
                  subst vq5
                  generalize vs 9 = vq9 at hK dq9 ⊢
                  subst vq9
                  have hif := HIF.out
                  go_wp2_with fail
                  exact hK _ _ rfl (fun _ _ h => h) (Mod.refl _ _)
                refine opsOkP_cons ?_ ?_
                · intro K vs W hR hD hN hK
                  have dq10 : vs 10 = .pointer (some ⟨fb, kx, none⟩) := hD 10 (by decide)
                  clear hD
                  clear hN
                  try dsimp only at hK ⊢
                  simp only [Act.put, List.setIfInBounds_toArray, List.set_cons_succ, List.set_cons_zero] at hK
                  generalize vs 10 = vq10 at hK dq10 ⊢
                  subst vq10
                  have cb := (HSd.out.at (HOLD.out W hR)).2.1
                  go_wp2
                  exact hK _ _ rfl (fun _ _ h => h) (Mod.refl _ _)
                refine opsOkP_cons ?_ ?_
                · intro K vs W hR hD hN hK
                  have dq11 : vs 11 = .bool false := hD 11 (by decide)
                  clear hD
                  clear hN
                  try dsimp only at hK ⊢
                  simp only [Act.put, List.setIfInBounds_toArray, List.set_cons_succ, List.set_cons_zero] at hK
                  generalize vs 11 = vq11 at hK dq11 ⊢
                  subst vq11
                  go_wp2
                  exact hK _ _ rfl (fun _ _ h => h) (Mod.refl _ _)
                refine opsOkP_cons ?_ ?_
                · intro K vs W hR hD hN hK
                  have dq12 : vs 12 = .bool false := hD 12 (by decide)
                  clear hD
                  clear hN
                  try dsimp only at hK ⊢
                  simp only [Act.put, List.setIfInBounds_toArray, List.set_cons_succ, List.set_cons_zero] at hK
                  generalize vs 12 = vq12 at hK dq12 ⊢
                  subst vq12
                  go_wp2
                  exact hK _ _ rfl (fun _ _ h => h) (Mod.refl _ _)
                refine opsOkP_cons ?_ ?_
                · intro K vs W hR hD hN hK
                  have dq12 : vs 12 = .bool false := hD 12 (by decide)
                  have dq13 : vs 13 = .pointer (some ⟨q, 0, none⟩) := hD 13 (by decide)
                  clear hD
                  clear hN
                  try dsimp only at hK ⊢
                  simp only [Act.put, List.setIfInBounds_toArray, List.set_cons_succ, List.set_cons_zero] at hK
                  generalize vs 12 = vq12 at hK dq12 ⊢
                  subst vq12
                  generalize vs 13 = vq13 at hK dq13 ⊢
                  subst vq13
                  go_wp2
                  exact hK _ _ rfl (fun _ _ h => h) (Mod.refl _ _)
                refine opsOkP_cons ?_ ?_
                · intro K vs W hR hD hN hK
                  have dq12 : vs 12 = .bool false := hD 12 (by decide)
                  have dq14 : vs 14 = .pointer (some ⟨q, 0, none⟩) := hD 14 (by decide)
                  clear hD
                  clear hN
                  try dsimp only at hK ⊢
                  simp only [Act.put, List.setIfInBounds_toArray, List.set_cons_succ, List.set_cons_zero] at hK
                  generalize vs 12 = vq12 at hK dq12 ⊢
                  subst vq12
                  generalize vs 14 = vq14 at hK dq14 ⊢
                  subst vq14
                  go_wp2
                  exact hK _ _ rfl (fun _ _ h => h) (Mod.refl _ _)
                refine opsOkP_cons ?_ ?_
                · intro K vs W hR hD hN hK
                  have dq12 : vs 12 = .bool false := hD 12 (by decide)
                  have dq15 : vs 15 = .pointer (some ⟨q, 0, none⟩) := hD 15 (by decide)
                  clear hD
                  clear hN
                  try dsimp only at hK ⊢
                  simp only [Act.put, List.setIfInBounds_toArray, List.set_cons_succ, List.set_cons_zero] at hK
                  generalize vs 12 = vq12 at hK dq12 ⊢
                  subst vq12
                  generalize vs 15 = vq15 at hK dq15 ⊢
                  subst vq15
                  have c0 := ((HSd.out.at (HOLD.out W hR)).2.2.2.2.1).blk.cell 0 rfl
                  go_wp2
                  exact hK _ _ rfl (fun _ _ h => h) (Mod.refl _ _)
                refine opsOkP_cons ?_ ?_
                · intro K vs W hR hD hN hK
                  have dq12 : vs 12 = .bool false := hD 12 (by decide)
                  clear hD
                  clear hN
                  try dsimp only at hK ⊢
                  simp only [Act.put, List.setIfInBounds_toArray, List.set_cons_succ, List.set_cons_zero] at hK
                  generalize vs 12 = vq12 at hK dq12 ⊢
                  subst vq12
                  go_wp2
                  exact hK _ _ rfl (fun _ _ h => h) (Mod.refl _ _)
                refine opsOkP_cons ?_ ?_
                · intro K vs W hR hD hN hK
                  have dq12 : vs 12 = .bool false := hD 12 (by decide)
                  clear hD
                  clear hN
                  try dsimp only at hK ⊢
                  simp only [Act.put, List.setIfInBounds_toArray, List.set_cons_succ, List.set_cons_zero] at hK
                  generalize vs 12 = vq12 at hK dq12 ⊢
                  subst vq12
                  go_wp2
                  exact hK _ _ rfl (fun _ _ h => h) (Mod.refl _ _)
                refine opsOkP_cons ?_ ?_
                · intro K vs W hR hD hN hK
                  have dq12 : vs 12 = .bool false := hD 12 (by decide)
                  have dq17 : vs 17 = .slice a k c := hD 17 (by decide)
                  have dq18 : vs 18 = .int .i64 (j : Int) := hD 18 (by decide)
                  clear hD
                  clear hN
                  try dsimp only at hK ⊢
                  simp only [Act.put, List.setIfInBounds_toArray, List.set_cons_succ, List.set_cons_zero] at hK
                  generalize vs 12 = vq12 at hK dq12 ⊢
                  subst vq12
                  generalize vs 17 = vq17 at hK dq17 ⊢
                  subst vq17
                  generalize vs 18 = vq18 at hK dq18 ⊢
                  subst vq18
                  have hix := HIe.out
                  go_wp2_with fail
                  exact hK _ _ rfl (fun _ _ h => h) (Mod.refl _ _)
                refine opsOkP_cons ?_ ?_
                · intro K vs W hR hD hN hK
                  have dq12 : vs 12 = .bool false := hD 12 (by decide)
                  have dq19 : vs 19 = .pointer (some ⟨eb, eo, none⟩) := hD 19 (by decide)
                  clear hD
                  clear hN
                  try dsimp only at hK ⊢
                  simp only [Act.put, List.setIfInBounds_toArray, List.set_cons_succ, List.set_cons_zero] at hK
                  generalize vs 12 = vq12 at hK dq12 ⊢
                  subst vq12
                  generalize vs 19 = vq19 at hK dq19 ⊢
                  subst vq19
                  have c0 := (HSd.out.at (HOLD.out W hR)).1
                  go_wp2
                  exact hK _ _ rfl (fun _ _ h => h) (Mod.refl _ _)
                refine opsOkP_cons ?_ ?_
                · intro K vs W hR hD hN hK
                  have dq12 : vs 12 = .bool false := hD 12 (by decide)
                  have dq16 : vs 16 = .slice (some ⟨g, 0, none⟩) n n := hD 16 (by decide)
                  have dq20 : vs 20 = .int .i64 (kx : Int) := hD 20 (by decide)
                  clear hD
                  clear hN
                  try dsimp only at hK ⊢
                  simp only [Act.put, List.setIfInBounds_toArray, List.set_cons_succ, List.set_cons_zero] at hK
                  generalize vs 12 = vq12 at hK dq12 ⊢
                  subst vq12
                  generalize vs 16 = vq16 at hK dq16 ⊢
                  subst vq16
                  generalize vs 20 = vq20 at hK dq20 ⊢
                  subst vq20
                  have hig := HIG.out
                  go_wp2_with fail
                  exact hK _ _ rfl (fun _ _ h => h) (Mod.refl _ _)
                refine opsOkP_cons ?_ ?_
                · intro K vs W hR hD hN hK
                  have dq12 : vs 12 = .bool false := hD 12 (by decide)
                  have dq21 : vs 21 = .pointer (some ⟨g, kx, none⟩) := hD 21 (by decide)
                  clear hD
                  clear hN
                  try dsimp only at hK ⊢
                  simp only [Act.put, List.setIfInBounds_toArray, List.set_cons_succ, List.set_cons_zero] at hK
                  generalize vs 12 = vq12 at hK dq12 ⊢
                  subst vq12
                  generalize vs 21 = vq21 at hK dq21 ⊢
                  subst vq21
                  have cu := (HSd.out.at (HOLD.out W hR)).2.2.1
                  go_wp2
                  exact hK _ _ rfl (fun _ _ h => h) (Mod.refl _ _)
                refine opsOkP_cons ?_ ?_
                · intro K vs W hR hD hN hK
                  have dq12 : vs 12 = .bool false := hD 12 (by decide)
                  have dq22 : vs 22 = .int .i64 uk := hD 22 (by decide)
                  clear hD
                  clear hN
                  try dsimp only at hK ⊢
                  simp only [Act.put, List.setIfInBounds_toArray, List.set_cons_succ, List.set_cons_zero] at hK
                  generalize vs 12 = vq12 at hK dq12 ⊢
                  subst vq12
                  generalize vs 22 = vq22 at hK dq22 ⊢
                  subst vq22
                  go_wp2
                  exact hK _ _ rfl (fun _ _ h => h) (Mod.refl _ _)
                refine opsOkP_cons ?_ ?_
                · intro K vs W hR hD hN hK
                  have dq12 : vs 12 = .bool false := hD 12 (by decide)
                  have dq23 : vs 23 = .bool (uk == 0) := hD 23 (by decide)
                  clear hD
                  clear hN
                  try dsimp only at hK ⊢
                  simp only [Act.put, List.setIfInBounds_toArray, List.set_cons_succ, List.set_cons_zero] at hK
                  generalize vs 12 = vq12 at hK dq12 ⊢
                  subst vq12
                  generalize vs 23 = vq23 at hK dq23 ⊢
                  subst vq23
                  go_wp2
                  exact hK _ _ rfl (fun _ _ h => h) (Mod.refl _ _)
                refine opsOkP_cons ?_ ?_
                · intro K vs W hR hD hN hK
                  have dq0 : vs 0 = .slice (some ⟨fb, 0, none⟩) n n := hD 0 (by decide)
                  have dq4 : vs 4 = .int .i64 (kx : Int) := hD 4 (by decide)
                  clear hD
                  clear hN
                  try dsimp only at hK ⊢
                  simp only [Act.put, List.setIfInBounds_toArray, List.set_cons_succ, List.set_cons_zero] at hK
                  generalize vs 0 = vq0 at hK dq0 ⊢
                  subst vq0
                  generalize vs 4 = vq4 at hK dq4 ⊢
                  subst vq4
                  have hif := HIF.out
                  go_wp2_with fail
                  exact hK _ _ rfl (fun _ _ h => h) (Mod.refl _ _)
                exact opsOkP_nil
              · intro vs wq5 hR hF
                have dq24 : vs 24 = .bool (uk == 0) := hF 24 (by decide) (by decide)
                have dq25 : vs 25 = .pointer (some ⟨fb, kx, none⟩) := hF 25 (by decide) (by decide)
                clear hF
                try dsimp only
                generalize vs 24 = vq24 at dq24 ⊢
                subst vq24
                generalize vs 25 = vq25 at dq25 ⊢
                subst vq25
                have hmw : Mod (fun _ => False) wo wq5 := (Mod.drew _ _).of2 (HOLD.out _ hR)
                replace HS := Lib.hid (HS.out.step hmw)
                clear hmw HSd
                clear HOLD HB0
                have hmq := (HS.out.now).2.2.2.2.2
                have hfr := HRF.out.keep (Shp.ofMod (F := fun _ => False) hmq)
                obtain ⟨v0, c0⟩ := hfr.cell
                have f0 := hfr.free
                go_upto_region 13 with fail
                clear hfr c0 f0
                obtain ⟨ws, hws⟩ : ∃ W, World.setCell wq5 ⟨fb, kx, none⟩ (.bool (uk == 0)) = W := ⟨_, rfl⟩
                have hms : Mod (fun b => b = fb) wq5 (World.setCell wq5 ⟨fb, kx, none⟩ (.bool (uk == 0))) := Mod.setCell (F := fun b => b = fb) _ ⟨fb, kx, none⟩ _ rfl
                have hos := ((Own.keep HOW.out hmq (fun _ _ e => e)).stored kx (.bool (uk == 0))).1
                rw [hws] at hms hos ⊢
                have hst : (frK u us xs j).set kx ((uk == 0)) = frK u us xs (j + 1) := by
                  rw [← HSTP.out]
                  congr 1
                  have hu0 : (u == 0) = false := by have := HUU.out.1; rw [beq_eq_false_iff_ne]; omega
                  simp [turnF, hu0]
                rw [show (((frK u us xs j).map Value.bool).set kx (.bool (uk == 0))) = ((frK u us xs j).set kx ((uk == 0))).map Value.bool from by rw [List.map_set], hst] at hos
                have huo := ((HS.out.now).2.2.2.2.1).keep hms (fun e => by omega) (fun e => by omega)
                have hrd := HX0.out.rd.keepA (((HMW.out.trans hmq (fun _ _ e => e) (fun _ _ e => e.elim)).trans hms (fun _ _ e => .inl e) (fun i hi e => .inr e) : Mod (fun b => b = g ∨ b = fb) w ws)) (fun b hb e => by rcases e with e | e; exact HX0.out.off b hb e; exact HX0.out.rd.lt hb (by have h2 := HFB.out; omega))
                have HMS : Hid (Mod (fun b => b = g ∨ b = fb) wA ws) := Lib.hid ((HMR.out.trans hmq (fun _ _ e => e) (fun _ _ e => e.elim)).trans hms (fun _ _ e => e) (fun _ _ e => .inr e))
                have HOS := Lib.hid hos
                have HUS := Lib.hid huo
                clear hms hmq hos huo hws hst HS
                have HS : Hid (Ev (Mod (fun _ => False) ws) ws) := Lib.hid (Ev.mod ws)
                replace HS := Lib.hid ((Ev.uo HUS.out).and HS.out)
                replace HS := Lib.hid ((Ev.rd hrd).and HS.out)
                obtain ⟨yb, yo, hpl, e0⟩ := rd1 (HS.out.now).1 j hjl
                have hix := fun wx => run_indexS (P := Try.prog) wx 28 3 iI 1 Try.underlying28 hiI hsI a k c j hlt ((HS.out.now).1.some_ (by have := hlt; omega))
                rw [hpl] at hix
                have HIy := Lib.hid hix
                clear hix hpl
                rw [hkx] at e0
                replace HS := Lib.hid ((Ev.cell e0).and HS.out)
                clear e0
                clear hrd
                obtain ⟨B0, hB0⟩ : ∃ n, ws.heap.size = n := ⟨_, rfl⟩
                have HB0 := Lib.hid hB0
                clear hB0
                have HOLD : Hid (∀ W, Mod (fun k => B0 ≤ k) (World.drew ws) W → Mod (fun _ => False) (World.drew ws) W) := Lib.hid fun W h => h.mono (fun i hi e => by have := HB0.out; simp at hi; omega)
                go_upto_region 13 with fail
                have HSd := Lib.hid HS.out.drew
                have HST : ∀ (ix : Nat) (vs : Nat → Value) (vx : Value) (wx wy : World), factP (uc_r13_5_F q g n c k kx a u j yb yo) ix vs vx wx → Mod (fun _ => False) wx wy → factP (uc_r13_5_F q g n c k kx a u j yb yo) ix vs vx wy := by
                  refine factP_stays ?_
                  unfold uc_r13_5_F
                  exact stableP_cons (StableP.of (stable_val _)) <| stableP_cons (StableP.of (stable_val _)) <| stableP_cons (StableP.of (stable_val _)) <| stableP_cons (StableP.of (stable_val _)) <| stableP_cons (StableP.of (stable_val _)) <| stableP_cons (StableP.of (stable_val _)) <| stableP_cons (StableP.of (stable_val _)) <| stableP_cons (StableP.of (stable_val _)) <| stableP_cons (StableP.of (stable_val _)) <| stableP_cons (StableP.of (stable_val _)) <| stableP_nil
                have HSO : ∀ px ∈ (uc_r13_5_F q g n c k kx a u j yb yo), px.1 = true → ∀ (vs : Nat → Value) (vx : Value) (wx wy : World), px.2 vs vx wx → px.2 vs vx wy := by
                  unfold uc_r13_5_F
                  exact solidP_cons (solid_val _) <| solidP_cons (solid_val _) <| solidP_cons (solid_val _) <| solidP_cons (solid_val _) <| solidP_cons (solid_val _) <| solidP_cons (solid_val _) <| solidP_cons (solid_val _) <| solidP_cons (solid_val _) <| solidP_cons (solid_val _) <| solidP_cons (solid_val _) <| solidP_nil
                have HLO : LocL (fun i => uc_r13_5_D.getD i []) 0 (uc_r13_5_F q g n c k kx a u j yb yo) := by
                  unfold uc_r13_5_F
                  exact loc_cons (loc_own _) <| loc_cons (loc_own _) <| loc_cons (loc_own _) <| loc_cons (loc_own _) <| loc_cons (loc_own _) <| loc_cons (loc_own _) <| loc_cons (loc_own _) <| loc_cons (loc_own _) <| loc_cons (loc_own _) <| loc_cons (loc_own _) <| loc_nil
                refine wp_region_pair (act := ?actuc_r13_5) (Mod (fun k => B0 ≤ k)) (factP (uc_r13_5_F q g n c k kx a u j yb yo)) (fun i => uc_r13_5_C.getD i 1000) (fun i => uc_r13_5_D.getD i []) 10 _ rfl rfl (by kernel_rfl) (by kernel_rfl) (by kernel_rfl) (by kernel_rfl) (by kernel_rfl) (fun _ => Mod.refl _ _)
                  (fun _ _ _ h k => h.trans k (fun _ _ e => e) (fun _ _ e => e)) ?hactuc_r13_5 (loc_of HLO) ?_ ?_
                case hactuc_r13_5 => intro vs; simp only [putAll, Nat.zero_add, Nat.reduceAdd, Act.put, List.setIfInBounds_toArray, List.set_cons_succ, List.set_cons_zero]; exact rfl
                · refine opsOkP_cons ?_ ?_
                  · intro K vs W hR hD hN hK
                    clear hD
                    clear hN
                    try dsimp only at hK ⊢
                    simp only [Act.put, List.setIfInBounds_toArray, List.set_cons_succ, List.set_cons_zero] at hK
                    go_wp2
                    exact hK _ _ rfl (fun _ _ h => h) (Mod.refl _ _)
                  refine opsOkP_cons ?_ ?_
                  · intro K vs W hR hD hN hK
                    have dq0 : vs 0 = .pointer (some ⟨q, 0, none⟩) := hD 0 (by decide)
                    clear hD
                    clear hN
                    try dsimp only at hK ⊢
                    simp only [Act.put, List.setIfInBounds_toArray, List.set_cons_succ, List.set_cons_zero] at hK
                    generalize vs 0 = vq0 at hK dq0 ⊢
                    subst vq0
                    go_wp2
                    exact hK _ _ rfl (fun _ _ h => h) (Mod.refl _ _)
                  refine opsOkP_cons ?_ ?_
                  · intro K vs W hR hD hN hK
                    have dq1 : vs 1 = .pointer (some ⟨q, 0, none⟩) := hD 1 (by decide)
                    clear hD
                    clear hN
                    try dsimp only at hK ⊢
                    simp only [Act.put, List.setIfInBounds_toArray, List.set_cons_succ, List.set_cons_zero] at hK
                    generalize vs 1 = vq1 at hK dq1 ⊢
                    subst vq1
                    go_wp2
                    exact hK _ _ rfl (fun _ _ h => h) (Mod.refl _ _)
                  refine opsOkP_cons ?_ ?_
                  · intro K vs W hR hD hN hK
                    have dq2 : vs 2 = .pointer (some ⟨q, 0, none⟩) := hD 2 (by decide)
                    clear hD
                    clear hN
                    try dsimp only at hK ⊢
                    simp only [Act.put, List.setIfInBounds_toArray, List.set_cons_succ, List.set_cons_zero] at hK
                    generalize vs 2 = vq2 at hK dq2 ⊢
                    subst vq2
                    have c0 := ((HSd.out.at (HOLD.out W hR)).2.2.1).blk.cell 0 rfl
                    go_wp2
                    exact hK _ _ rfl (fun _ _ h => h) (Mod.refl _ _)
                  refine opsOkP_cons ?_ ?_
                  · intro K vs W hR hD hN hK
                    clear hD
                    clear hN
                    try dsimp only at hK ⊢
                    simp only [Act.put, List.setIfInBounds_toArray, List.set_cons_succ, List.set_cons_zero] at hK
                    go_wp2
                    exact hK _ _ rfl (fun _ _ h => h) (Mod.refl _ _)
                  refine opsOkP_cons ?_ ?_
                  · intro K vs W hR hD hN hK
                    clear hD
                    clear hN
                    try dsimp only at hK ⊢
                    simp only [Act.put, List.setIfInBounds_toArray, List.set_cons_succ, List.set_cons_zero] at hK
                    go_wp2
                    exact hK _ _ rfl (fun _ _ h => h) (Mod.refl _ _)
                  refine opsOkP_cons ?_ ?_
                  · intro K vs W hR hD hN hK
                    have dq4 : vs 4 = .slice a k c := hD 4 (by decide)
                    have dq5 : vs 5 = .int .i64 (j : Int) := hD 5 (by decide)
                    clear hD
                    clear hN
                    try dsimp only at hK ⊢
                    simp only [Act.put, List.setIfInBounds_toArray, List.set_cons_succ, List.set_cons_zero] at hK
                    generalize vs 4 = vq4 at hK dq4 ⊢
                    subst vq4
                    generalize vs 5 = vq5 at hK dq5 ⊢
                    subst vq5
                    have hix := HIy.out
                    go_wp2_with fail
                    exact hK _ _ rfl (fun _ _ h => h) (Mod.refl _ _)
                  refine opsOkP_cons ?_ ?_
                  · intro K vs W hR hD hN hK
                    have dq6 : vs 6 = .pointer (some ⟨yb, yo, none⟩) := hD 6 (by decide)
                    clear hD
                    clear hN
                    try dsimp only at hK ⊢
                    simp only [Act.put, List.setIfInBounds_toArray, List.set_cons_succ, List.set_cons_zero] at hK
                    generalize vs 6 = vq6 at hK dq6 ⊢
                    subst vq6
                    have c0 := (HSd.out.at (HOLD.out W hR)).1
                    go_wp2
                    exact hK _ _ rfl (fun _ _ h => h) (Mod.refl _ _)
                  refine opsOkP_cons ?_ ?_
                  · intro K vs W hR hD hN hK
                    clear hD
                    clear hN
                    try dsimp only at hK ⊢
                    simp only [Act.put, List.setIfInBounds_toArray, List.set_cons_succ, List.set_cons_zero] at hK
                    go_wp2
                    exact hK _ _ rfl (fun _ _ h => h) (Mod.refl _ _)
                  refine opsOkP_cons ?_ ?_
                  · intro K vs W hR hD hN hK
                    have dq3 : vs 3 = .slice (some ⟨g, 0, none⟩) n n := hD 3 (by decide)
                    have dq7 : vs 7 = .int .i64 (kx : Int) := hD 7 (by decide)
                    clear hD
                    clear hN
                    try dsimp only at hK ⊢
                    simp only [Act.put, List.setIfInBounds_toArray, List.set_cons_succ, List.set_cons_zero] at hK
                    generalize vs 3 = vq3 at hK dq3 ⊢
                    subst vq3
                    generalize vs 7 = vq7 at hK dq7 ⊢
                    subst vq7
                    have hig := HIG.out
                    go_wp2_with fail
                    exact hK _ _ rfl (fun _ _ h => h) (Mod.refl _ _)
                  exact opsOkP_nil
                · intro vs wq6 hR hF
                  have dq8 : vs 8 = .int .i64 u := hF 8 (by decide) (by decide)
                  have dq9 : vs 9 = .pointer (some ⟨g, kx, none⟩) := hF 9 (by decide) (by decide)
                  clear hF
                  try dsimp only
                  generalize vs 8 = vq8 at dq8 ⊢
                  subst vq8
                  generalize vs 9 = vq9 at dq9 ⊢
                  subst vq9
                  have hmw : Mod (fun _ => False) ws wq6 := (Mod.drew _ _).of2 (HOLD.out _ hR)
                  replace HS := Lib.hid (HS.out.step hmw)
                  clear hmw HSd
                  clear HOLD HB0
                  have hmq := (HS.out.now).2.2.2
                  have huz := (HS.out.now).2.2.1
                  have hfr := huz.room kx hkn
                  obtain ⟨v0, c0⟩ := hfr.cell
                  have f0 := hfr.free
                  have HUZ := Lib.hid huz
                  have HMQ := Lib.hid hmq
                  clear hfr huz hmq
                  go_wp2_with fail
                  go_roundw
                  case rel =>
                    have hmf : Mod (fun b => b = g) wq6 (World.setCell wq6 ⟨g, kx, none⟩ (.int .i64 u)) := Mod.setCell (F := fun b => b = g) _ ⟨g, kx, none⟩ _ rfl
                    refine ⟨j + 1, hlt, by go_num, (HMS.out.trans HMQ.out (fun _ _ e => e) (fun _ _ e => e.elim)).trans hmf (fun _ _ e => e) (fun _ _ e => .inl e), Own.keep (Own.keep HOS.out HMQ.out (fun _ _ e => e)) hmf (fun b hb e => by have : fb = b := Option.some.inj hb; omega), ?_⟩
                    rw [show xs.take (j + 1) = xs.take j ++ [(kx : Int)] from by rw [List.take_succ_eq_append_getElem hjl, hkx], putU_snoc]
                    exact HUZ.out.set kx _
                  case measure => simp [intOf]; omega
/-- What each operation of the statement leaves. -/
def up_r4_0_F (q : Nat) (g : Nat) (n : Nat) (m : Nat) (c : Nat) (k : Nat) (a : Option Addr) (x : Int) (eb : Nat) (eo : Nat) : List (Value → World → Prop) :=
  [IsV (.slice a m c),
   IsV (.int .i64 (k : Int)),
   IsV (.pointer (some ⟨eb, eo, none⟩)),
   IsV (.int .i64 x),
   IsV (.pointer (some ⟨q, 0, none⟩)),
   IsV (.pointer (some ⟨q, 0, none⟩)),
   IsV (.pointer (some ⟨q, 0, none⟩)),
   IsV (.slice (some ⟨g, 0, none⟩) n n),
   IsV (.int .i64 (n : Int)),
   IsV (.int .i64 ((n : Int) - 1)),
   IsV (.bool true),
   IsV (.bool false)]
def up_r4_0_D : List (List Nat) := [[], [], [0, 1], [2], [], [4], [5], [6], [7], [8], [3, 9], [10]]

/-- What each operation of the statement leaves. -/
def up_r4_1_F (q : Nat) (g : Nat) (n : Nat) (m : Nat) (c : Nat) (k : Nat) (a : Option Addr) (x : Int) (eb : Nat) (eo : Nat) : List (Value → World → Prop) :=
  [IsV (.slice a m c),
   IsV (.int .i64 (k : Int)),
   IsV (.pointer (some ⟨eb, eo, none⟩)),
   IsV (.int .i64 x),
   IsV (.pointer (some ⟨q, 0, none⟩)),
   IsV (.pointer (some ⟨q, 0, none⟩)),
   IsV (.pointer (some ⟨q, 0, none⟩)),
   IsV (.slice (some ⟨g, 0, none⟩) n n),
   IsV (.int .i64 (n : Int)),
   IsV (.int .i64 ((n : Int) - 1)),
   IsV (.bool false),
   IsV (.bool true)]
def up_r4_1_D : List (List Nat) := [[], [], [0, 1], [2], [], [4], [5], [6], [7], [8], [3, 9], [10]]

/-- What each operation of the statement leaves. -/
def up_r10_2_F (n : Nat) (c : Nat) (k : Nat) (fb : Nat) (kx : Nat) (a : Option Addr) (eb : Nat) (eo : Nat) (j : Nat) : List FactP :=
  [(true, fun _ => IsV (.slice (some ⟨fb, 0, none⟩) n n)),
   (true, fun _ => IsV (.slice a k c)),
   (true, fun _ => IsV (.int .i64 (j : Int))),
   (true, fun _ => IsV (.pointer (some ⟨eb, eo, none⟩))),
   (true, fun _ => IsV (.int .i64 (kx : Int))),
   (true, fun _ => IsV (.slice (some ⟨fb, 0, none⟩) n n)),
   (true, fun _ => IsV (.slice a k c)),
   (true, fun _ => IsV (.int .i64 (j : Int))),
   (true, fun _ => IsV (.pointer (some ⟨eb, eo, none⟩))),
   (true, fun _ => IsV (.int .i64 (kx : Int))),
   (true, fun _ => IsV (.pointer (some ⟨fb, kx, none⟩))),
   (true, fun _ => IsV (.bool true)),
   (true, fun _ => IsV (.bool true)),
   (true, fun _ => IsV (undef)),
   (true, fun _ => IsV (undef)),
   (true, fun _ => IsV (undef)),
   (true, fun _ => IsV (undef)),
   (true, fun _ => IsV (undef)),
   (true, fun _ => IsV (undef)),
   (true, fun _ => IsV (undef)),
   (true, fun _ => IsV (undef)),
   (true, fun _ => IsV (undef)),
   (true, fun _ => IsV (undef)),
   (true, fun _ => IsV (undef)),
   (true, fun _ => IsV (.bool true)),
   (true, fun _ => IsV (.pointer (some ⟨fb, kx, none⟩)))]
def up_r10_2_D : List (List Nat) := [[], [], [], [1, 2], [3], [], [], [], [6, 7], [8], [5, 9], [10], [11], [12], [12], [12], [12], [12], [12], [12], [12], [12], [12], [12], [12, 23], [0, 4]]
def up_r10_2_C : List Nat := [1000, 1000, 1000, 1000, 1000, 1000, 1000, 1000, 1000, 1000, 1000, 1000, 1000, 1000, 1000, 1000, 1000, 1000, 1000, 1000, 1000, 1000, 1000, 1000, 1000, 1000]

/-- What each operation of the statement leaves. -/
def up_r11_3_F (q : Nat) (g : Nat) (n : Nat) (c : Nat) (k : Nat) (kx : Nat) (a : Option Addr) (j : Nat) (yb : Nat) (yo : Nat) : List FactP :=
  [(true, fun _ => IsV (.pointer (some ⟨q, 0, none⟩))),
   (true, fun _ => IsV (.pointer (some ⟨q, 0, none⟩))),
   (true, fun _ => IsV (.pointer (some ⟨q, 0, none⟩))),
   (true, fun _ => IsV (.slice (some ⟨g, 0, none⟩) n n)),
   (true, fun _ => IsV (.slice a k c)),
   (true, fun _ => IsV (.int .i64 (j : Int))),
   (true, fun _ => IsV (.pointer (some ⟨yb, yo, none⟩))),
   (true, fun _ => IsV (.int .i64 (kx : Int))),
   (true, fun _ => IsV (.pointer (some ⟨g, kx, none⟩)))]
def up_r11_3_D : List (List Nat) := [[], [0], [1], [2], [], [], [4, 5], [6], [3, 7]]
def up_r11_3_C : List Nat := [1000, 1000, 1000, 1000, 1000, 1000, 1000, 1000, 1000]

/-- What each operation of the statement leaves. -/
def up_r10_4_F (q : Nat) (g : Nat) (n : Nat) (c : Nat) (k : Nat) (fb : Nat) (kx : Nat) (a : Option Addr) (uk : Int) (eb : Nat) (eo : Nat) (j : Nat) : List FactP :=
  [(true, fun _ => IsV (.slice (some ⟨fb, 0, none⟩) n n)),
   (true, fun _ => IsV (.slice a k c)),
   (true, fun _ => IsV (.int .i64 (j : Int))),
   (true, fun _ => IsV (.pointer (some ⟨eb, eo, none⟩))),
   (true, fun _ => IsV (.int .i64 (kx : Int))),
   (true, fun _ => IsV (.slice (some ⟨fb, 0, none⟩) n n)),
   (true, fun _ => IsV (.slice a k c)),
   (true, fun _ => IsV (.int .i64 (j : Int))),
   (true, fun _ => IsV (.pointer (some ⟨eb, eo, none⟩))),
   (true, fun _ => IsV (.int .i64 (kx : Int))),
   (true, fun _ => IsV (.pointer (some ⟨fb, kx, none⟩))),
   (true, fun _ => IsV (.bool false)),
   (true, fun _ => IsV (.bool false)),
   (true, fun _ => IsV (.pointer (some ⟨q, 0, none⟩))),
   (true, fun _ => IsV (.pointer (some ⟨q, 0, none⟩))),
   (true, fun _ => IsV (.pointer (some ⟨q, 0, none⟩))),
   (true, fun _ => IsV (.slice (some ⟨g, 0, none⟩) n n)),
   (true, fun _ => IsV (.slice a k c)),
   (true, fun _ => IsV (.int .i64 (j : Int))),
   (true, fun _ => IsV (.pointer (some ⟨eb, eo, none⟩))),
   (true, fun _ => IsV (.int .i64 (kx : Int))),
   (true, fun _ => IsV (.pointer (some ⟨g, kx, none⟩))),
   (true, fun _ => IsV (.int .i64 uk)),
   (true, fun _ => IsV (.bool (uk != 0))),
   (true, fun _ => IsV (.bool (uk != 0))),
   (true, fun _ => IsV (.pointer (some ⟨fb, kx, none⟩)))]
def up_r10_4_D : List (List Nat) := [[], [], [], [1, 2], [3], [], [], [], [6, 7], [8], [5, 9], [10], [11], [12], [12, 13], [12, 14], [12, 15], [12], [12], [12, 17, 18], [12, 19], [12, 16, 20], [12, 21], [12, 22], [12, 23], [0, 4]]
def up_r10_4_C : List Nat := [1000, 1000, 1000, 1000, 1000, 1000, 1000, 1000, 1000, 1000, 1000, 1000, 1000, 1000, 1000, 1000, 1000, 1000, 1000, 1000, 1000, 1000, 1000, 1000, 1000, 1000]

/-- What each operation of the statement leaves. -/
def up_r11_5_F (q : Nat) (g : Nat) (n : Nat) (c : Nat) (k : Nat) (kx : Nat) (a : Option Addr) (j : Nat) (yb : Nat) (yo : Nat) : List FactP :=
  [(true, fun _ => IsV (.pointer (some ⟨q, 0, none⟩))),
   (true, fun _ => IsV (.pointer (some ⟨q, 0, none⟩))),
   (true, fun _ => IsV (.pointer (some ⟨q, 0, none⟩))),
   (true, fun _ => IsV (.slice (some ⟨g, 0, none⟩) n n)),
   (true, fun _ => IsV (.slice a k c)),
   (true, fun _ => IsV (.int .i64 (j : Int))),
   (true, fun _ => IsV (.pointer (some ⟨yb, yo, none⟩))),
   (true, fun _ => IsV (.int .i64 (kx : Int))),
   (true, fun _ => IsV (.pointer (some ⟨g, kx, none⟩)))]
def up_r11_5_D : List (List Nat) := [[], [0], [1], [2], [], [], [4, 5], [6], [3, 7]]
def up_r11_5_C : List Nat := [1000, 1000, 1000, 1000, 1000, 1000, 1000, 1000, 1000]

/-- What the call tells and leaves. -/
def uopenP (q g n : Nat) (us : List Int) (xs : List Int) (w : World) (e : Ending) (w' : World) : Prop :=
  ((hasB n xs = true) ∧ ∃ v, e = .returned (.tuple #[v, .int .i64 0]) ∧ w'.ownsRow w.heap.size 3 1 v (listK (frK 0 us xs xs.length) n).length ((listK (frK 0 us xs xs.length) n).map (Value.int .i64)) ∧ UO w' q g n (putU 0 us xs) ∧ Mod (fun b => b = g) w w') ∨
  (¬ (hasB n xs = true) ∧ e = .returned (.tuple #[.slice none 0 0, .int .i64 1]) ∧ Mod (fun _ => False) w w')
set_option maxHeartbeats 32000000 in
theorem uopen_any (q g n : Nat) (us : List Int) (w : World) (h : UO w q g n us) (a : Option Addr) (m c : Nat) (xs : List Int) (hx : XR w g a m c xs) (hb : m ≤ 100000) :
    Calls Try.prog 14 #[.pointer (some ⟨q, 0, none⟩), .slice a m c] w (uopenP q g n us xs w) := by
  obtain ⟨iI, hiI, hzI, hsI, hbI⟩ := info_parts infoI
  obtain ⟨iB, hiB, hzB, hsB, hbB⟩ := info_parts infoBl
  have hn := h.le
  have HUL := Lib.hid h.len
  have HL := Lib.hid hx.len
  have HU0 := Lib.hid h
  have HX0 := Lib.hid hx
  have hmk := run_makeS (P := Try.prog) 40 4 iB (.bool false) Try.underlying40 hiB hzB rfl hsB n (by rw [hbB]; omega) (by omega)
  have HMK := Lib.hid hmk
  clear hmk
  have HS : Hid (Ev (Mod (fun _ => False) w) w) := Lib.hid (Ev.mod w)
  replace HS := Lib.hid ((Ev.uo h).and HS.out)
  replace HS := Lib.hid ((Ev.rd hx.rd).and HS.out)
  clear h hx
  go_enter Try.func14, Try.ntmps14
  go_wp2_with fail
  replace HS := Lib.hid ((Ev.mod w).and HS.out)
  go_loopw [6] (fun i wr => ∃ k : Nat, k ≤ m ∧ i = .int .i64 k ∧ hasB n (xs.take k) = true ∧ Mod (fun _ => False) w wr) (fun i _ => m - (intOf i).toNat)
  case atStart => exact ⟨0, by omega, rfl, rfl, Mod.refl _ _⟩
  case round =>
    obtain ⟨k, hk, rfl, hb1, hmr⟩ := hrel
    obtain ⟨wo, hwo⟩ : ∃ x : World, x = wr := ⟨_, rfl⟩
    subst hwo
    replace HS := Lib.hid (HS.out.step hmr)
    clear hmr
    have HB1 := Lib.hid hb1
    clear hb1
    by_cases hlt : k < m
    case pos =>
      have hkl : k < xs.length := by rw [HL.out]; exact hlt
      have z0 : decide ((k : Int) < (m : Int)) = true := by simp; omega
      have HTK := Lib.hid (hasB_take n xs k hkl)
      have HNOB := Lib.hid (hasB_no n xs k hkl)
      obtain ⟨x, HX0⟩ : ∃ qz, xs[k] = qz := ⟨_, rfl⟩
      have HX := Lib.hid HX0
      clear HX0
      rw [HX.out] at HTK HNOB
      obtain ⟨eb, eo, hpl, e0⟩ := rd1 (HS.out.now).2.1 k hkl
      have hix := fun wx => run_indexS (P := Try.prog) wx 28 3 iI 1 Try.underlying28 hiI hsI a m c k hlt ((HS.out.now).2.1.some_ (by have := hlt; omega))
      rw [hpl] at hix
      have HIe := Lib.hid hix
      clear hix hpl
      rw [HX.out] at e0
      replace HS := Lib.hid ((Ev.cell e0).and HS.out)
      clear e0
      by_cases hx : 0 ≤ x ∧ x < (n : Int)
      case pos =>
        have HE : Hid (edge1 n x = true) := Lib.hid (decide_eq_true hx)
        have HW : Hid (decide (0 ≤ x ∧ x ≤ (n : Int) - 1) = true) := Lib.hid (decide_eq_true (by omega))
        clear hx
        go_upto_region 4 with fail
        clear z0
        have HSd := Lib.hid HS.out.drew
        refine wp_region_inv3 (act := ?actup_r4_0) (Mod (fun _ => False)) (fun i => (up_r4_0_F q g n m c k a x eb eo).getD i (fun _ _ => True)) (fun i => up_r4_0_D.getD i []) (by kernel_rfl) (by kernel_rfl) (by kernel_rfl) (by kernel_rfl) (fun _ => Mod.refl _ _)
          (fun _ _ _ h k => h.trans k (fun _ _ e => e) (fun _ _ e => e)) ?hactup_r4_0 (stable_list ?_) ?_ ?_
        case hactup_r4_0 => intro vs; simp only [putAll, Nat.zero_add, Nat.reduceAdd, Act.put, List.setIfInBounds_toArray, List.set_cons_succ, List.set_cons_zero]; exact rfl
        · unfold up_r4_0_F
          exact stable_cons (stable_val _) <| stable_cons (stable_val _) <| stable_cons (stable_val _) <| stable_cons (stable_val _) <| stable_cons (stable_val _) <| stable_cons (stable_val _) <| stable_cons (stable_val _) <| stable_cons (stable_val _) <| stable_cons (stable_val _) <| stable_cons (stable_val _) <| stable_cons (stable_val _) <| stable_cons (stable_val _) <| stable_nil
        · refine opsOkA_cons ?_ ?_
          · intro K vs W hR hD hK
            clear hD
            try dsimp only at hK ⊢
            simp only [Act.put, List.setIfInBounds_toArray, List.set_cons_succ, List.set_cons_zero] at hK
            go_wp2
            exact hK _ _ rfl (Mod.refl _ _)
          refine opsOkA_cons ?_ ?_
          · intro K vs W hR hD hK
            clear hD
            try dsimp only at hK ⊢
            simp only [Act.put, List.setIfInBounds_toArray, List.set_cons_succ, List.set_cons_zero] at hK
            go_wp2
            exact hK _ _ rfl (Mod.refl _ _)
          refine opsOkA_cons ?_ ?_
          · intro K vs W hR hD hK
            have dq0 : vs 0 = .slice a m c := hD 0 (by decide)
            have dq1 : vs 1 = .int .i64 (k : Int) := hD 1 (by decide)
            clear hD
            try dsimp only at hK ⊢
            simp only [Act.put, List.setIfInBounds_toArray, List.set_cons_succ, List.set_cons_zero] at hK
            generalize vs 0 = vq0 at hK dq0 ⊢
            subst vq0
            generalize vs 1 = vq1 at hK dq1 ⊢
            subst vq1
            have hix := HIe.out
            go_wp2_with fail
            exact hK _ _ rfl (Mod.refl _ _)
          refine opsOkA_cons ?_ ?_
          · intro K vs W hR hD hK
            have dq2 : vs 2 = .pointer (some ⟨eb, eo, none⟩) := hD 2 (by decide)
            clear hD
            try dsimp only at hK ⊢
            simp only [Act.put, List.setIfInBounds_toArray, List.set_cons_succ, List.set_cons_zero] at hK
            generalize vs 2 = vq2 at hK dq2 ⊢
            subst vq2
            have c0 := (HSd.out.at (hR)).1
            go_wp2
            exact hK _ _ rfl (Mod.refl _ _)
          refine opsOkA_cons ?_ ?_
          · intro K vs W hR hD hK
            clear hD
            try dsimp only at hK ⊢
            simp only [Act.put, List.setIfInBounds_toArray, List.set_cons_succ, List.set_cons_zero] at hK
            go_wp2
            exact hK _ _ rfl (Mod.refl _ _)
          refine opsOkA_cons ?_ ?_
          · intro K vs W hR hD hK
            have dq4 : vs 4 = .pointer (some ⟨q, 0, none⟩) := hD 4 (by decide)
            clear hD
            try dsimp only at hK ⊢
            simp only [Act.put, List.setIfInBounds_toArray, List.set_cons_succ, List.set_cons_zero] at hK
            generalize vs 4 = vq4 at hK dq4 ⊢
            subst vq4
            go_wp2
            exact hK _ _ rfl (Mod.refl _ _)
          refine opsOkA_cons ?_ ?_
          · intro K vs W hR hD hK
            have dq5 : vs 5 = .pointer (some ⟨q, 0, none⟩) := hD 5 (by decide)
            clear hD
            try dsimp only at hK ⊢
            simp only [Act.put, List.setIfInBounds_toArray, List.set_cons_succ, List.set_cons_zero] at hK
            generalize vs 5 = vq5 at hK dq5 ⊢
            subst vq5
            go_wp2
            exact hK _ _ rfl (Mod.refl _ _)
          refine opsOkA_cons ?_ ?_
          · intro K vs W hR hD hK
            have dq6 : vs 6 = .pointer (some ⟨q, 0, none⟩) := hD 6 (by decide)
            clear hD
            try dsimp only at hK ⊢
            simp only [Act.put, List.setIfInBounds_toArray, List.set_cons_succ, List.set_cons_zero] at hK
            generalize vs 6 = vq6 at hK dq6 ⊢
            subst vq6
            have c0 := ((HSd.out.at (hR)).2.2.2.1).blk.cell 0 rfl
            go_wp2
            exact hK _ _ rfl (Mod.refl _ _)
          refine opsOkA_cons ?_ ?_
          · intro K vs W hR hD hK
            have dq7 : vs 7 = .slice (some ⟨g, 0, none⟩) n n := hD 7 (by decide)
            clear hD
            try dsimp only at hK ⊢
            simp only [Act.put, List.setIfInBounds_toArray, List.set_cons_succ, List.set_cons_zero] at hK
            generalize vs 7 = vq7 at hK dq7 ⊢
            subst vq7
            go_wp2_with fail
            exact hK _ _ rfl (Mod.refl _ _)
          refine opsOkA_cons ?_ ?_
          · intro K vs W hR hD hK
            have dq8 : vs 8 = .int .i64 (n : Int) := hD 8 (by decide)
            clear hD
            try dsimp only at hK ⊢
            simp only [Act.put, List.setIfInBounds_toArray, List.set_cons_succ, List.set_cons_zero] at hK
            generalize vs 8 = vq8 at hK dq8 ⊢
            subst vq8
            go_wp2
            exact hK _ _ rfl (Mod.refl _ _)
          refine opsOkA_cons ?_ ?_
          · intro K vs W hR hD hK
            have dq3 : vs 3 = .int .i64 x := hD 3 (by decide)
            have dq9 : vs 9 = .int .i64 ((n : Int) - 1) := hD 9 (by decide)
            clear hD
            try dsimp only at hK ⊢
            simp only [Act.put, List.setIfInBounds_toArray, List.set_cons_succ, List.set_cons_zero] at hK
            generalize vs 3 = vq3 at hK dq3 ⊢
            subst vq3
            generalize vs 9 = vq9 at hK dq9 ⊢
            subst vq9
            go_wp2_with (go_at_call 24; refine (r4w_q HW.out W).mono ?_; rintro e' w' ⟨rfl, rfl⟩)
            exact hK _ _ rfl (Mod.refl _ _)
          refine opsOkA_cons ?_ ?_
          · intro K vs W hR hD hK
            have dq10 : vs 10 = .bool true := hD 10 (by decide)
            clear hD
            try dsimp only at hK ⊢
            simp only [Act.put, List.setIfInBounds_toArray, List.set_cons_succ, List.set_cons_zero] at hK
            generalize vs 10 = vq10 at hK dq10 ⊢
            subst vq10
            go_wp2
            exact hK _ _ rfl (Mod.refl _ _)
          exact opsOkA_nil
        · intro vs wq1 hR hF
          have dq11 : vs 11 = .bool false := hF 11 (by decide)
          clear hF
          try dsimp only
          generalize vs 11 = vq11 at dq11 ⊢
          subst dq11
          replace HS := Lib.hid (HSd.out.step hR)
          clear HSd hR
          go_wp2_with fail
          go_roundw
          case rel => exact ⟨k + 1, hlt, by go_num, by rw [HTK.out, HB1.out, HE.out]; rfl, (HS.out.now).2.1⟩
          case measure => simp [intOf]; omega
      case neg =>
        have HE : Hid (edge1 n x = false) := Lib.hid (decide_eq_false hx)
        have HW : Hid (decide (0 ≤ x ∧ x ≤ (n : Int) - 1) = false) := Lib.hid (decide_eq_false (by omega))
        clear hx
        go_upto_region 4 with fail
        clear z0
        have HSd := Lib.hid HS.out.drew
        refine wp_region_inv3 (act := ?actup_r4_1) (Mod (fun _ => False)) (fun i => (up_r4_1_F q g n m c k a x eb eo).getD i (fun _ _ => True)) (fun i => up_r4_1_D.getD i []) (by kernel_rfl) (by kernel_rfl) (by kernel_rfl) (by kernel_rfl) (fun _ => Mod.refl _ _)
          (fun _ _ _ h k => h.trans k (fun _ _ e => e) (fun _ _ e => e)) ?hactup_r4_1 (stable_list ?_) ?_ ?_
        case hactup_r4_1 => intro vs; simp only [putAll, Nat.zero_add, Nat.reduceAdd, Act.put, List.setIfInBounds_toArray, List.set_cons_succ, List.set_cons_zero]; exact rfl
        · unfold up_r4_1_F
          exact stable_cons (stable_val _) <| stable_cons (stable_val _) <| stable_cons (stable_val _) <| stable_cons (stable_val _) <| stable_cons (stable_val _) <| stable_cons (stable_val _) <| stable_cons (stable_val _) <| stable_cons (stable_val _) <| stable_cons (stable_val _) <| stable_cons (stable_val _) <| stable_cons (stable_val _) <| stable_cons (stable_val _) <| stable_nil
        · refine opsOkA_cons ?_ ?_
          · intro K vs W hR hD hK
            clear hD
            try dsimp only at hK ⊢
            simp only [Act.put, List.setIfInBounds_toArray, List.set_cons_succ, List.set_cons_zero] at hK
            go_wp2
            exact hK _ _ rfl (Mod.refl _ _)
          refine opsOkA_cons ?_ ?_
          · intro K vs W hR hD hK
            clear hD
            try dsimp only at hK ⊢
            simp only [Act.put, List.setIfInBounds_toArray, List.set_cons_succ, List.set_cons_zero] at hK
            go_wp2
            exact hK _ _ rfl (Mod.refl _ _)
          refine opsOkA_cons ?_ ?_
          · intro K vs W hR hD hK
            have dq0 : vs 0 = .slice a m c := hD 0 (by decide)
            have dq1 : vs 1 = .int .i64 (k : Int) := hD 1 (by decide)
            clear hD
            try dsimp only at hK ⊢
            simp only [Act.put, List.setIfInBounds_toArray, List.set_cons_succ, List.set_cons_zero] at hK
            generalize vs 0 = vq0 at hK dq0 ⊢
            subst vq0
            generalize vs 1 = vq1 at hK dq1 ⊢
            subst vq1
            have hix := HIe.out
            go_wp2_with fail
            exact hK _ _ rfl (Mod.refl _ _)
          refine opsOkA_cons ?_ ?_
          · intro K vs W hR hD hK
            have dq2 : vs 2 = .pointer (some ⟨eb, eo, none⟩) := hD 2 (by decide)
            clear hD
            try dsimp only at hK ⊢
            simp only [Act.put, List.setIfInBounds_toArray, List.set_cons_succ, List.set_cons_zero] at hK
            generalize vs 2 = vq2 at hK dq2 ⊢
            subst vq2
            have c0 := (HSd.out.at (hR)).1
            go_wp2
            exact hK _ _ rfl (Mod.refl _ _)
          refine opsOkA_cons ?_ ?_
          · intro K vs W hR hD hK
            clear hD
            try dsimp only at hK ⊢
            simp only [Act.put, List.setIfInBounds_toArray, List.set_cons_succ, List.set_cons_zero] at hK
            go_wp2
            exact hK _ _ rfl (Mod.refl _ _)
          refine opsOkA_cons ?_ ?_
          · intro K vs W hR hD hK
            have dq4 : vs 4 = .pointer (some ⟨q, 0, none⟩) := hD 4 (by decide)
            clear hD
            try dsimp only at hK ⊢
            simp only [Act.put, List.setIfInBounds_toArray, List.set_cons_succ, List.set_cons_zero] at hK
            generalize vs 4 = vq4 at hK dq4 ⊢
            subst vq4
            go_wp2
            exact hK _ _ rfl (Mod.refl _ _)
          refine opsOkA_cons ?_ ?_
          · intro K vs W hR hD hK
            have dq5 : vs 5 = .pointer (some ⟨q, 0, none⟩) := hD 5 (by decide)
            clear hD
            try dsimp only at hK ⊢
            simp only [Act.put, List.setIfInBounds_toArray, List.set_cons_succ, List.set_cons_zero] at hK
            generalize vs 5 = vq5 at hK dq5 ⊢
            subst vq5
            go_wp2
            exact hK _ _ rfl (Mod.refl _ _)
          refine opsOkA_cons ?_ ?_
          · intro K vs W hR hD hK
            have dq6 : vs 6 = .pointer (some ⟨q, 0, none⟩) := hD 6 (by decide)
            clear hD
            try dsimp only at hK ⊢
            simp only [Act.put, List.setIfInBounds_toArray, List.set_cons_succ, List.set_cons_zero] at hK
            generalize vs 6 = vq6 at hK dq6 ⊢
            subst vq6
            have c0 := ((HSd.out.at (hR)).2.2.2.1).blk.cell 0 rfl
            go_wp2
            exact hK _ _ rfl (Mod.refl _ _)
          refine opsOkA_cons ?_ ?_
          · intro K vs W hR hD hK
            have dq7 : vs 7 = .slice (some ⟨g, 0, none⟩) n n := hD 7 (by decide)
            clear hD
            try dsimp only at hK ⊢
            simp only [Act.put, List.setIfInBounds_toArray, List.set_cons_succ, List.set_cons_zero] at hK
            generalize vs 7 = vq7 at hK dq7 ⊢
            subst vq7
            go_wp2_with fail
            exact hK _ _ rfl (Mod.refl _ _)
          refine opsOkA_cons ?_ ?_
          · intro K vs W hR hD hK
            have dq8 : vs 8 = .int .i64 (n : Int) := hD 8 (by decide)
            clear hD
            try dsimp only at hK ⊢
            simp only [Act.put, List.setIfInBounds_toArray, List.set_cons_succ, List.set_cons_zero] at hK
            generalize vs 8 = vq8 at hK dq8 ⊢
            subst vq8
            go_wp2
            exact hK _ _ rfl (Mod.refl _ _)
          refine opsOkA_cons ?_ ?_
          · intro K vs W hR hD hK
            have dq3 : vs 3 = .int .i64 x := hD 3 (by decide)
            have dq9 : vs 9 = .int .i64 ((n : Int) - 1) := hD 9 (by decide)
            clear hD
            try dsimp only at hK ⊢
            simp only [Act.put, List.setIfInBounds_toArray, List.set_cons_succ, List.set_cons_zero] at hK
            generalize vs 3 = vq3 at hK dq3 ⊢
            subst vq3
            generalize vs 9 = vq9 at hK dq9 ⊢
            subst vq9
            go_wp2_with (go_at_call 24; refine (r4w_q HW.out W).mono ?_; rintro e' w' ⟨rfl, rfl⟩)
            exact hK _ _ rfl (Mod.refl _ _)
          refine opsOkA_cons ?_ ?_
          · intro K vs W hR hD hK
            have dq10 : vs 10 = .bool false := hD 10 (by decide)
            clear hD
            try dsimp only at hK ⊢
            simp only [Act.put, List.setIfInBounds_toArray, List.set_cons_succ, List.set_cons_zero] at hK
            generalize vs 10 = vq10 at hK dq10 ⊢
            subst vq10
            go_wp2
            exact hK _ _ rfl (Mod.refl _ _)
          exact opsOkA_nil
        · intro vs wq2 hR hF
          have dq11 : vs 11 = .bool true := hF 11 (by decide)
          clear hF
          try dsimp only
          generalize vs 11 = vq11 at dq11 ⊢
          subst dq11
          replace HS := Lib.hid (HSd.out.step hR)
          clear HSd hR
          go_wp2_with fail
          go_ret2
          exact .inr ⟨(fun h => by have h2 := HNOB.out HE.out; rw [h] at h2; cases h2), rfl, (HS.out.now).2.2.2.2⟩
    case neg =>
      obtain rfl : k = m := by omega
      have z0 : decide ((k : Int) < (k : Int)) = false := by simp
      have hin := HB1.out
      rw [List.take_of_length_le (by rw [HL.out]; exact Nat.le_refl _)] at hin
      have HIN := Lib.hid hin
      clear hin
      have hq := ((HS.out.now).2.2.1).blk.cell 0 rfl
      have lq := ((HS.out.now).2.2.1).blk.lt
      have hmk := HMK.out
      go_upto_region 7 with fail
      clear hmk z0 hq lq
      obtain ⟨fb, hfb⟩ : ∃ g, wo.heap.size = g := ⟨_, rfl⟩
      have ho := own_zrow wo 4 (.bool false) n wo.heap.size rfl (by omega)
      obtain ⟨wA, hwA⟩ : ∃ W, World.alloc wo (.cells (zrow (.bool false) n) 4) = W := ⟨_, rfl⟩
      have hmA : Mod (fun _ => False) wo wA := by rw [← hwA]; exact Mod.alloc _ _ _
      rw [hwA] at ho ⊢
      rw [hfb] at ho ⊢
      have hsz : w.heap.size ≤ fb := by rw [← hfb]; exact ((HS.out.now).2.2.2).size
      have hmw := ((HS.out.now).2.2.2).of2 hmA
      have HOA : Hid (World.ownsRow wA 0 4 1 (.slice (some ⟨fb, 0, none⟩) n n) n ((frK 0 us xs 0).map Value.bool)) := Lib.hid (by rw [frK_zero, HUL.out, List.map_replicate]; exact ho)
      have HUA := Lib.hid (((HS.out.now).2.2.1).keep hmA (fun e => e) (fun e => e))
      have HMA := Lib.hid hmw
      have HFB := Lib.hid hsz
      have hgf : g < fb := by have := HU0.out.gl; omega
      have hqf : q < fb := by have := HU0.out.blk.lt; omega
      have lfA : fb < wA.heap.size := by rw [← hwA, heap_size_alloc]; omega
      clear ho hmA hwA hfb hmw hsz HS
      go_wp2_with fail
      go_loopw [8] (fun i wr => ∃ j : Nat, j ≤ k ∧ i = .int .i64 j ∧ Mod (fun b => b = g ∨ b = fb) wA wr ∧ World.ownsRow wr 0 4 1 (.slice (some ⟨fb, 0, none⟩) n n) n ((frK 0 us xs j).map Value.bool) ∧ UO wr q g n (putU 0 us (xs.take j))) (fun i _ => k - (intOf i).toNat)
      case atStart => exact ⟨0, by omega, rfl, Mod.refl _ _, HOA.out, HUA.out⟩
      case round =>
        obtain ⟨j, hj, rfl, hmr, hown, huo⟩ := hrel
        obtain ⟨wo, hwo⟩ : ∃ x : World, x = wr := ⟨_, rfl⟩
        subst hwo
        have hmw : Mod (fun b => b = g) w wo := HMA.out.trans hmr (fun _ _ e => e.elim) (fun i hi e => by rcases e with e | e; exact e; have := HFB.out; omega)
        have hrd := HX0.out.rd.keepA hmw (fun b hb e => HX0.out.off b hb e)
        have HMR := Lib.hid hmr
        have HMW := Lib.hid hmw
        have HOW := Lib.hid hown
        have HUO := Lib.hid huo
        clear hmr hmw hown huo
        by_cases hlt : j < k
        case neg =>
          obtain rfl : j = k := by omega
          have z0 : decide ((j : Int) < (j : Int)) = false := by simp
          have huo := HUO.out
          rw [List.take_of_length_le (by rw [HL.out]; exact Nat.le_refl _)] at huo
          have HUF := Lib.hid huo
          clear huo hrd
          go_wp2_with fail
          refine (listed_any wo _ n n (frK 0 us xs j) (by rw [frK_len, HUL.out]) (Rd.ofOwn HOW.out) hn).mono ?_
          rintro e wz ⟨v, rfl, ho, hm⟩
          obtain ⟨a4, c4, rfl⟩ := own_form ho
          have HO := Lib.hid ho
          have HM := Lib.hid hm
          clear ho hm
          go_wp2_with fail
          go_ret2
          have hmz : Mod (fun b => b = g) w wz := HMW.out.trans HM.out (fun _ _ e => e) (fun _ _ e => e.elim)
          refine .inl ⟨HIN.out, _, rfl, ?_, HUF.out.keep HM.out (fun e => e) (fun e => e), hmz⟩
          rw [HL.out]
          exact Own.rebase HO.out (fun b hb => Nat.le_trans HMW.out.size (HO.out.lt b hb).1)
        case pos =>
          have z0 : decide ((j : Int) < (k : Int)) = true := by simp; omega
          have hjl : j < xs.length := by rw [HL.out]; exact hlt
          obtain ⟨kx, hkx, hkn⟩ := hasB_at HIN.out j hjl
          have hku : kx < us.length := by rw [HUL.out]; exact hkn
          have HALL : Hid (∀ x ∈ xs, 0 ≤ x) := Lib.hid (fun x hx => (hasB_all HIN.out x hx).1)
          have hkp : kx < (putU 0 us (xs.take j)).length := by rw [putU_len]; exact hku
          obtain ⟨uk, huk⟩ : ∃ x, (putU 0 us (xs.take j))[kx] = x := ⟨_, rfl⟩
          have hukd : (putU 0 us (xs.take j)).getD kx 0 = uk := by simp [List.getD, hkp, huk]
          obtain ⟨bo, hbo⟩ : ∃ b, (frK 0 us xs j)[kx]? = some b := ⟨_, List.getElem?_eq_getElem (by rw [frK_len]; exact hku)⟩
          have HSTP := Lib.hid (frK_step 0 us xs j hjl HALL.out kx hkx hku bo _ hbo rfl)
          rw [hukd] at HSTP
          have HS : Hid (Ev (Mod (fun _ => False) wo) wo) := Lib.hid (Ev.mod wo)
          replace HS := Lib.hid ((Ev.uo HUO.out).and HS.out)
          replace HS := Lib.hid ((Ev.rd hrd).and HS.out)
          have hcu := HUO.out.cell kx hkp
          rw [huk] at hcu
          replace HS := Lib.hid ((Ev.cell hcu).and HS.out)
          have hcb : wo.cell? ⟨fb, kx, none⟩ = some (.bool bo) := by have h1 := (Rd.ofOwn HOW.out).elem (j := kx) (u := .bool bo) (by rw [List.getElem?_map, hbo]; rfl); rwa [show elemA (some ⟨fb, 0, none⟩) kx 1 = ⟨fb, kx, none⟩ by unfold elemA; rw [Option.getD_some, Addr.add_lit]; simp] at h1
          replace HS := Lib.hid ((Ev.cell hcb).and HS.out)
          obtain ⟨eb, eo, hpl, e0⟩ := rd1 (HS.out.now).2.2.1 j hjl
          have hix := fun wx => run_indexS (P := Try.prog) wx 28 3 iI 1 Try.underlying28 hiI hsI a k c j hlt ((HS.out.now).2.2.1.some_ (by have := hlt; omega))
          rw [hpl] at hix
          have HIe := Lib.hid hix
          clear hix hpl
          rw [hkx] at e0
          replace HS := Lib.hid ((Ev.cell e0).and HS.out)
          clear e0
          have HIG : Hid (∀ wx, (Instr.indexAt 28 (.slice (some ⟨g, 0, none⟩) n n) (.int .i64 (kx : Int))).run Try.prog wx = .ok (.pointer (some ⟨g, kx, none⟩)) wx) := Lib.hid (fun wx => by have h := run_indexS (P := Try.prog) wx 28 3 iI 1 Try.underlying28 hiI hsI (some ⟨g, 0, none⟩) n n kx hkn (by simp); rwa [show elemA (some ⟨g, 0, none⟩) kx 1 = ⟨g, kx, none⟩ by unfold elemA; rw [Option.getD_some, Addr.add_lit]; simp] at h)
          have HIF : Hid (∀ wx, (Instr.indexAt 40 (.slice (some ⟨fb, 0, none⟩) n n) (.int .i64 (kx : Int))).run Try.prog wx = .ok (.pointer (some ⟨fb, kx, none⟩)) wx) := Lib.hid (fun wx => by have h := run_indexS (P := Try.prog) wx 40 4 iB 1 Try.underlying40 hiB hsB (some ⟨fb, 0, none⟩) n n kx hkn (by simp); rwa [show elemA (some ⟨fb, 0, none⟩) kx 1 = ⟨fb, kx, none⟩ by unfold elemA; rw [Option.getD_some, Addr.add_lit]; simp] at h)
          have hfr := Room.ofOwn HOW.out kx (by omega)
          have hff := hfr.free
          have HRF := Lib.hid hfr
          have HFF := Lib.hid hff
          clear hrd hcu hcb hbo hfr hff huk
          go_upto_region 10 with fail
          clear z0
          cases bo with
          | true =>
            obtain ⟨B0, hB0⟩ : ∃ n, wo.heap.size = n := ⟨_, rfl⟩
            have HB0 := Lib.hid hB0
            clear hB0
            have HOLD : Hid (∀ W, Mod (fun k => B0 ≤ k) (World.drew wo) W → Mod (fun _ => False) (World.drew wo) W) := Lib.hid fun W h => h.mono (fun i hi e => by have := HB0.out; simp at hi; omega)
            go_upto_region 10 with fail
            have HSd := Lib.hid HS.out.drew
            have HST : ∀ (ix : Nat) (vs : Nat → Value) (vx : Value) (wx wy : World), factP (up_r10_2_F n c k fb kx a eb eo j) ix vs vx wx → Mod (fun _ => False) wx wy → factP (up_r10_2_F n c k fb kx a eb eo j) ix vs vx wy := by
              refine factP_stays ?_
              unfold up_r10_2_F
              exact stableP_cons (StableP.of (stable_val _)) <| stableP_cons (StableP.of (stable_val _)) <| stableP_cons (StableP.of (stable_val _)) <| stableP_cons (StableP.of (stable_val _)) <| stableP_cons (StableP.of (stable_val _)) <| stableP_cons (StableP.of (stable_val _)) <| stableP_cons (StableP.of (stable_val _)) <| stableP_cons (StableP.of (stable_val _)) <| stableP_cons (StableP.of (stable_val _)) <| stableP_cons (StableP.of (stable_val _)) <| stableP_cons (StableP.of (stable_val _)) <| stableP_cons (StableP.of (stable_val _)) <| stableP_cons (StableP.of (stable_val _)) <| stableP_cons (StableP.of (stable_val _)) <| stableP_cons (StableP.of (stable_val _)) <| stableP_cons (StableP.of (stable_val _)) <| stableP_cons (StableP.of (stable_val _)) <| stableP_cons (StableP.of (stable_val _)) <| stableP_cons (StableP.of (stable_val _)) <| stableP_cons (StableP.of (stable_val _)) <| stableP_cons (StableP.of (stable_val _)) <| stableP_cons (StableP.of (stable_val _)) <| stableP_cons (StableP.of (stable_val _)) <| stableP_cons (StableP.of (stable_val _)) <| stableP_cons (StableP.of (stable_val _)) <| stableP_cons (StableP.of (stable_val _)) <| stableP_nil
            have HSO : ∀ px ∈ (up_r10_2_F n c k fb kx a eb eo j), px.1 = true → ∀ (vs : Nat → Value) (vx : Value) (wx wy : World), px.2 vs vx wx → px.2 vs vx wy := by
              unfold up_r10_2_F
              exact solidP_cons (solid_val _) <| solidP_cons (solid_val _) <| solidP_cons (solid_val _) <| solidP_cons (solid_val _) <| solidP_cons (solid_val _) <| solidP_cons (solid_val _) <| solidP_cons (solid_val _) <| solidP_cons (solid_val _) <| solidP_cons (solid_val _) <| solidP_cons (solid_val _) <| solidP_cons (solid_val _) <| solidP_cons (solid_val _) <| solidP_cons (solid_val _) <| solidP_cons (solid_val _) <| solidP_cons (solid_val _) <| solidP_cons (solid_val _) <| solidP_cons (solid_val _) <| solidP_cons (solid_val _) <| solidP_cons (solid_val _) <| solidP_cons (solid_val _) <| solidP_cons (solid_val _) <| solidP_cons (solid_val _) <| solidP_cons (solid_val _) <| solidP_cons (solid_val _) <| solidP_cons (solid_val _) <| solidP_cons (solid_val _) <| solidP_nil
            have HLO : LocL (fun i => up_r10_2_D.getD i []) 0 (up_r10_2_F n c k fb kx a eb eo j) := by
              unfold up_r10_2_F
              exact loc_cons (loc_own _) <| loc_cons (loc_own _) <| loc_cons (loc_own _) <| loc_cons (loc_own _) <| loc_cons (loc_own _) <| loc_cons (loc_own _) <| loc_cons (loc_own _) <| loc_cons (loc_own _) <| loc_cons (loc_own _) <| loc_cons (loc_own _) <| loc_cons (loc_own _) <| loc_cons (loc_own _) <| loc_cons (loc_own _) <| loc_cons (loc_own _) <| loc_cons (loc_own _) <| loc_cons (loc_own _) <| loc_cons (loc_own _) <| loc_cons (loc_own _) <| loc_cons (loc_own _) <| loc_cons (loc_own _) <| loc_cons (loc_own _) <| loc_cons (loc_own _) <| loc_cons (loc_own _) <| loc_cons (loc_own _) <| loc_cons (loc_own _) <| loc_cons (loc_own _) <| loc_nil
            refine wp_region_pair (act := ?actup_r10_2) (Mod (fun k => B0 ≤ k)) (factP (up_r10_2_F n c k fb kx a eb eo j)) (fun i => up_r10_2_C.getD i 1000) (fun i => up_r10_2_D.getD i []) 26 _ rfl rfl (by kernel_rfl) (by kernel_rfl) (by kernel_rfl) (by kernel_rfl) (by kernel_rfl) (fun _ => Mod.refl _ _)
              (fun _ _ _ h k => h.trans k (fun _ _ e => e) (fun _ _ e => e)) ?hactup_r10_2 (loc_of HLO) ?_ ?_
            case hactup_r10_2 => intro vs; simp only [putAll, Nat.zero_add, Nat.reduceAdd, Act.put, List.setIfInBounds_toArray, List.set_cons_succ, List.set_cons_zero]; exact rfl
            · refine opsOkP_cons ?_ ?_
              · intro K vs W hR hD hN hK
                clear hD
                clear hN
                try dsimp only at hK ⊢
                simp only [Act.put, List.setIfInBounds_toArray, List.set_cons_succ, List.set_cons_zero] at hK
                go_wp2
                exact hK _ _ rfl (fun _ _ h => h) (Mod.refl _ _)
              refine opsOkP_cons ?_ ?_
              · intro K vs W hR hD hN hK
                clear hD
                clear hN
                try dsimp only at hK ⊢
                simp only [Act.put, List.setIfInBounds_toArray, List.set_cons_succ, List.set_cons_zero] at hK
                go_wp2
                exact hK _ _ rfl (fun _ _ h => h) (Mod.refl _ _)
              refine opsOkP_cons ?_ ?_
              · intro K vs W hR hD hN hK
                clear hD
                clear hN
                try dsimp only at hK ⊢
                simp only [Act.put, List.setIfInBounds_toArray, List.set_cons_succ, List.set_cons_zero] at hK
                go_wp2
                exact hK _ _ rfl (fun _ _ h => h) (Mod.refl _ _)
              refine opsOkP_cons ?_ ?_
              · intro K vs W hR hD hN hK
                have dq1 : vs 1 = .slice a k c := hD 1 (by decide)
                have dq2 : vs 2 = .int .i64 (j : Int) := hD 2 (by decide)
                clear hD
                clear hN
                try dsimp only at hK ⊢
                simp only [Act.put, List.setIfInBounds_toArray, List.set_cons_succ, List.set_cons_zero] at hK
                generalize vs 1 = vq1 at hK dq1 ⊢
                subst vq1
                generalize vs 2 = vq2 at hK dq2 ⊢
                subst vq2
                have hix := HIe.out
                go_wp2_with fail
                exact hK _ _ rfl (fun _ _ h => h) (Mod.refl _ _)
              refine opsOkP_cons ?_ ?_
              · intro K vs W hR hD hN hK
                have dq3 : vs 3 = .pointer (some ⟨eb, eo, none⟩) := hD 3 (by decide)
                clear hD
                clear hN
                try dsimp only at hK ⊢
                simp only [Act.put, List.setIfInBounds_toArray, List.set_cons_succ, List.set_cons_zero] at hK
                generalize vs 3 = vq3 at hK dq3 ⊢
                subst vq3
                have c0 := (HSd.out.at (HOLD.out W hR)).1
                go_wp2
                exact hK _ _ rfl (fun _ _ h => h) (Mod.refl _ _)
              refine opsOkP_cons ?_ ?_
              · intro K vs W hR hD hN hK
                clear hD
                clear hN
                try dsimp only at hK ⊢
                simp only [Act.put, List.setIfInBounds_toArray, List.set_cons_succ, List.set_cons_zero] at hK
                go_wp2
                exact hK _ _ rfl (fun _ _ h => h) (Mod.refl _ _)
              refine opsOkP_cons ?_ ?_
              · intro K vs W hR hD hN hK
                clear hD
                clear hN
                try dsimp only at hK ⊢
                simp only [Act.put, List.setIfInBounds_toArray, List.set_cons_succ, List.set_cons_zero] at hK
                go_wp2
                exact hK _ _ rfl (fun _ _ h => h) (Mod.refl _ _)
              refine opsOkP_cons ?_ ?_
              · intro K vs W hR hD hN hK
                clear hD
                clear hN
                try dsimp only at hK ⊢
                simp only [Act.put, List.setIfInBounds_toArray, List.set_cons_succ, List.set_cons_zero] at hK
                go_wp2
                exact hK _ _ rfl (fun _ _ h => h) (Mod.refl _ _)
              refine opsOkP_cons ?_ ?_
              · intro K vs W hR hD hN hK
                have dq6 : vs 6 = .slice a k c := hD 6 (by decide)
                have dq7 : vs 7 = .int .i64 (j : Int) := hD 7 (by decide)
                clear hD
                clear hN
                try dsimp only at hK ⊢
                simp only [Act.put, List.setIfInBounds_toArray, List.set_cons_succ, List.set_cons_zero] at hK
                generalize vs 6 = vq6 at hK dq6 ⊢
                subst vq6
                generalize vs 7 = vq7 at hK dq7 ⊢
                subst vq7
                have hix := HIe.out
                go_wp2_with fail
                exact hK _ _ rfl (fun _ _ h => h) (Mod.refl _ _)
              refine opsOkP_cons ?_ ?_
              · intro K vs W hR hD hN hK
                have dq8 : vs 8 = .pointer (some ⟨eb, eo, none⟩) := hD 8 (by decide)
                clear hD
                clear hN
                try dsimp only at hK ⊢
                simp only [Act.put, List.setIfInBounds_toArray, List.set_cons_succ, List.set_cons_zero] at hK
                generalize vs 8 = vq8 at hK dq8 ⊢
                subst vq8
                have c0 := (HSd.out.at (HOLD.out W hR)).1
                go_wp2
                exact hK _ _ rfl (fun _ _ h => h) (Mod.refl _ _)
              refine opsOkP_cons ?_ ?_
              · intro K vs W hR hD hN hK
                have dq5 : vs 5 = .slice (some ⟨fb, 0, none⟩) n n := hD 5 (by decide)
                have dq9 : vs 9 = .int .i64 (kx : Int) := hD 9 (by decide)
                clear hD
                clear hN
                try dsimp only at hK ⊢
                simp only [Act.put, List.setIfInBounds_toArray, List.set_cons_succ, List.set_cons_zero] at hK
                generalize vs 5 = vq5 at hK dq5 ⊢
                subst vq5
                generalize vs 9 = vq9 at hK dq9 ⊢
                subst vq9
                have hif := HIF.out
                go_wp2_with fail
                exact hK _ _ rfl (fun _ _ h => h) (Mod.refl _ _)
              refine opsOkP_cons ?_ ?_
              · intro K vs W hR hD hN hK
                have dq10 : vs 10 = .pointer (some ⟨fb, kx, none⟩) := hD 10 (by decide)
                clear hD
                clear hN
                try dsimp only at hK ⊢
                simp only [Act.put, List.setIfInBounds_toArray, List.set_cons_succ, List.set_cons_zero] at hK
                generalize vs 10 = vq10 at hK dq10 ⊢
                subst vq10
                have cb := (HSd.out.at (HOLD.out W hR)).2.1
                go_wp2
                exact hK _ _ rfl (fun _ _ h => h) (Mod.refl _ _)
              refine opsOkP_cons ?_ ?_
              · intro K vs W hR hD hN hK
                have dq11 : vs 11 = .bool true := hD 11 (by decide)
                clear hD
                clear hN
                try dsimp only at hK ⊢
                simp only [Act.put, List.setIfInBounds_toArray, List.set_cons_succ, List.set_cons_zero] at hK
                generalize vs 11 = vq11 at hK dq11 ⊢
                subst vq11
                go_wp2
                exact hK _ _ rfl (fun _ _ h => h) (Mod.refl _ _)
              refine opsOkP_cons ?_ ?_
              · intro K vs W hR hD hN hK
                have dq12 : vs 12 = .bool true := hD 12 (by decide)
                clear hD
                clear hN
                try dsimp only at hK ⊢
                simp only [Act.put, List.setIfInBounds_toArray, List.set_cons_succ, List.set_cons_zero] at hK
                generalize vs 12 = vq12 at hK dq12 ⊢
                subst vq12
                go_wp2
                exact hK _ _ rfl (fun _ _ h => h) (Mod.refl _ _)
              refine opsOkP_cons ?_ ?_
              · intro K vs W hR hD hN hK
                have dq12 : vs 12 = .bool true := hD 12 (by decide)
                clear hD
                clear hN
                try dsimp only at hK ⊢
                simp only [Act.put, List.setIfInBounds_toArray, List.set_cons_succ, List.set_cons_zero] at hK
                generalize vs 12 = vq12 at hK dq12 ⊢
                subst vq12
                go_wp2
                exact hK _ _ rfl (fun _ _ h => h) (Mod.refl _ _)
              refine opsOkP_cons ?_ ?_
              · intro K vs W hR hD hN hK
                have dq12 : vs 12 = .bool true := hD 12 (by decide)
                clear hD
                clear hN
                try dsimp only at hK ⊢
                simp only [Act.put, List.setIfInBounds_toArray, List.set_cons_succ, List.set_cons_zero] at hK
                generalize vs 12 = vq12 at hK dq12 ⊢
                subst vq12
                go_wp2
                exact hK _ _ rfl (fun _ _ h => h) (Mod.refl _ _)
              refine opsOkP_cons ?_ ?_
              · intro K vs W hR hD hN hK
                have dq12 : vs 12 = .bool true := hD 12 (by decide)
                clear hD
                clear hN
                try dsimp only at hK ⊢
                simp only [Act.put, List.setIfInBounds_toArray, List.set_cons_succ, List.set_cons_zero] at hK
                generalize vs 12 = vq12 at hK dq12 ⊢
                subst vq12
                go_wp2
                exact hK _ _ rfl (fun _ _ h => h) (Mod.refl _ _)
              refine opsOkP_cons ?_ ?_
              · intro K vs W hR hD hN hK
                have dq12 : vs 12 = .bool true := hD 12 (by decide)
                clear hD
                clear hN
                try dsimp only at hK ⊢
                simp only [Act.put, List.setIfInBounds_toArray, List.set_cons_succ, List.set_cons_zero] at hK
                generalize vs 12 = vq12 at hK dq12 ⊢
                subst vq12
                go_wp2
                exact hK _ _ rfl (fun _ _ h => h) (Mod.refl _ _)
              refine opsOkP_cons ?_ ?_
              · intro K vs W hR hD hN hK
                have dq12 : vs 12 = .bool true := hD 12 (by decide)
                clear hD
                clear hN
                try dsimp only at hK ⊢
                simp only [Act.put, List.setIfInBounds_toArray, List.set_cons_succ, List.set_cons_zero] at hK
                generalize vs 12 = vq12 at hK dq12 ⊢
                subst vq12
                go_wp2
                exact hK _ _ rfl (fun _ _ h => h) (Mod.refl _ _)
              refine opsOkP_cons ?_ ?_
              · intro K vs W hR hD hN hK
                have dq12 : vs 12 = .bool true := hD 12 (by decide)
                clear hD
                clear hN
                try dsimp only at hK ⊢
                simp only [Act.put, List.setIfInBounds_toArray, List.set_cons_succ, List.set_cons_zero] at hK
                generalize vs 12 = vq12 at hK dq12 ⊢
                subst vq12
                go_wp2_with fail
                exact hK _ _ rfl (fun _ _ h => h) (Mod.refl _ _)
              refine opsOkP_cons ?_ ?_
              · intro K vs W hR hD hN hK
                have dq12 : vs 12 = .bool true := hD 12 (by decide)
                clear hD
                clear hN
                try dsimp only at hK ⊢
                simp only [Act.put, List.setIfInBounds_toArray, List.set_cons_succ, List.set_cons_zero] at hK
                generalize vs 12 = vq12 at hK dq12 ⊢
                subst vq12
                go_wp2
                exact hK _ _ rfl (fun _ _ h => h) (Mod.refl _ _)
              refine opsOkP_cons ?_ ?_
              · intro K vs W hR hD hN hK
                have dq12 : vs 12 = .bool true := hD 12 (by decide)
                clear hD
                clear hN
                try dsimp only at hK ⊢
                simp only [Act.put, List.setIfInBounds_toArray, List.set_cons_succ, List.set_cons_zero] at hK
                generalize vs 12 = vq12 at hK dq12 ⊢
                subst vq12
                go_wp2_with fail
                exact hK _ _ rfl (fun _ _ h => h) (Mod.refl _ _)
              refine opsOkP_cons ?_ ?_
              · intro K vs W hR hD hN hK
                have dq12 : vs 12 = .bool true := hD 12 (by decide)
                clear hD
                clear hN
                try dsimp only at hK ⊢
                simp only [Act.put, List.setIfInBounds_toArray, List.set_cons_succ, List.set_cons_zero] at hK
                generalize vs 12 = vq12 at hK dq12 ⊢
                subst vq12
                go_wp2
                exact hK _ _ rfl (fun _ _ h => h) (Mod.refl _ _)
              refine opsOkP_cons ?_ ?_
              · intro K vs W hR hD hN hK
                have dq12 : vs 12 = .bool true := hD 12 (by decide)
                clear hD
                clear hN
                try dsimp only at hK ⊢
                simp only [Act.put, List.setIfInBounds_toArray, List.set_cons_succ, List.set_cons_zero] at hK
                generalize vs 12 = vq12 at hK dq12 ⊢
                subst vq12
                go_wp2
                exact hK _ _ rfl (fun _ _ h => h) (Mod.refl _ _)
              refine opsOkP_cons ?_ ?_
              · intro K vs W hR hD hN hK
                have dq12 : vs 12 = .bool true := hD 12 (by decide)
                have dq23 : vs 23 = undef := hD 23 (by decide)
                clear hD
                clear hN
                try dsimp only at hK ⊢
                simp only [Act.put, List.setIfInBounds_toArray, List.set_cons_succ, List.set_cons_zero] at hK
                generalize vs 12 = vq12 at hK dq12 ⊢
                subst vq12
                generalize vs 23 = vq23 at hK dq23 ⊢
                subst vq23
                go_wp2
                exact hK _ _ rfl (fun _ _ h => h) (Mod.refl _ _)
              refine opsOkP_cons ?_ ?_
              · intro K vs W hR hD hN hK
                have dq0 : vs 0 = .slice (some ⟨fb, 0, none⟩) n n := hD 0 (by decide)
                have dq4 : vs 4 = .int .i64 (kx : Int) := hD 4 (by decide)
                clear hD
                clear hN
                try dsimp only at hK ⊢
                simp only [Act.put, List.setIfInBounds_toArray, List.set_cons_succ, List.set_cons_zero] at hK
                generalize vs 0 = vq0 at hK dq0 ⊢
                subst vq0
                generalize vs 4 = vq4 at hK dq4 ⊢
                subst vq4
                have hif := HIF.out
                go_wp2_with fail
                exact hK _ _ rfl (fun _ _ h => h) (Mod.refl _ _)
              exact opsOkP_nil
            · intro vs wq3 hR hF
              have dq24 : vs 24 = .bool true := hF 24 (by decide) (by decide)
              have dq25 : vs 25 = .pointer (some ⟨fb, kx, none⟩) := hF 25 (by decide) (by decide)
              clear hF
              try dsimp only
              generalize vs 24 = vq24 at dq24 ⊢
              subst vq24
              generalize vs 25 = vq25 at dq25 ⊢
              subst vq25
              have hmw : Mod (fun _ => False) wo wq3 := (Mod.drew _ _).of2 (HOLD.out _ hR)
              replace HS := Lib.hid (HS.out.step hmw)
              clear hmw HSd
              clear HOLD HB0
              have hmq := (HS.out.now).2.2.2.2.2
              have hfr := HRF.out.keep (Shp.ofMod (F := fun _ => False) hmq)
              obtain ⟨v0, c0⟩ := hfr.cell
              have f0 := hfr.free
              go_upto_region 11 with fail
              clear hfr c0 f0
              obtain ⟨ws, hws⟩ : ∃ W, World.setCell wq3 ⟨fb, kx, none⟩ (.bool true) = W := ⟨_, rfl⟩
              have hms : Mod (fun b => b = fb) wq3 (World.setCell wq3 ⟨fb, kx, none⟩ (.bool true)) := Mod.setCell (F := fun b => b = fb) _ ⟨fb, kx, none⟩ _ rfl
              have hos := ((Own.keep HOW.out hmq (fun _ _ e => e)).stored kx (.bool true)).1
              rw [hws] at hms hos ⊢
              have hst : (frK 0 us xs j).set kx (true) = frK 0 us xs (j + 1) := by
                rw [← HSTP.out]
                congr 1
                all_goals simp
              rw [show (((frK 0 us xs j).map Value.bool).set kx (.bool true)) = ((frK 0 us xs j).set kx (true)).map Value.bool from by rw [List.map_set], hst] at hos
              have huo := ((HS.out.now).2.2.2.2.1).keep hms (fun e => by omega) (fun e => by omega)
              have hrd := HX0.out.rd.keepA (((HMW.out.trans hmq (fun _ _ e => e) (fun _ _ e => e.elim)).trans hms (fun _ _ e => .inl e) (fun i hi e => .inr e) : Mod (fun b => b = g ∨ b = fb) w ws)) (fun b hb e => by rcases e with e | e; exact HX0.out.off b hb e; exact HX0.out.rd.lt hb (by have h2 := HFB.out; omega))
              have HMS : Hid (Mod (fun b => b = g ∨ b = fb) wA ws) := Lib.hid ((HMR.out.trans hmq (fun _ _ e => e) (fun _ _ e => e.elim)).trans hms (fun _ _ e => e) (fun _ _ e => .inr e))
              have HOS := Lib.hid hos
              have HUS := Lib.hid huo
              clear hms hmq hos huo hws hst HS
              have HS : Hid (Ev (Mod (fun _ => False) ws) ws) := Lib.hid (Ev.mod ws)
              replace HS := Lib.hid ((Ev.uo HUS.out).and HS.out)
              replace HS := Lib.hid ((Ev.rd hrd).and HS.out)
              obtain ⟨yb, yo, hpl, e0⟩ := rd1 (HS.out.now).1 j hjl
              have hix := fun wx => run_indexS (P := Try.prog) wx 28 3 iI 1 Try.underlying28 hiI hsI a k c j hlt ((HS.out.now).1.some_ (by have := hlt; omega))
              rw [hpl] at hix
              have HIy := Lib.hid hix
              clear hix hpl
              rw [hkx] at e0
              replace HS := Lib.hid ((Ev.cell e0).and HS.out)
              clear e0
              clear hrd
              obtain ⟨B0, hB0⟩ : ∃ n, ws.heap.size = n := ⟨_, rfl⟩
              have HB0 := Lib.hid hB0
              clear hB0
              have HOLD : Hid (∀ W, Mod (fun k => B0 ≤ k) (World.drew ws) W → Mod (fun _ => False) (World.drew ws) W) := Lib.hid fun W h => h.mono (fun i hi e => by have := HB0.out; simp at hi; omega)
              go_upto_region 11 with fail
              have HSd := Lib.hid HS.out.drew
              have HST : ∀ (ix : Nat) (vs : Nat → Value) (vx : Value) (wx wy : World), factP (up_r11_3_F q g n c k kx a j yb yo) ix vs vx wx → Mod (fun _ => False) wx wy → factP (up_r11_3_F q g n c k kx a j yb yo) ix vs vx wy := by
                refine factP_stays ?_
                unfold up_r11_3_F
                exact stableP_cons (StableP.of (stable_val _)) <| stableP_cons (StableP.of (stable_val _)) <| stableP_cons (StableP.of (stable_val _)) <| stableP_cons (StableP.of (stable_val _)) <| stableP_cons (StableP.of (stable_val _)) <| stableP_cons (StableP.of (stable_val _)) <| stableP_cons (StableP.of (stable_val _)) <| stableP_cons (StableP.of (stable_val _)) <| stableP_cons (StableP.of (stable_val _)) <| stableP_nil
              have HSO : ∀ px ∈ (up_r11_3_F q g n c k kx a j yb yo), px.1 = true → ∀ (vs : Nat → Value) (vx : Value) (wx wy : World), px.2 vs vx wx → px.2 vs vx wy := by
                unfold up_r11_3_F
                exact solidP_cons (solid_val _) <| solidP_cons (solid_val _) <| solidP_cons (solid_val _) <| solidP_cons (solid_val _) <| solidP_cons (solid_val _) <| solidP_cons (solid_val _) <| solidP_cons (solid_val _) <| solidP_cons (solid_val _) <| solidP_cons (solid_val _) <| solidP_nil
              have HLO : LocL (fun i => up_r11_3_D.getD i []) 0 (up_r11_3_F q g n c k kx a j yb yo) := by
                unfold up_r11_3_F
                exact loc_cons (loc_own _) <| loc_cons (loc_own _) <| loc_cons (loc_own _) <| loc_cons (loc_own _) <| loc_cons (loc_own _) <| loc_cons (loc_own _) <| loc_cons (loc_own _) <| loc_cons (loc_own _) <| loc_cons (loc_own _) <| loc_nil
              refine wp_region_pair (act := ?actup_r11_3) (Mod (fun k => B0 ≤ k)) (factP (up_r11_3_F q g n c k kx a j yb yo)) (fun i => up_r11_3_C.getD i 1000) (fun i => up_r11_3_D.getD i []) 9 _ rfl rfl (by kernel_rfl) (by kernel_rfl) (by kernel_rfl) (by kernel_rfl) (by kernel_rfl) (fun _ => Mod.refl _ _)
                (fun _ _ _ h k => h.trans k (fun _ _ e => e) (fun _ _ e => e)) ?hactup_r11_3 (loc_of HLO) ?_ ?_
              case hactup_r11_3 => intro vs; simp only [putAll, Nat.zero_add, Nat.reduceAdd, Act.put, List.setIfInBounds_toArray, List.set_cons_succ, List.set_cons_zero]; exact rfl
              · refine opsOkP_cons ?_ ?_
                · intro K vs W hR hD hN hK
                  clear hD
                  clear hN
                  try dsimp only at hK ⊢
                  simp only [Act.put, List.setIfInBounds_toArray, List.set_cons_succ, List.set_cons_zero] at hK
                  go_wp2
                  exact hK _ _ rfl (fun _ _ h => h) (Mod.refl _ _)
                refine opsOkP_cons ?_ ?_
                · intro K vs W hR hD hN hK
                  have dq0 : vs 0 = .pointer (some ⟨q, 0, none⟩) := hD 0 (by decide)
                  clear hD
                  clear hN
                  try dsimp only at hK ⊢
                  simp only [Act.put, List.setIfInBounds_toArray, List.set_cons_succ, List.set_cons_zero] at hK
                  generalize vs 0 = vq0 at hK dq0 ⊢
                  subst vq0
                  go_wp2
                  exact hK _ _ rfl (fun _ _ h => h) (Mod.refl _ _)
                refine opsOkP_cons ?_ ?_
                · intro K vs W hR hD hN hK
                  have dq1 : vs 1 = .pointer (some ⟨q, 0, none⟩) := hD 1 (by decide)
                  clear hD
                  clear hN
                  try dsimp only at hK ⊢
                  simp only [Act.put, List.setIfInBounds_toArray, List.set_cons_succ, List.set_cons_zero] at hK
                  generalize vs 1 = vq1 at hK dq1 ⊢
                  subst vq1
                  go_wp2
                  exact hK _ _ rfl (fun _ _ h => h) (Mod.refl _ _)
                refine opsOkP_cons ?_ ?_
                · intro K vs W hR hD hN hK
                  have dq2 : vs 2 = .pointer (some ⟨q, 0, none⟩) := hD 2 (by decide)
                  clear hD
                  clear hN
                  try dsimp only at hK ⊢
                  simp only [Act.put, List.setIfInBounds_toArray, List.set_cons_succ, List.set_cons_zero] at hK
                  generalize vs 2 = vq2 at hK dq2 ⊢
                  subst vq2
                  have c0 := ((HSd.out.at (HOLD.out W hR)).2.2.1).blk.cell 0 rfl
                  go_wp2
                  exact hK _ _ rfl (fun _ _ h => h) (Mod.refl _ _)
                refine opsOkP_cons ?_ ?_
                · intro K vs W hR hD hN hK
                  clear hD
                  clear hN
                  try dsimp only at hK ⊢
                  simp only [Act.put, List.setIfInBounds_toArray, List.set_cons_succ, List.set_cons_zero] at hK
                  go_wp2
                  exact hK _ _ rfl (fun _ _ h => h) (Mod.refl _ _)
                refine opsOkP_cons ?_ ?_
                · intro K vs W hR hD hN hK
                  clear hD
                  clear hN
                  try dsimp only at hK ⊢
                  simp only [Act.put, List.setIfInBounds_toArray, List.set_cons_succ, List.set_cons_zero] at hK
                  go_wp2
                  exact hK _ _ rfl (fun _ _ h => h) (Mod.refl _ _)
                refine opsOkP_cons ?_ ?_
                · intro K vs W hR hD hN hK
                  have dq4 : vs 4 = .slice a k c := hD 4 (by decide)
                  have dq5 : vs 5 = .int .i64 (j : Int) := hD 5 (by decide)
                  clear hD
                  clear hN
                  try dsimp only at hK ⊢
                  simp only [Act.put, List.setIfInBounds_toArray, List.set_cons_succ, List.set_cons_zero] at hK
                  generalize vs 4 = vq4 at hK dq4 ⊢
                  subst vq4
                  generalize vs 5 = vq5 at hK dq5 ⊢
                  subst vq5
                  have hix := HIy.out
                  go_wp2_with fail
                  exact hK _ _ rfl (fun _ _ h => h) (Mod.refl _ _)
                refine opsOkP_cons ?_ ?_
                · intro K vs W hR hD hN hK
                  have dq6 : vs 6 = .pointer (some ⟨yb, yo, none⟩) := hD 6 (by decide)
                  clear hD
                  clear hN
                  try dsimp only at hK ⊢
                  simp only [Act.put, List.setIfInBounds_toArray, List.set_cons_succ, List.set_cons_zero] at hK
                  generalize vs 6 = vq6 at hK dq6 ⊢
                  subst vq6
                  have c0 := (HSd.out.at (HOLD.out W hR)).1
                  go_wp2
                  exact hK _ _ rfl (fun _ _ h => h) (Mod.refl _ _)
                refine opsOkP_cons ?_ ?_
                · intro K vs W hR hD hN hK
                  have dq3 : vs 3 = .slice (some ⟨g, 0, none⟩) n n := hD 3 (by decide)
                  have dq7 : vs 7 = .int .i64 (kx : Int) := hD 7 (by decide)
                  clear hD
                  clear hN
                  try dsimp only at hK ⊢
                  simp only [Act.put, List.setIfInBounds_toArray, List.set_cons_succ, List.set_cons_zero] at hK
                  generalize vs 3 = vq3 at hK dq3 ⊢
                  subst vq3
                  generalize vs 7 = vq7 at hK dq7 ⊢
                  subst vq7
                  have hig := HIG.out
                  go_wp2_with fail
                  exact hK _ _ rfl (fun _ _ h => h) (Mod.refl _ _)
                exact opsOkP_nil
              · intro vs wq4 hR hF
                have dq8 : vs 8 = .pointer (some ⟨g, kx, none⟩) := hF 8 (by decide) (by decide)
                clear hF
                try dsimp only
                generalize vs 8 = vq8 at dq8 ⊢
                subst vq8
                have hmw : Mod (fun _ => False) ws wq4 := (Mod.drew _ _).of2 (HOLD.out _ hR)
                replace HS := Lib.hid (HS.out.step hmw)
                clear hmw HSd
                clear HOLD HB0
                have hmq := (HS.out.now).2.2.2
                have huz := (HS.out.now).2.2.1
                have hfr := huz.room kx hkn
                obtain ⟨v0, c0⟩ := hfr.cell
                have f0 := hfr.free
                have HUZ := Lib.hid huz
                have HMQ := Lib.hid hmq
                clear hfr huz hmq
                go_wp2_with fail
                go_roundw
                case rel =>
                  have hmf : Mod (fun b => b = g) wq4 (World.setCell wq4 ⟨g, kx, none⟩ (.int .i64 0)) := Mod.setCell (F := fun b => b = g) _ ⟨g, kx, none⟩ _ rfl
                  refine ⟨j + 1, hlt, by go_num, (HMS.out.trans HMQ.out (fun _ _ e => e) (fun _ _ e => e.elim)).trans hmf (fun _ _ e => e) (fun _ _ e => .inl e), Own.keep (Own.keep HOS.out HMQ.out (fun _ _ e => e)) hmf (fun b hb e => by have : fb = b := Option.some.inj hb; omega), ?_⟩
                  rw [show xs.take (j + 1) = xs.take j ++ [(kx : Int)] from by rw [List.take_succ_eq_append_getElem hjl, hkx], putU_snoc]
                  exact HUZ.out.set kx _
                case measure => simp [intOf]; omega
          | false =>
            obtain ⟨B0, hB0⟩ : ∃ n, wo.heap.size = n := ⟨_, rfl⟩
            have HB0 := Lib.hid hB0
            clear hB0
            have HOLD : Hid (∀ W, Mod (fun k => B0 ≤ k) (World.drew wo) W → Mod (fun _ => False) (World.drew wo) W) := Lib.hid fun W h => h.mono (fun i hi e => by have := HB0.out; simp at hi; omega)
            go_upto_region 10 with fail
            have HSd := Lib.hid HS.out.drew
            have HST : ∀ (ix : Nat) (vs : Nat → Value) (vx : Value) (wx wy : World), factP (up_r10_4_F q g n c k fb kx a uk eb eo j) ix vs vx wx → Mod (fun _ => False) wx wy → factP (up_r10_4_F q g n c k fb kx a uk eb eo j) ix vs vx wy := by
              refine factP_stays ?_
              unfold up_r10_4_F
              exact stableP_cons (StableP.of (stable_val _)) <| stableP_cons (StableP.of (stable_val _)) <| stableP_cons (StableP.of (stable_val _)) <| stableP_cons (StableP.of (stable_val _)) <| stableP_cons (StableP.of (stable_val _)) <| stableP_cons (StableP.of (stable_val _)) <| stableP_cons (StableP.of (stable_val _)) <| stableP_cons (StableP.of (stable_val _)) <| stableP_cons (StableP.of (stable_val _)) <| stableP_cons (StableP.of (stable_val _)) <| stableP_cons (StableP.of (stable_val _)) <| stableP_cons (StableP.of (stable_val _)) <| stableP_cons (StableP.of (stable_val _)) <| stableP_cons (StableP.of (stable_val _)) <| stableP_cons (StableP.of (stable_val _)) <| stableP_cons (StableP.of (stable_val _)) <| stableP_cons (StableP.of (stable_val _)) <| stableP_cons (StableP.of (stable_val _)) <| stableP_cons (StableP.of (stable_val _)) <| stableP_cons (StableP.of (stable_val _)) <| stableP_cons (StableP.of (stable_val _)) <| stableP_cons (StableP.of (stable_val _)) <| stableP_cons (StableP.of (stable_val _)) <| stableP_cons (StableP.of (stable_val _)) <| stableP_cons (StableP.of (stable_val _)) <| stableP_cons (StableP.of (stable_val _)) <| stableP_nil
            have HSO : ∀ px ∈ (up_r10_4_F q g n c k fb kx a uk eb eo j), px.1 = true → ∀ (vs : Nat → Value) (vx : Value) (wx wy : World), px.2 vs vx wx → px.2 vs vx wy := by
              unfold up_r10_4_F
              exact solidP_cons (solid_val _) <| solidP_cons (solid_val _) <| solidP_cons (solid_val _) <| solidP_cons (solid_val _) <| solidP_cons (solid_val _) <| solidP_cons (solid_val _) <| solidP_cons (solid_val _) <| solidP_cons (solid_val _) <| solidP_cons (solid_val _) <| solidP_cons (solid_val _) <| solidP_cons (solid_val _) <| solidP_cons (solid_val _) <| solidP_cons (solid_val _) <| solidP_cons (solid_val _) <| solidP_cons (solid_val _) <| solidP_cons (solid_val _) <| solidP_cons (solid_val _) <| solidP_cons (solid_val _) <| solidP_cons (solid_val _) <| solidP_cons (solid_val _) <| solidP_cons (solid_val _) <| solidP_cons (solid_val _) <| solidP_cons (solid_val _) <| solidP_cons (solid_val _) <| solidP_cons (solid_val _) <| solidP_cons (solid_val _) <| solidP_nil
            have HLO : LocL (fun i => up_r10_4_D.getD i []) 0 (up_r10_4_F q g n c k fb kx a uk eb eo j) := by
              unfold up_r10_4_F
              exact loc_cons (loc_own _) <| loc_cons (loc_own _) <| loc_cons (loc_own _) <| loc_cons (loc_own _) <| loc_cons (loc_own _) <| loc_cons (loc_own _) <| loc_cons (loc_own _) <| loc_cons (loc_own _) <| loc_cons (loc_own _) <| loc_cons (loc_own _) <| loc_cons (loc_own _) <| loc_cons (loc_own _) <| loc_cons (loc_own _) <| loc_cons (loc_own _) <| loc_cons (loc_own _) <| loc_cons (loc_own _) <| loc_cons (loc_own _) <| loc_cons (loc_own _) <| loc_cons (loc_own _) <| loc_cons (loc_own _) <| loc_cons (loc_own _) <| loc_cons (loc_own _) <| loc_cons (loc_own _) <| loc_cons (loc_own _) <| loc_cons (loc_own _) <| loc_cons (loc_own _) <| loc_nil
            refine wp_region_pair (act := ?actup_r10_4) (Mod (fun k => B0 ≤ k)) (factP (up_r10_4_F q g n c k fb kx a uk eb eo j)) (fun i => up_r10_4_C.getD i 1000) (fun i => up_r10_4_D.getD i []) 26 _ rfl rfl (by kernel_rfl) (by kernel_rfl) (by kernel_rfl) (by kernel_rfl) (by kernel_rfl) (fun _ => Mod.refl _ _)
              (fun _ _ _ h k => h.trans k (fun _ _ e => e) (fun _ _ e => e)) ?hactup_r10_4 (loc_of HLO) ?_ ?_
            case hactup_r10_4 => intro vs; simp only [putAll, Nat.zero_add, Nat.reduceAdd, Act.put, List.setIfInBounds_toArray, List.set_cons_succ, List.set_cons_zero]; exact rfl
            · refine opsOkP_cons ?_ ?_
              · intro K vs W hR hD hN hK
                clear hD
                clear hN
                try dsimp only at hK ⊢
                simp only [Act.put, List.setIfInBounds_toArray, List.set_cons_succ, List.set_cons_zero] at hK
                go_wp2
                exact hK _ _ rfl (fun _ _ h => h) (Mod.refl _ _)
              refine opsOkP_cons ?_ ?_
              · intro K vs W hR hD hN hK
                clear hD
                clear hN
                try dsimp only at hK ⊢
                simp only [Act.put, List.setIfInBounds_toArray, List.set_cons_succ, List.set_cons_zero] at hK
                go_wp2
                exact hK _ _ rfl (fun _ _ h => h) (Mod.refl _ _)
              refine opsOkP_cons ?_ ?_
              · intro K vs W hR hD hN hK
                clear hD
                clear hN
                try dsimp only at hK ⊢
                simp only [Act.put, List.setIfInBounds_toArray, List.set_cons_succ, List.set_cons_zero] at hK
                go_wp2
                exact hK _ _ rfl (fun _ _ h => h) (Mod.refl _ _)
              refine opsOkP_cons ?_ ?_
              · intro K vs W hR hD hN hK
                have dq1 : vs 1 = .slice a k c := hD 1 (by decide)
                have dq2 : vs 2 = .int .i64 (j : Int) := hD 2 (by decide)
                clear hD
                clear hN
                try dsimp only at hK ⊢
                simp only [Act.put, List.setIfInBounds_toArray, List.set_cons_succ, List.set_cons_zero] at hK
                generalize vs 1 = vq1 at hK dq1 ⊢
                subst vq1
                generalize vs 2 = vq2 at hK dq2 ⊢
                subst vq2
                have hix := HIe.out
                go_wp2_with fail
                exact hK _ _ rfl (fun _ _ h => h) (Mod.refl _ _)
              refine opsOkP_cons ?_ ?_
              · intro K vs W hR hD hN hK
                have dq3 : vs 3 = .pointer (some ⟨eb, eo, none⟩) := hD 3 (by decide)
                clear hD
                clear hN
                try dsimp only at hK ⊢
                simp only [Act.put, List.setIfInBounds_toArray, List.set_cons_succ, List.set_cons_zero] at hK
                generalize vs 3 = vq3 at hK dq3 ⊢
                subst vq3
                have c0 := (HSd.out.at (HOLD.out W hR)).1
                go_wp2
                exact hK _ _ rfl (fun _ _ h => h) (Mod.refl _ _)
              refine opsOkP_cons ?_ ?_
              · intro K vs W hR hD hN hK
                clear hD
                clear hN
                try dsimp only at hK ⊢
                simp only [Act.put, List.setIfInBounds_toArray, List.set_cons_succ, List.set_cons_zero] at hK
                go_wp2
                exact hK _ _ rfl (fun _ _ h => h) (Mod.refl _ _)
              refine opsOkP_cons ?_ ?_
              · intro K vs W hR hD hN hK
                clear hD
                clear hN
                try dsimp only at hK ⊢
                simp only [Act.put, List.setIfInBounds_toArray, List.set_cons_succ, List.set_cons_zero] at hK
                go_wp2
                exact hK _ _ rfl (fun _ _ h => h) (Mod.refl _ _)
              refine opsOkP_cons ?_ ?_
              · intro K vs W hR hD hN hK
                clear hD
                clear hN
                try dsimp only at hK ⊢
                simp only [Act.put, List.setIfInBounds_toArray, List.set_cons_succ, List.set_cons_zero] at hK
                go_wp2
                exact hK _ _ rfl (fun _ _ h => h) (Mod.refl _ _)
              refine opsOkP_cons ?_ ?_
              · intro K vs W hR hD hN hK
                have dq6 : vs 6 = .slice a k c := hD 6 (by decide)
                have dq7 : vs 7 = .int .i64 (j : Int) := hD 7 (by decide)
                clear hD
                clear hN
                try dsimp only at hK ⊢
                simp only [Act.put, List.setIfInBounds_toArray, List.set_cons_succ, List.set_cons_zero] at hK
                generalize vs 6 = vq6 at hK dq6 ⊢
                subst vq6
                generalize vs 7 = vq7 at hK dq7 ⊢
                subst vq7
                have hix := HIe.out
                go_wp2_with fail
                exact hK _ _ rfl (fun _ _ h => h) (Mod.refl _ _)
              refine opsOkP_cons ?_ ?_
              · intro K vs W hR hD hN hK
                have dq8 : vs 8 = .pointer (some ⟨eb, eo, none⟩) := hD 8 (by decide)
                clear hD
                clear hN
                try dsimp only at hK ⊢
                simp only [Act.put, List.setIfInBounds_toArray, List.set_cons_succ, List.set_cons_zero] at hK
                generalize vs 8 = vq8 at hK dq8 ⊢
                subst vq8
                have c0 := (HSd.out.at (HOLD.out W hR)).1
                go_wp2
                exact hK _ _ rfl (fun _ _ h => h) (Mod.refl _ _)
              refine opsOkP_cons ?_ ?_
              · intro K vs W hR hD hN hK
                have dq5 : vs 5 = .slice (some ⟨fb, 0, none⟩) n n := hD 5 (by decide)
                have dq9 : vs 9 = .int .i64 (kx : Int) := hD 9 (by decide)
                clear hD
                clear hN
                try dsimp only at hK ⊢
                simp only [Act.put, List.setIfInBounds_toArray, List.set_cons_succ, List.set_cons_zero] at hK
                generalize vs 5 = vq5 at hK dq5 ⊢
                subst vq5
                generalize vs 9 = vq9 at hK dq9 ⊢
                subst vq9
                have hif := HIF.out
                go_wp2_with fail
                exact hK _ _ rfl (fun _ _ h => h) (Mod.refl _ _)
              refine opsOkP_cons ?_ ?_
              · intro K vs W hR hD hN hK
                have dq10 : vs 10 = .pointer (some ⟨fb, kx, none⟩) := hD 10 (by decide)
                clear hD
                clear hN
                try dsimp only at hK ⊢
                simp only [Act.put, List.setIfInBounds_toArray, List.set_cons_succ, List.set_cons_zero] at hK
                generalize vs 10 = vq10 at hK dq10 ⊢
                subst vq10
                have cb := (HSd.out.at (HOLD.out W hR)).2.1
                go_wp2
                exact hK _ _ rfl (fun _ _ h => h) (Mod.refl _ _)
              refine opsOkP_cons ?_ ?_
              · intro K vs W hR hD hN hK
                have dq11 : vs 11 = .bool false := hD 11 (by decide)
                clear hD
                clear hN
                try dsimp only at hK ⊢
                simp only [Act.put, List.setIfInBounds_toArray, List.set_cons_succ, List.set_cons_zero] at hK
                generalize vs 11 = vq11 at hK dq11 ⊢
                subst vq11
                go_wp2
                exact hK _ _ rfl (fun _ _ h => h) (Mod.refl _ _)
              refine opsOkP_cons ?_ ?_
              · intro K vs W hR hD hN hK
                have dq12 : vs 12 = .bool false := hD 12 (by decide)
                clear hD
                clear hN
                try dsimp only at hK ⊢
                simp only [Act.put, List.setIfInBounds_toArray, List.set_cons_succ, List.set_cons_zero] at hK
                generalize vs 12 = vq12 at hK dq12 ⊢
                subst vq12
                go_wp2
                exact hK _ _ rfl (fun _ _ h => h) (Mod.refl _ _)
              refine opsOkP_cons ?_ ?_
              · intro K vs W hR hD hN hK
                have dq12 : vs 12 = .bool false := hD 12 (by decide)
                have dq13 : vs 13 = .pointer (some ⟨q, 0, none⟩) := hD 13 (by decide)
                clear hD
                clear hN
                try dsimp only at hK ⊢
                simp only [Act.put, List.setIfInBounds_toArray, List.set_cons_succ, List.set_cons_zero] at hK
                generalize vs 12 = vq12 at hK dq12 ⊢
                subst vq12
                generalize vs 13 = vq13 at hK dq13 ⊢
                subst vq13
                go_wp2
                exact hK _ _ rfl (fun _ _ h => h) (Mod.refl _ _)
              refine opsOkP_cons ?_ ?_
              · intro K vs W hR hD hN hK
                have dq12 : vs 12 = .bool false := hD 12 (by decide)
                have dq14 : vs 14 = .pointer (some ⟨q, 0, none⟩) := hD 14 (by decide)
                clear hD
                clear hN
                try dsimp only at hK ⊢
                simp only [Act.put, List.setIfInBounds_toArray, List.set_cons_succ, List.set_cons_zero] at hK
                generalize vs 12 = vq12 at hK dq12 ⊢
                subst vq12
                generalize vs 14 = vq14 at hK dq14 ⊢
                subst vq14
                go_wp2
                exact hK _ _ rfl (fun _ _ h => h) (Mod.refl _ _)
              refine opsOkP_cons ?_ ?_
              · intro K vs W hR hD hN hK
                have dq12 : vs 12 = .bool false := hD 12 (by decide)
                have dq15 : vs 15 = .pointer (some ⟨q, 0, none⟩) := hD 15 (by decide)
                clear hD
                clear hN
                try dsimp only at hK ⊢
                simp only [Act.put, List.setIfInBounds_toArray, List.set_cons_succ, List.set_cons_zero] at hK
                generalize vs 12 = vq12 at hK dq12 ⊢
                subst vq12
                generalize vs 15 = vq15 at hK dq15 ⊢
                subst vq15
                have c0 := ((HSd.out.at (HOLD.out W hR)).2.2.2.2.1).blk.cell 0 rfl
                go_wp2
                exact hK _ _ rfl (fun _ _ h => h) (Mod.refl _ _)
              refine opsOkP_cons ?_ ?_
              · intro K vs W hR hD hN hK
                have dq12 : vs 12 = .bool false := hD 12 (by decide)
                clear hD
                clear hN
                try dsimp only at hK ⊢
                simp only [Act.put, List.setIfInBounds_toArray, List.set_cons_succ, List.set_cons_zero] at hK
                generalize vs 12 = vq12 at hK dq12 ⊢
                subst vq12
                go_wp2
                exact hK _ _ rfl (fun _ _ h => h) (Mod.refl _ _)
              refine opsOkP_cons ?_ ?_
              · intro K vs W hR hD hN hK
                have dq12 : vs 12 = .bool false := hD 12 (by decide)
                clear hD
                clear hN
                try dsimp only at hK ⊢
                simp only [Act.put, List.setIfInBounds_toArray, List.set_cons_succ, List.set_cons_zero] at hK
                generalize vs 12 = vq12 at hK dq12 ⊢
                subst vq12
                go_wp2
                exact hK _ _ rfl (fun _ _ h => h) (Mod.refl _ _)
              refine opsOkP_cons ?_ ?_
              · intro K vs W hR hD hN hK
                have dq12 : vs 12 = .bool false := hD 12 (by decide)
                have dq17 : vs 17 = .slice a k c := hD 17 (by decide)
                have dq18 : vs 18 = .int .i64 (j : Int) := hD 18 (by decide)
                clear hD
                clear hN
                try dsimp only at hK ⊢
                simp only [Act.put, List.setIfInBounds_toArray, List.set_cons_succ, List.set_cons_zero] at hK
                generalize vs 12 = vq12 at hK dq12 ⊢
                subst vq12
                generalize vs 17 = vq17 at hK dq17 ⊢
                subst vq17
                generalize vs 18 = vq18 at hK dq18 ⊢
                subst vq18
                have hix := HIe.out
                go_wp2_with fail
                exact hK _ _ rfl (fun _ _ h => h) (Mod.refl _ _)
              refine opsOkP_cons ?_ ?_
              · intro K vs W hR hD hN hK
                have dq12 : vs 12 = .bool false := hD 12 (by decide)
                have dq19 : vs 19 = .pointer (some ⟨eb, eo, none⟩) := hD 19 (by decide)
                clear hD
                clear hN
                try dsimp only at hK ⊢
                simp only [Act.put, List.setIfInBounds_toArray, List.set_cons_succ, List.set_cons_zero] at hK
                generalize vs 12 = vq12 at hK dq12 ⊢
                subst vq12
                generalize vs 19 = vq19 at hK dq19 ⊢
                subst vq19
                have c0 := (HSd.out.at (HOLD.out W hR)).1
                go_wp2
                exact hK _ _ rfl (fun _ _ h => h) (Mod.refl _ _)
              refine opsOkP_cons ?_ ?_
              · intro K vs W hR hD hN hK
                have dq12 : vs 12 = .bool false := hD 12 (by decide)
                have dq16 : vs 16 = .slice (some ⟨g, 0, none⟩) n n := hD 16 (by decide)
                have dq20 : vs 20 = .int .i64 (kx : Int) := hD 20 (by decide)
                clear hD
                clear hN
                try dsimp only at hK ⊢
                simp only [Act.put, List.setIfInBounds_toArray, List.set_cons_succ, List.set_cons_zero] at hK
                generalize vs 12 = vq12 at hK dq12 ⊢
                subst vq12
                generalize vs 16 = vq16 at hK dq16 ⊢
                subst vq16
                generalize vs 20 = vq20 at hK dq20 ⊢
                subst vq20
                have hig := HIG.out
                go_wp2_with fail
                exact hK _ _ rfl (fun _ _ h => h) (Mod.refl _ _)
              refine opsOkP_cons ?_ ?_
              · intro K vs W hR hD hN hK
                have dq12 : vs 12 = .bool false := hD 12 (by decide)
                have dq21 : vs 21 = .pointer (some ⟨g, kx, none⟩) := hD 21 (by decide)
                clear hD
                clear hN
                try dsimp only at hK ⊢
                simp only [Act.put, List.setIfInBounds_toArray, List.set_cons_succ, List.set_cons_zero] at hK
                generalize vs 12 = vq12 at hK dq12 ⊢
                subst vq12
                generalize vs 21 = vq21 at hK dq21 ⊢
                subst vq21
                have cu := (HSd.out.at (HOLD.out W hR)).2.2.1
                go_wp2
                exact hK _ _ rfl (fun _ _ h => h) (Mod.refl _ _)
              refine opsOkP_cons ?_ ?_
              · intro K vs W hR hD hN hK
                have dq12 : vs 12 = .bool false := hD 12 (by decide)
                have dq22 : vs 22 = .int .i64 uk := hD 22 (by decide)
                clear hD
                clear hN
                try dsimp only at hK ⊢
                simp only [Act.put, List.setIfInBounds_toArray, List.set_cons_succ, List.set_cons_zero] at hK
                generalize vs 12 = vq12 at hK dq12 ⊢
                subst vq12
                generalize vs 22 = vq22 at hK dq22 ⊢
                subst vq22
                go_wp2
                exact hK _ _ rfl (fun _ _ h => h) (Mod.refl _ _)
              refine opsOkP_cons ?_ ?_
              · intro K vs W hR hD hN hK
                have dq12 : vs 12 = .bool false := hD 12 (by decide)
                have dq23 : vs 23 = .bool (uk != 0) := hD 23 (by decide)
                clear hD
                clear hN
                try dsimp only at hK ⊢
                simp only [Act.put, List.setIfInBounds_toArray, List.set_cons_succ, List.set_cons_zero] at hK
                generalize vs 12 = vq12 at hK dq12 ⊢
                subst vq12
                generalize vs 23 = vq23 at hK dq23 ⊢
                subst vq23
                go_wp2
                exact hK _ _ rfl (fun _ _ h => h) (Mod.refl _ _)
              refine opsOkP_cons ?_ ?_
              · intro K vs W hR hD hN hK
                have dq0 : vs 0 = .slice (some ⟨fb, 0, none⟩) n n := hD 0 (by decide)
                have dq4 : vs 4 = .int .i64 (kx : Int) := hD 4 (by decide)
                clear hD
                clear hN
                try dsimp only at hK ⊢
                simp only [Act.put, List.setIfInBounds_toArray, List.set_cons_succ, List.set_cons_zero] at hK
                generalize vs 0 = vq0 at hK dq0 ⊢
                subst vq0
                generalize vs 4 = vq4 at hK dq4 ⊢
                subst vq4
                have hif := HIF.out
                go_wp2_with fail
                exact hK _ _ rfl (fun _ _ h => h) (Mod.refl _ _)
              exact opsOkP_nil
            · intro vs wq5 hR hF
              have dq24 : vs 24 = .bool (uk != 0) := hF 24 (by decide) (by decide)
              have dq25 : vs 25 = .pointer (some ⟨fb, kx, none⟩) := hF 25 (by decide) (by decide)
              clear hF
              try dsimp only
              generalize vs 24 = vq24 at dq24 ⊢
              subst vq24
              generalize vs 25 = vq25 at dq25 ⊢
              subst vq25
              have hmw : Mod (fun _ => False) wo wq5 := (Mod.drew _ _).of2 (HOLD.out _ hR)
              replace HS := Lib.hid (HS.out.step hmw)
              clear hmw HSd
              clear HOLD HB0
              have hmq := (HS.out.now).2.2.2.2.2
              have hfr := HRF.out.keep (Shp.ofMod (F := fun _ => False) hmq)
              obtain ⟨v0, c0⟩ := hfr.cell
              have f0 := hfr.free
              go_upto_region 11 with fail
              clear hfr c0 f0
              obtain ⟨ws, hws⟩ : ∃ W, World.setCell wq5 ⟨fb, kx, none⟩ (.bool (uk != 0)) = W := ⟨_, rfl⟩
              have hms : Mod (fun b => b = fb) wq5 (World.setCell wq5 ⟨fb, kx, none⟩ (.bool (uk != 0))) := Mod.setCell (F := fun b => b = fb) _ ⟨fb, kx, none⟩ _ rfl
              have hos := ((Own.keep HOW.out hmq (fun _ _ e => e)).stored kx (.bool (uk != 0))).1
              rw [hws] at hms hos ⊢
              have hst : (frK 0 us xs j).set kx ((uk != 0)) = frK 0 us xs (j + 1) := by
                rw [← HSTP.out]
                congr 1
                skip
                simp [turnF]; rfl
              rw [show (((frK 0 us xs j).map Value.bool).set kx (.bool (uk != 0))) = ((frK 0 us xs j).set kx ((uk != 0))).map Value.bool from by rw [List.map_set], hst] at hos
              have huo := ((HS.out.now).2.2.2.2.1).keep hms (fun e => by omega) (fun e => by omega)
              have hrd := HX0.out.rd.keepA (((HMW.out.trans hmq (fun _ _ e => e) (fun _ _ e => e.elim)).trans hms (fun _ _ e => .inl e) (fun i hi e => .inr e) : Mod (fun b => b = g ∨ b = fb) w ws)) (fun b hb e => by rcases e with e | e; exact HX0.out.off b hb e; exact HX0.out.rd.lt hb (by have h2 := HFB.out; omega))
              have HMS : Hid (Mod (fun b => b = g ∨ b = fb) wA ws) := Lib.hid ((HMR.out.trans hmq (fun _ _ e => e) (fun _ _ e => e.elim)).trans hms (fun _ _ e => e) (fun _ _ e => .inr e))
              have HOS := Lib.hid hos
              have HUS := Lib.hid huo
              clear hms hmq hos huo hws hst HS
              have HS : Hid (Ev (Mod (fun _ => False) ws) ws) := Lib.hid (Ev.mod ws)
              replace HS := Lib.hid ((Ev.uo HUS.out).and HS.out)
              replace HS := Lib.hid ((Ev.rd hrd).and HS.out)
              obtain ⟨yb, yo, hpl, e0⟩ := rd1 (HS.out.now).1 j hjl
              have hix := fun wx => run_indexS (P := Try.prog) wx 28 3 iI 1 Try.underlying28 hiI hsI a k c j hlt ((HS.out.now).1.some_ (by have := hlt; omega))
              rw [hpl] at hix
              have HIy := Lib.hid hix
              clear hix hpl
              rw [hkx] at e0
              replace HS := Lib.hid ((Ev.cell e0).and HS.out)
              clear e0
              clear hrd
              obtain ⟨B0, hB0⟩ : ∃ n, ws.heap.size = n := ⟨_, rfl⟩
              have HB0 := Lib.hid hB0
              clear hB0
              have HOLD : Hid (∀ W, Mod (fun k => B0 ≤ k) (World.drew ws) W → Mod (fun _ => False) (World.drew ws) W) := Lib.hid fun W h => h.mono (fun i hi e => by have := HB0.out; simp at hi; omega)
              go_upto_region 11 with fail
              have HSd := Lib.hid HS.out.drew
              have HST : ∀ (ix : Nat) (vs : Nat → Value) (vx : Value) (wx wy : World), factP (up_r11_5_F q g n c k kx a j yb yo) ix vs vx wx → Mod (fun _ => False) wx wy → factP (up_r11_5_F q g n c k kx a j yb yo) ix vs vx wy := by
                refine factP_stays ?_
                unfold up_r11_5_F
                exact stableP_cons (StableP.of (stable_val _)) <| stableP_cons (StableP.of (stable_val _)) <| stableP_cons (StableP.of (stable_val _)) <| stableP_cons (StableP.of (stable_val _)) <| stableP_cons (StableP.of (stable_val _)) <| stableP_cons (StableP.of (stable_val _)) <| stableP_cons (StableP.of (stable_val _)) <| stableP_cons (StableP.of (stable_val _)) <| stableP_cons (StableP.of (stable_val _)) <| stableP_nil
              have HSO : ∀ px ∈ (up_r11_5_F q g n c k kx a j yb yo), px.1 = true → ∀ (vs : Nat → Value) (vx : Value) (wx wy : World), px.2 vs vx wx → px.2 vs vx wy := by
                unfold up_r11_5_F
                exact solidP_cons (solid_val _) <| solidP_cons (solid_val _) <| solidP_cons (solid_val _) <| solidP_cons (solid_val _) <| solidP_cons (solid_val _) <| solidP_cons (solid_val _) <| solidP_cons (solid_val _) <| solidP_cons (solid_val _) <| solidP_cons (solid_val _) <| solidP_nil
              have HLO : LocL (fun i => up_r11_5_D.getD i []) 0 (up_r11_5_F q g n c k kx a j yb yo) := by
                unfold up_r11_5_F
                exact loc_cons (loc_own _) <| loc_cons (loc_own _) <| loc_cons (loc_own _) <| loc_cons (loc_own _) <| loc_cons (loc_own _) <| loc_cons (loc_own _) <| loc_cons (loc_own _) <| loc_cons (loc_own _) <| loc_cons (loc_own _) <| loc_nil
              refine wp_region_pair (act := ?actup_r11_5) (Mod (fun k => B0 ≤ k)) (factP (up_r11_5_F q g n c k kx a j yb yo)) (fun i => up_r11_5_C.getD i 1000) (fun i => up_r11_5_D.getD i []) 9 _ rfl rfl (by kernel_rfl) (by kernel_rfl) (by kernel_rfl) (by kernel_rfl) (by kernel_rfl) (fun _ => Mod.refl _ _)
                (fun _ _ _ h k => h.trans k (fun _ _ e => e) (fun _ _ e => e)) ?hactup_r11_5 (loc_of HLO) ?_ ?_
              case hactup_r11_5 => intro vs; simp only [putAll, Nat.zero_add, Nat.reduceAdd, Act.put, List.setIfInBounds_toArray, List.set_cons_succ, List.set_cons_zero]; exact rfl
              · refine opsOkP_cons ?_ ?_
                · intro K vs W hR hD hN hK
                  clear hD
                  clear hN
                  try dsimp only at hK ⊢
                  simp only [Act.put, List.setIfInBounds_toArray, List.set_cons_succ, List.set_cons_zero] at hK
                  go_wp2
                  exact hK _ _ rfl (fun _ _ h => h) (Mod.refl _ _)
                refine opsOkP_cons ?_ ?_
                · intro K vs W hR hD hN hK
                  have dq0 : vs 0 = .pointer (some ⟨q, 0, none⟩) := hD 0 (by decide)
                  clear hD
                  clear hN
                  try dsimp only at hK ⊢
                  simp only [Act.put, List.setIfInBounds_toArray, List.set_cons_succ, List.set_cons_zero] at hK
                  generalize vs 0 = vq0 at hK dq0 ⊢
                  subst vq0
                  go_wp2
                  exact hK _ _ rfl (fun _ _ h => h) (Mod.refl _ _)
                refine opsOkP_cons ?_ ?_
                · intro K vs W hR hD hN hK
                  have dq1 : vs 1 = .pointer (some ⟨q, 0, none⟩) := hD 1 (by decide)
                  clear hD
                  clear hN
                  try dsimp only at hK ⊢
                  simp only [Act.put, List.setIfInBounds_toArray, List.set_cons_succ, List.set_cons_zero] at hK
                  generalize vs 1 = vq1 at hK dq1 ⊢
                  subst vq1
                  go_wp2
                  exact hK _ _ rfl (fun _ _ h => h) (Mod.refl _ _)
                refine opsOkP_cons ?_ ?_
                · intro K vs W hR hD hN hK
                  have dq2 : vs 2 = .pointer (some ⟨q, 0, none⟩) := hD 2 (by decide)
                  clear hD
                  clear hN
                  try dsimp only at hK ⊢
                  simp only [Act.put, List.setIfInBounds_toArray, List.set_cons_succ, List.set_cons_zero] at hK
                  generalize vs 2 = vq2 at hK dq2 ⊢
                  subst vq2
                  have c0 := ((HSd.out.at (HOLD.out W hR)).2.2.1).blk.cell 0 rfl
                  go_wp2
                  exact hK _ _ rfl (fun _ _ h => h) (Mod.refl _ _)
                refine opsOkP_cons ?_ ?_
                · intro K vs W hR hD hN hK
                  clear hD
                  clear hN
                  try dsimp only at hK ⊢
                  simp only [Act.put, List.setIfInBounds_toArray, List.set_cons_succ, List.set_cons_zero] at hK
                  go_wp2
                  exact hK _ _ rfl (fun _ _ h => h) (Mod.refl _ _)
                refine opsOkP_cons ?_ ?_
                · intro K vs W hR hD hN hK
                  clear hD
                  clear hN
                  try dsimp only at hK ⊢
                  simp only [Act.put, List.setIfInBounds_toArray, List.set_cons_succ, List.set_cons_zero] at hK
                  go_wp2
                  exact hK _ _ rfl (fun _ _ h => h) (Mod.refl _ _)
                refine opsOkP_cons ?_ ?_
                · intro K vs W hR hD hN hK
                  have dq4 : vs 4 = .slice a k c := hD 4 (by decide)
                  have dq5 : vs 5 = .int .i64 (j : Int) := hD 5 (by decide)
                  clear hD
                  clear hN
                  try dsimp only at hK ⊢
                  simp only [Act.put, List.setIfInBounds_toArray, List.set_cons_succ, List.set_cons_zero] at hK
                  generalize vs 4 = vq4 at hK dq4 ⊢
                  subst vq4
                  generalize vs 5 = vq5 at hK dq5 ⊢
                  subst vq5
                  have hix := HIy.out
                  go_wp2_with fail
                  exact hK _ _ rfl (fun _ _ h => h) (Mod.refl _ _)
                refine opsOkP_cons ?_ ?_
                · intro K vs W hR hD hN hK
                  have dq6 : vs 6 = .pointer (some ⟨yb, yo, none⟩) := hD 6 (by decide)
                  clear hD
                  clear hN
                  try dsimp only at hK ⊢
                  simp only [Act.put, List.setIfInBounds_toArray, List.set_cons_succ, List.set_cons_zero] at hK
                  generalize vs 6 = vq6 at hK dq6 ⊢
                  subst vq6
                  have c0 := (HSd.out.at (HOLD.out W hR)).1
                  go_wp2
                  exact hK _ _ rfl (fun _ _ h => h) (Mod.refl _ _)
                refine opsOkP_cons ?_ ?_
                · intro K vs W hR hD hN hK
                  have dq3 : vs 3 = .slice (some ⟨g, 0, none⟩) n n := hD 3 (by decide)
                  have dq7 : vs 7 = .int .i64 (kx : Int) := hD 7 (by decide)
                  clear hD
                  clear hN
                  try dsimp only at hK ⊢
                  simp only [Act.put, List.setIfInBounds_toArray, List.set_cons_succ, List.set_cons_zero] at hK
                  generalize vs 3 = vq3 at hK dq3 ⊢
                  subst vq3
                  generalize vs 7 = vq7 at hK dq7 ⊢
                  subst vq7
                  have hig := HIG.out
                  go_wp2_with fail
                  exact hK _ _ rfl (fun _ _ h => h) (Mod.refl _ _)
                exact opsOkP_nil
              · intro vs wq6 hR hF
                have dq8 : vs 8 = .pointer (some ⟨g, kx, none⟩) := hF 8 (by decide) (by decide)
                clear hF
                try dsimp only
                generalize vs 8 = vq8 at dq8 ⊢
                subst vq8
                have hmw : Mod (fun _ => False) ws wq6 := (Mod.drew _ _).of2 (HOLD.out _ hR)
                replace HS := Lib.hid (HS.out.step hmw)
                clear hmw HSd
                clear HOLD HB0
                have hmq := (HS.out.now).2.2.2
                have huz := (HS.out.now).2.2.1
                have hfr := huz.room kx hkn
                obtain ⟨v0, c0⟩ := hfr.cell
                have f0 := hfr.free
                have HUZ := Lib.hid huz
                have HMQ := Lib.hid hmq
                clear hfr huz hmq
                go_wp2_with fail
                go_roundw
                case rel =>
                  have hmf : Mod (fun b => b = g) wq6 (World.setCell wq6 ⟨g, kx, none⟩ (.int .i64 0)) := Mod.setCell (F := fun b => b = g) _ ⟨g, kx, none⟩ _ rfl
                  refine ⟨j + 1, hlt, by go_num, (HMS.out.trans HMQ.out (fun _ _ e => e) (fun _ _ e => e.elim)).trans hmf (fun _ _ e => e) (fun _ _ e => .inl e), Own.keep (Own.keep HOS.out HMQ.out (fun _ _ e => e)) hmf (fun b hb e => by have : fb = b := Option.some.inj hb; omega), ?_⟩
                  rw [show xs.take (j + 1) = xs.take j ++ [(kx : Int)] from by rw [List.take_succ_eq_append_getElem hjl, hkx], putU_snoc]
                  exact HUZ.out.set kx _
                case measure => simp [intOf]; omega
end Go.Proofs.Ythlpednakhjmhaa
