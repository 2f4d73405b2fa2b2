/- shuts.Set's Close, Open, Closed by contract. -/
import Derived.Test.YthlpednakhjmhaaSet3
import Derived.Test.YthlpednakhjmhaaSet4
import Derived.Deep.DeepCutAuto
import Derived.Deep.CutBlock
namespace Go.Proofs.Ythlpednakhjmhaa
open Go.RowKit Mile
set_option maxRecDepth 100000
/-- What Close and Open leave. -/
def PutP (p n : Nat) (us : List Int) (u : Int) (xs : List Int) (w : World) (e : Ending) (w' : World) : Prop := ∃ v, e = .returned (.tuple #[v, .int .i64 0]) ∧ w'.ownsRow w.heap.size 3 1 v (turnL u us xs).length ((srtI (turnL u us xs)).map (Value.int .i64)) ∧ SO w' p n (putU u us xs) ∧ Mod (fun k => k = p) w w'
set_option maxHeartbeats 4000000 in
theorem close_ok (p n : Nat) (us : List Int) (w : World) (h : SO w p n us) (a : Option Addr) (m c : Nat) (xs : List Int) (hx : XR w p a m c xs) (hb : m ≤ 100000) (hin : hasB n xs = true) (u : Int) (h1 : 1 ≤ u) (h2 : u ≤ 1099511627776) :
    Calls Try.prog 10 #[.pointer (some ⟨p, 0, none⟩), .int .i64 u, .slice a m c] w (PutP p n us u xs w) := by
  have z0 : decide (u < 1) = false := by simp; omega
  have z1 : decide (1099511627776 < u) = false := by simp; omega
  have HIN := Lib.hid hin
  clear hin
  go_enter Try.func10, Try.ntmps10
  go_wp2_with fail
  refine (has_any p n us w h a m c xs hx.len hx.rd hb).mono ?_
  rintro e w' ⟨rfl, rfl⟩
  rw [HIN.out]
  go_wp2_with fail
  refine (put_any p n us w h a m c xs hx hb HIN.out u).mono ?_
  rintro e w' ⟨v, rfl, ho, hs, hm⟩
  have HO := Lib.hid ho
  have HS := Lib.hid hs
  have HM := Lib.hid hm
  clear ho hs hm
  go_wp2_with fail
  go_ret2
  exact ⟨v, rfl, HO.out, HS.out, HM.out⟩
set_option maxHeartbeats 4000000 in
theorem close_no (p n : Nat) (us : List Int) (w : World) (h : SO w p n us) (a : Option Addr) (m c : Nat) (xs : List Int) (hl : xs.length = m) (hr : Rd w 1 (.slice a m c) m (xs.map (Value.int .i64))) (hb : m ≤ 100000) (u : Int) (hno : ¬ (1 ≤ u ∧ u ≤ 1099511627776 ∧ hasB n xs = true)) :
    Calls Try.prog 10 #[.pointer (some ⟨p, 0, none⟩), .int .i64 u, .slice a m c] w fun e w' => e = .returned (.tuple #[.slice none 0 0, .int .i64 1]) ∧ w = w' := by
  by_cases h1 : u < 1
  case pos =>
    have z0 : decide (u < 1) = true := by simpa using h1
    go_enter Try.func10, Try.ntmps10
    go_wp2_with fail
    go_ret2
    exact ⟨rfl, rfl⟩
  case neg =>
    have z0 : decide (u < 1) = false := by simpa using h1
    by_cases h2 : 1099511627776 < u
    case pos =>
      have z1 : decide (1099511627776 < u) = true := by simpa using h2
      go_enter Try.func10, Try.ntmps10
      go_wp2_with fail
      go_ret2
      exact ⟨rfl, rfl⟩
    case neg =>
      have z1 : decide (1099511627776 < u) = false := by simpa using h2
      have HIN : Hid (hasB n xs = false) := Lib.hid (by cases hh : hasB n xs with | false => rfl | true => exact absurd ⟨by omega, by omega, hh⟩ hno)
      clear hno
      go_enter Try.func10, Try.ntmps10
      go_wp2_with fail
      refine (has_any p n us w h a m c xs hl hr hb).mono ?_
      rintro e w' ⟨rfl, rfl⟩
      rw [HIN.out]
      go_wp2_with fail
      go_ret2
      exact ⟨rfl, rfl⟩
set_option maxHeartbeats 4000000 in
theorem close_nil (a : Option Addr) (m c : Nat) (u : Int) (w : World) :
    Calls Try.prog 10 #[.pointer none, .int .i64 u, .slice a m c] w fun e w' => e = .returned (.tuple #[.slice none 0 0, .int .i64 1]) ∧ w = w' := by
  by_cases h1 : u < 1
  case pos =>
    have z0 : decide (u < 1) = true := by simpa using h1
    go_enter Try.func10, Try.ntmps10
    go_wp2_with fail
    go_ret2
    exact ⟨rfl, rfl⟩
  case neg =>
    have z0 : decide (u < 1) = false := by simpa using h1
    by_cases h2 : 1099511627776 < u
    case pos =>
      have z1 : decide (1099511627776 < u) = true := by simpa using h2
      go_enter Try.func10, Try.ntmps10
      go_wp2_with fail
      go_ret2
      exact ⟨rfl, rfl⟩
    case neg =>
      have z1 : decide (1099511627776 < u) = false := by simpa using h2
      go_enter Try.func10, Try.ntmps10
      go_wp2_with fail
      refine (has_nil a m c w).mono ?_
      rintro e w' ⟨rfl, rfl⟩
      go_wp2_with fail
      go_ret2
      exact ⟨rfl, rfl⟩
set_option maxHeartbeats 4000000 in
theorem open_ok (p n : Nat) (us : List Int) (w : World) (h : SO w p n us) (a : Option Addr) (m c : Nat) (xs : List Int) (hx : XR w p a m c xs) (hb : m ≤ 100000) (hin : hasB n xs = true) :
    Calls Try.prog 13 #[.pointer (some ⟨p, 0, none⟩), .slice a m c] w (PutP p n us 0 xs w) := by
  have HIN := Lib.hid hin
  clear hin
  go_enter Try.func13, Try.ntmps13
  go_wp2_with fail
  refine (has_any p n us w h a m c xs hx.len hx.rd hb).mono ?_
  rintro e w' ⟨rfl, rfl⟩
  rw [HIN.out]
  go_wp2_with fail
  refine (put_any p n us w h a m c xs hx hb HIN.out 0).mono ?_
  rintro e w' ⟨v, rfl, ho, hs, hm⟩
  have HO := Lib.hid ho
  have HS := Lib.hid hs
  have HM := Lib.hid hm
  clear ho hs hm
  go_wp2_with fail
  go_ret2
  exact ⟨v, rfl, HO.out, HS.out, HM.out⟩
set_option maxHeartbeats 4000000 in
theorem open_no (p n : Nat) (us : List Int) (w : World) (h : SO w p n us) (a : Option Addr) (m c : Nat) (xs : List Int) (hl : xs.length = m) (hr : Rd w 1 (.slice a m c) m (xs.map (Value.int .i64))) (hb : m ≤ 100000) (hno : hasB n xs = false) :
    Calls Try.prog 13 #[.pointer (some ⟨p, 0, none⟩), .slice a m c] w fun e w' => e = .returned (.tuple #[.slice none 0 0, .int .i64 1]) ∧ w = w' := by
  have HIN := Lib.hid hno
  clear hno
  go_enter Try.func13, Try.ntmps13
  go_wp2_with fail
  refine (has_any p n us w h a m c xs hl hr hb).mono ?_
  rintro e w' ⟨rfl, rfl⟩
  rw [HIN.out]
  go_wp2_with fail
  go_ret2
  exact ⟨rfl, rfl⟩
/-- Whether an edge is closed. -/
def closedB (us : List Int) (n : Nat) (x : Int) : Bool := edge1 n x && us.getD x.toNat 0 != 0
set_option maxHeartbeats 4000000 in
theorem closed_any (p n : Nat) (us : List Int) (w : World) (h : SO w p n us) (x : Int) :
    Calls Try.prog 22 #[.pointer (some ⟨p, 0, none⟩), .int .i64 x] w fun e w' => e = .returned (.bool (closedB us n x)) ∧ Mod (fun _ => False) w w' := by
  have hA := h.keep (Mod.alloc (fun _ => False) w (.cells #[.int .i64 x] 3)) (fun e => e)
  have hn := h.le
  have HUL := Lib.hid h.len
  have HA := Lib.hid hA
  clear hA
  go_enter Try.func22, Try.ntmps22
  by_cases hx : 0 ≤ x ∧ x < (n : Int)
  case pos =>
    obtain ⟨j, rfl⟩ := Int.eq_ofNat_of_zero_le hx.1
    have hjn : j < n := by omega
    have hjl : j < us.length := by rw [HUL.out]; omega
    have hb : Hid (hasB n [(j : Int)] = true) := Lib.hid (by unfold hasB; simp only [List.all_cons, List.all_nil, Bool.and_true]; exact decide_eq_true hx)
    clear hx
    have cA := HA.out.at_ j hjl
    obtain ⟨cu, hcu⟩ : ∃ y, us[j] = y := ⟨_, rfl⟩
    rw [hcu] at cA
    have HC : Hid (closedB us n (j : Int) = (cu != 0)) := Lib.hid (by unfold closedB; rw [show edge1 n (j : Int) = true from decide_eq_true ⟨by omega, by omega⟩, show ((j : Int)).toNat = j from rfl]; simp [List.getD, hjl, hcu])
    clear hcu
    have hk5 : (j : Int) < 512 := by omega
    go_wp2_with fail
    refine (has_any p n us _ HA.out _ 1 _ [(j : Int)] rfl (Rd.lit 3 [.int .i64 (j : Int)] (0, 0) _ 1 rfl rfl (by decide)) (by omega)).mono ?_
    rintro e w' ⟨rfl, rfl⟩
    rw [hb.out]
    go_wp2_with fail
    go_ret
    exact ⟨by rw [HC.out]; rfl, Mod.alloc _ _ _⟩
  case neg =>
    have hb : Hid (hasB n [x] = false) := Lib.hid (by unfold hasB; simp only [List.all_cons, List.all_nil, Bool.and_true]; exact decide_eq_false hx)
    have HC : Hid (closedB us n x = false) := Lib.hid (by unfold closedB; rw [show edge1 n x = false from decide_eq_false hx]; rfl)
    clear hx
    go_wp2_with fail
    refine (has_any p n us _ HA.out _ 1 _ [x] rfl (Rd.lit 3 [.int .i64 x] (0, 0) _ 1 rfl rfl (by decide)) (by omega)).mono ?_
    rintro e w' ⟨rfl, rfl⟩
    rw [hb.out]
    go_wp2_with fail
    go_ret
    exact ⟨by rw [HC.out]; rfl, Mod.alloc _ _ _⟩
theorem closed_nil (x : Int) (w : World) :
    Calls Try.prog 22 #[.pointer none, .int .i64 x] w fun e w' => e = .returned (.bool false) ∧ Mod (fun _ => False) w w' := by
  go_enter Try.func22, Try.ntmps22
  go_wp2_with fail
  refine (has_nil _ _ _ _).mono ?_
  rintro e w' ⟨rfl, rfl⟩
  go_wp2_with fail
  go_ret
  exact ⟨rfl, Mod.alloc _ _ _⟩
end Go.Proofs.Ythlpednakhjmhaa
