/- shuts.Set's has and put by contract. -/
import Derived.Test.YthlpednakhjmhaaSet1
import Derived.Test.YthlpednakhjmhaaSetP
import Derived.Test.YthlpednakhjmhaaSortI
import Derived.Deep.DeepCutAuto
import Derived.Deep.CutBlock
namespace Go.Proofs.Ythlpednakhjmhaa
open Go.RowKit Mile
set_option maxRecDepth 100000
/-- A row of numbers that came in, in another block than p. -/
structure XR (w : World) (p : Nat) (a : Option Addr) (m c : Nat) (xs : List Int) : Prop where
  rd : Rd w 1 (.slice a m c) m (xs.map (Value.int .i64))
  len : xs.length = m
  off : ∀ k, (Value.slice a m c).ownBlock = some k → k = p → xs.map (Value.int .i64) = []
theorem XR.keep {w w' : World} {p : Nat} {a : Option Addr} {m c : Nat} {xs : List Int} (h : XR w p a m c xs) (hm : Mod (fun k => k = p) w w') : XR w' p a m c xs := ⟨h.rd.keepA hm (fun k hk e => h.off k hk e), h.len, h.off⟩
theorem XR.keep0 {w w' : World} {p : Nat} {a : Option Addr} {m c : Nat} {xs : List Int} (h : XR w p a m c xs) (hm : Mod (fun _ => False) w w') : XR w' p a m c xs := ⟨h.rd.keep hm (fun _ _ e => e), h.len, h.off⟩
theorem has_nil (a : Option Addr) (m c : Nat) (w : World) : Calls Try.prog 25 #[.pointer none, .slice a m c] w fun e w' => e = .returned (.bool false) ∧ w = w' := by
  go_enter Try.func25, Try.ntmps25
  go_wp2_with fail
  go_ret
  exact ⟨rfl, rfl⟩
set_option maxHeartbeats 4000000 in
theorem has_any (p n : Nat) (us : List Int) (w : World) (h : SO w p n us) (a : Option Addr) (m c : Nat) (xs : List Int) (hl : xs.length = m) (hr : Rd w 1 (.slice a m c) m (xs.map (Value.int .i64))) (hb : m ≤ 100000) :
    Calls Try.prog 25 #[.pointer (some ⟨p, 0, none⟩), .slice a m c] w fun e w' => e = .returned (.bool (hasB n xs)) ∧ w = w' := by
  obtain ⟨iI, hiI, hzI, hsI, hbI⟩ := info_parts infoI
  have HL := Lib.hid hl
  have HR := Lib.hid hr
  clear hl hr
  have q0 := h.edges
  have hn := h.le
  go_enter Try.func25, Try.ntmps25
  go_wp2_with fail
  go_loop [11] (fun i => ∃ k : Nat, k ≤ m ∧ i = .int .i64 k ∧ hasB n (xs.take k) = true) (fun i => m - (intOf i).toNat)
  case atStart => exact ⟨0, by omega, rfl, rfl⟩
  case round =>
    obtain ⟨k, hk, rfl, hall⟩ := hrel
    have HA := Lib.hid hall
    clear hall
    by_cases hlt : k < m
    case pos =>
      have hkl : k < xs.length := by rw [HL.out]; exact hlt
      have ht := Lib.hid (hasB_take n xs k hkl)
      have hno := Lib.hid (hasB_no n xs k hkl)
      obtain ⟨x, hx⟩ : ∃ x, xs[k] = x := ⟨_, rfl⟩
      rw [hx] at ht hno
      obtain ⟨eb, eo, hpl, e0⟩ := rd1 HR.out k hkl
      have hix := fun wx => run_indexS (P := Try.prog) wx 28 3 iI 1 Try.underlying28 hiI hsI a m c k hlt (HR.out.some_ (by omega))
      rw [hpl] at hix
      rw [hx] at e0
      clear hpl hx
      have z0 : decide ((k : Int) < (m : Int)) = true := by simp; omega
      by_cases h1 : x < 0
      case pos =>
        have z1 : decide (x < 0) = true := by simpa using h1
        go_wp2_with fail
        go_ret
        exact ⟨by rw [hno.out (decide_eq_false (fun h => by omega))]; rfl, rfl⟩
      case neg =>
        have z1 : decide (x < 0) = false := by simpa using h1
        by_cases h2 : x < (n : Int)
        case pos =>
          have z2 : decide ((n : Int) ≤ x) = false := by simp; omega
          go_wp2_with fail
          go_round
          case rel => exact ⟨k + 1, hlt, by go_num, by rw [ht.out, HA.out]; exact decide_eq_true ⟨by omega, h2⟩⟩
          case measure => simp [intOf]; omega
        case neg =>
          have z2 : decide ((n : Int) ≤ x) = true := by simp; omega
          go_wp2_with fail
          go_ret
          exact ⟨by rw [hno.out (decide_eq_false (fun h => by omega))]; rfl, rfl⟩
    case neg =>
      obtain rfl : k = m := by omega
      have z0 : decide ((k : Int) < (k : Int)) = false := by simp
      go_wp2_with fail
      go_ret
      refine ⟨?_, rfl⟩
      have h1 := HA.out
      rw [List.take_of_length_le (by rw [HL.out]; exact Nat.le_refl _)] at h1
      rw [h1]; rfl
end Go.Proofs.Ythlpednakhjmhaa
