/- table's Len, May, Get, Add, by contract. -/
import Derived.Test.YtfdmjnhhgcidbaaTb1
import Derived.StillTailTactics
namespace Go.Proofs.Ytfdmjnhhgcidbaa
open Go.RowKit Mile
set_option maxRecDepth 100000
theorem tblen_nil (w : World) : Calls Try.prog 42 #[.pointer none] w fun e w' => e = .returned (.int .i64 0) ∧ w = w' := by
  go_enter Try.func42, Try.ntmps42
  go_wp2_with fail
  refine (tball_nil w).mono ?_
  rintro e w' ⟨rfl, rfl⟩
  go_wp2_with fail
  go_ret
  exact ⟨rfl, rfl⟩
theorem tbmay_nil (w : World) (a b : Int) : Calls Try.prog 33 #[.pointer none, .int .i64 a, .int .i64 b] w fun e w' => e = .returned (.int .i64 1) ∧ w = w' := by
  go_enter Try.func33, Try.ntmps33
  go_wp2_with fail
  go_ret
  exact ⟨rfl, rfl⟩
theorem tbget_nil (w : World) (a b : Int) : Calls Try.prog 40 #[.pointer none, .int .i64 a, .int .i64 b] w fun e w' => e = .returned (.pointer none) ∧ w = w' := by
  go_enter Try.func40, Try.ntmps40
  go_wp2_with fail
  refine (tbof_nil w a).mono ?_
  rintro e w' ⟨rfl, rfl⟩
  go_wp2_with fail
  go_ret
  exact ⟨rfl, rfl⟩
theorem tbadd_nil (w : World) (tv : Value) : Calls Try.prog 34 #[tv, .pointer none] w fun e w' => e = .returned (.int .i64 1) ∧ w = w' := by
  go_enter Try.func34, Try.ntmps34
  go_wp2_with fail
  go_ret
  exact ⟨rfl, rfl⟩
section
variable {w : World} {p M : Nat} {es : Nat → TbE} {gr : Nat → Int}
theorem tblen_any (h : TB w p M es gr) : Calls Try.prog 42 #[.pointer (some ⟨p, 0, none⟩)] w fun e w' => e = .returned (.int .i64 ((liveN es 16).length : Int)) ∧ Mod (fun _ => False) w w' := by
  have HA := Lib.hid (tball_any h)
  clear h
  obtain ⟨n, hn⟩ : ∃ n, (liveN es 16).length = n := ⟨_, rfl⟩
  rw [hn] at HA ⊢
  clear hn
  go_enter Try.func42, Try.ntmps42
  go_wp2_with fail
  refine HA.out.mono ?_
  rintro e w' ⟨a, c, rfl, _, hm⟩
  have HM := Lib.hid hm
  clear hm
  go_wp2_with fail
  go_ret
  exact ⟨rfl, HM.out⟩
/-- Get: an Entry, if it is that connection's. -/
def getV (es : Nat → TbE) (gr : Nat → Int) (peer conn : Int) : Value := if 0 ≤ peer ∧ peer < 16 ∧ gr peer.toNat = conn then tbV (es peer.toNat) else .pointer none
theorem tbget_any (h : TB w p M es gr) (peer conn : Int) : Calls Try.prog 40 #[.pointer (some ⟨p, 0, none⟩), .int .i64 peer, .int .i64 conn] w fun e w' => e = .returned (getV es gr peer conn) ∧ w = w' := by
  by_cases hp : 0 ≤ peer ∧ peer < 16
  · obtain ⟨i, rfl⟩ := Int.eq_ofNat_of_zero_le hp.1
    have hi : i < 16 := by omega
    have HO := Lib.hid (tbof_any h i hi)
    cases hes : es i with
    | none =>
      have hv : getV es gr (i : Int) conn = .pointer none := by unfold getV; simp [hes, tbV]
      rw [hv]
      rw [hes] at HO
      replace HO : Hid (Calls Try.prog 75 #[.pointer (some ⟨p, 0, none⟩), .int .i64 (i : Int)] w fun e w' => e = .returned (.pointer none) ∧ w = w') := HO
      clear h hes hp hv
      go_enter Try.func40, Try.ntmps40
      go_wp2_with fail
      refine HO.out.mono ?_
      rintro e w' ⟨rfl, rfl⟩
      go_wp2_with fail
      go_ret
      exact ⟨rfl, rfl⟩
    | some x =>
      obtain ⟨b, ch⟩ := x
      obtain ⟨hb, _⟩ := h.ent i hi b ch hes
      have hv : getV es gr (i : Int) conn = if gr i = conn then .pointer (some ⟨b, 0, none⟩) else .pointer none := by unfold getV; by_cases e : gr i = conn <;> simp [hes, tbV, e]; omega
      rw [hv]
      rw [hes] at HO
      replace HO : Hid (Calls Try.prog 75 #[.pointer (some ⟨p, 0, none⟩), .int .i64 (i : Int)] w fun e w' => e = .returned (.pointer (some ⟨b, 0, none⟩)) ∧ w = w') := HO
      have q1 := hb.cell 1 rfl
      obtain ⟨g, hg⟩ : ∃ g, gr i = g := ⟨_, rfl⟩
      rw [hg] at q1 ⊢
      clear h hes hp hv hg hb
      by_cases e : g = conn
      · have y0 : (g != conn) = false := by simpa using e
        rw [if_pos e]
        clear e
        go_enter Try.func40, Try.ntmps40
        go_wp2_with fail
        refine HO.out.mono ?_
        rintro e w' ⟨rfl, rfl⟩
        go_wp2_with fail
        go_ret
        exact ⟨rfl, rfl⟩
      · have y0 : (g != conn) = true := by simpa using e
        rw [if_neg e]
        clear e
        go_enter Try.func40, Try.ntmps40
        go_wp2_with fail
        refine HO.out.mono ?_
        rintro e w' ⟨rfl, rfl⟩
        go_wp2_with fail
        go_ret
        exact ⟨rfl, rfl⟩
  · have hv : getV es gr peer conn = .pointer none := by unfold getV; rw [if_neg (fun x => hp ⟨x.1, x.2.1⟩)]
    rw [hv]
    have HO := Lib.hid (tbof_no (w := w) (p := p) peer hp)
    clear h hp hv
    go_enter Try.func40, Try.ntmps40
    go_wp2_with fail
    refine HO.out.mono ?_
    rintro e w' ⟨rfl, rfl⟩
    go_wp2_with fail
    go_ret
    exact ⟨rfl, rfl⟩
end
end Go.Proofs.Ytfdmjnhhgcidbaa
