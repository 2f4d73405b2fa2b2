/- NetCuts: the guard, and the law. -/
import Derived.Test.YtnklgeekjkchbaaCuts13
import Derived.Test.YtnklgeekjkchbaaOpen3
import Derived.Test.YtnklgeekjkchbaaOpens
namespace Go.Proofs.Ytnklgeekjkchbaa
open Go.RowKit Mile
set_option maxRecDepth 100000
theorem opens_il13 : Opens Try.prog 56 (encSlice (encInt .i64)) := opens_slice Try.underlying56 (by kernel_rfl) (opens_int Try.underlying3) (by decide)
set_option maxHeartbeats 8000000 in
theorem ncuts_law (w : World) (nv : Int) (_ : (Lit.int .i64 nv).wf = true) (a : Option Addr) (ln c : Nat) (T : List T3) (ok : (encSlice enc3).ok w (.slice a ln c, T)) (av : Option Addr) (lc cv : Nat) (V0 : List Int) (okv : (encSlice (encInt .i64)).ok w (.slice av lc cv, V0)) :
    Calls Try.prog 5 #[.int .i64 nv, .slice a ln c, .slice av lc cv] w fun e w' => e = .returned (.bool true) ∧ Below w.heap.size w w' := by
  obtain ⟨hT, hr⟩ := ok_t3 ok
  obtain ⟨hV, hrv, _⟩ := ok_ints okv
  suffices h : Calls Try.prog 5 #[.int .i64 nv, .slice a ln c, .slice av lc cv] w fun e w' => e = .returned (.bool true) ∧ Mod (fun _ => False) w w' from
    h.mono fun e w' h => ⟨h.1, h.2.below (Nat.le_refl _) (fun _ e => e.elim)⟩
  by_cases hno : ¬ (1 ≤ nv ∧ nv ≤ 40 ∧ ln ≤ 100 ∧ lc ≤ 20)
  case pos =>
    clear hr hT hV hrv ok okv
    have hend : ∀ (b0 b1 b2 b3 : Bool), decide (nv < 1) = b0 → decide (40 < nv) = b1 → decide (100 < (ln : Int)) = b2 → decide (20 < (lc : Int)) = b3 → (b0 || b1 || b2 || b3) = true →
        Calls Try.prog 5 #[.int .i64 nv, .slice a ln c, .slice av lc cv] w fun e w' => e = .returned (.bool true) ∧ Mod (fun _ => False) w w' := by
      intro b0 b1 b2 b3 hc0 hc1 hc2 hc3 hbb
      clear hno
      cases b0
      · skip
        cases b1
        · skip
          cases b2
          · skip
            cases b3
            · cases hbb
            · clear hbb 
              go_enter Try.func5, Try.ntmps5
              go_wp2_with fail
              refine (awake13_any _).mono ?_
              rintro e w9 ⟨rfl, hm9⟩
              go_wp2_with fail
              go_ret
              exact ⟨rfl, hm9⟩
          · clear hbb hc3
            go_enter Try.func5, Try.ntmps5
            go_wp2_with fail
            refine (awake13_any _).mono ?_
            rintro e w9 ⟨rfl, hm9⟩
            go_wp2_with fail
            go_ret
            exact ⟨rfl, hm9⟩
        · clear hbb hc2 hc3
          go_enter Try.func5, Try.ntmps5
          go_wp2_with fail
          refine (awake13_any _).mono ?_
          rintro e w9 ⟨rfl, hm9⟩
          go_wp2_with fail
          go_ret
          exact ⟨rfl, hm9⟩
      · clear hbb hc1 hc2 hc3
        go_enter Try.func5, Try.ntmps5
        go_wp2_with fail
        refine (awake13_any _).mono ?_
        rintro e w9 ⟨rfl, hm9⟩
        go_wp2_with fail
        go_ret
        exact ⟨rfl, hm9⟩
    refine hend _ _ _ _ rfl rfl rfl rfl ?_
    simp only [Bool.or_eq_true, decide_eq_true_eq]
    omega
  case neg =>
    have hyes := Decidable.not_not.1 hno
    obtain ⟨n, rfl⟩ := Int.eq_ofNat_of_zero_le (show 0 ≤ nv by omega)
    exact ncuts_all w n (by omega) (by omega) a ln c T hT hr (by omega) av lc cv V0 hV hrv (by omega)
end Go.Proofs.Ytnklgeekjkchbaa
