/- The document's own net: mayArc, by contract. -/
import Derived.Test.YtnklgeekjkchbaaRN1
import Derived.Deep.QuietTactic
import Derived.BigQuiet
namespace Go.Proofs.Ytnklgeekjkchbaa
open Go.RowKit Mile
set_option maxRecDepth 100000
set_option maxHeartbeats 8000000 in
theorem rn_may {w : World} {q n : Nat} {s : Value} (h : Blk w q 42 [.int .i64 (n : Int), s]) (hn : n ≤ 512) (f t v m : Int) (r : Bool) (hr : decide (mayA n ⟨f, t, v, m⟩) = r) : Calls Try.prog 38 #[.pointer (some ⟨q, 0, none⟩), .agg #[.int .i64 f, .int .i64 t, .int .i64 v, .int .i64 m]] w fun e w' => e = .returned (.bool r) ∧ Mod (fun _ => False) w w' := by
  obtain ⟨g, hg⟩ : ∃ y, w.heap.size = y := ⟨_, rfl⟩
  obtain ⟨wA, hwA⟩ : ∃ y, w.alloc (.cells #[.int .i64 f, .int .i64 t, .int .i64 v, .int .i64 m] 32) = y := ⟨_, rfl⟩
  have hgA : Blk wA g 32 [.int .i64 f, .int .i64 t, .int .i64 v, .int .i64 m] := by rw [← hwA, ← hg]; exact Blk.new w 32 [.int .i64 f, .int .i64 t, .int .i64 v, .int .i64 m]
  have hmA : Mod (fun _ => False) w wA := by rw [← hwA]; exact Mod.alloc _ _ _
  have hA := h.keep hmA (fun e => e)
  have g0 := hgA.cell 0 rfl
  have g1 := hgA.cell 1 rfl
  have g2 := hgA.cell 2 rfl
  have g3 := hgA.cell 3 rfl
  have q0 := hA.cell 0 rfl
  have HMA := Lib.hid hmA
  have hwr : IntKind.i64.wrap ((n : Int) - 1) = (n : Int) - 1 := IntWalk.i64_in _ (by omega)
  have hmay : decide (mayA n ⟨f, t, v, m⟩) = decide (0 ≤ f ∧ f < (n : Int) ∧ 0 ≤ t ∧ t < (n : Int) ∧ f ≠ t ∧ 1 ≤ v ∧ v ≤ 1099511627776 ∧ (m = -1 ∨ (0 ≤ m ∧ m < (n : Int) ∧ m ≠ f ∧ m ≠ t))) := rfl
  rw [hmay] at hr
  clear h hA hmA hgA hmay
  by_cases cf : 0 ≤ f ∧ f ≤ (n : Int) - 1
  · skip
    by_cases ct : 0 ≤ t ∧ t ≤ (n : Int) - 1
    · skip
      by_cases cft : f = t
      · skip
        have zcf : decide (0 ≤ f ∧ f ≤ (n : Int) - 1) = true := decide_eq_true cf
        have zct : decide (0 ≤ t ∧ t ≤ (n : Int) - 1) = true := decide_eq_true ct
        have zcft : (f != t) = false := by simp; exact cft
        have hrr : r = false := by rw [← hr]; exact decide_eq_false (by omega)
        subst hrr
        clear hr cf ct cft
        go_enter Try.func38, Try.ntmps38
        go_upto_region 1 with fail
        (try rw [hwA])
        (try rw [hg])
        clear hwA hg
        go_quiet ((go_at_call 37; exact Calls.quiet_of_same (rnw_q (by assumption) _ _)))
        go_wp2_with fail
        go_ret
        exact ⟨rfl, HMA.out.of2 (Mod.drewN _ _ _)⟩
      · skip
        by_cases cw : 1 ≤ v ∧ v ≤ 1099511627776
        · skip
          by_cases cm : m = -1
          · skip
            have zcf : decide (0 ≤ f ∧ f ≤ (n : Int) - 1) = true := decide_eq_true cf
            have zct : decide (0 ≤ t ∧ t ≤ (n : Int) - 1) = true := decide_eq_true ct
            have zcft : (f != t) = true := by simp; exact cft
            have zcw : decide (1 ≤ v ∧ v ≤ 1099511627776) = true := decide_eq_true cw
            have zcm : (m == -1) = true := by simp; exact cm
            have hrr : r = true := by rw [← hr]; exact decide_eq_true (by omega)
            subst hrr
            clear hr cf ct cft cw cm
            go_enter Try.func38, Try.ntmps38
            go_upto_region 1 with fail
            (try rw [hwA])
            (try rw [hg])
            clear hwA hg
            go_quiet ((go_at_call 37; exact Calls.quiet_of_same (rnw_q (by assumption) _ _)))
            go_wp2_with fail
            go_ret
            exact ⟨rfl, HMA.out.of2 (Mod.drewN _ _ _)⟩
          · skip
            by_cases chm : 0 ≤ m ∧ m ≤ (n : Int) - 1
            · skip
              by_cases cmf : m = f
              · skip
                have zcf : decide (0 ≤ f ∧ f ≤ (n : Int) - 1) = true := decide_eq_true cf
                have zct : decide (0 ≤ t ∧ t ≤ (n : Int) - 1) = true := decide_eq_true ct
                have zcft : (f != t) = true := by simp; exact cft
                have zcw : decide (1 ≤ v ∧ v ≤ 1099511627776) = true := decide_eq_true cw
                have zcm : (m == -1) = false := by simp; exact cm
                have zchm : decide (0 ≤ m ∧ m ≤ (n : Int) - 1) = true := decide_eq_true chm
                have zcmf : (m != f) = false := by simp; exact cmf
                have hrr : r = false := by rw [← hr]; exact decide_eq_false (by omega)
                subst hrr
                clear hr cf ct cft cw cm chm cmf
                go_enter Try.func38, Try.ntmps38
                go_upto_region 1 with fail
                (try rw [hwA])
                (try rw [hg])
                clear hwA hg
                go_quiet ((go_at_call 37; exact Calls.quiet_of_same (rnw_q (by assumption) _ _)))
                go_wp2_with fail
                go_ret
                exact ⟨rfl, HMA.out.of2 (Mod.drewN _ _ _)⟩
              · skip
                by_cases cmt : m = t
                · skip
                  have zcf : decide (0 ≤ f ∧ f ≤ (n : Int) - 1) = true := decide_eq_true cf
                  have zct : decide (0 ≤ t ∧ t ≤ (n : Int) - 1) = true := decide_eq_true ct
                  have zcft : (f != t) = true := by simp; exact cft
                  have zcw : decide (1 ≤ v ∧ v ≤ 1099511627776) = true := decide_eq_true cw
                  have zcm : (m == -1) = false := by simp; exact cm
                  have zchm : decide (0 ≤ m ∧ m ≤ (n : Int) - 1) = true := decide_eq_true chm
                  have zcmf : (m != f) = true := by simp; exact cmf
                  have zcmt : (m != t) = false := by simp; exact cmt
                  have hrr : r = false := by rw [← hr]; exact decide_eq_false (by omega)
                  subst hrr
                  clear hr cf ct cft cw cm chm cmf cmt
                  go_enter Try.func38, Try.ntmps38
                  go_upto_region 1 with fail
                  (try rw [hwA])
                  (try rw [hg])
                  clear hwA hg
                  go_quiet ((go_at_call 37; exact Calls.quiet_of_same (rnw_q (by assumption) _ _)))
                  go_wp2_with fail
                  go_ret
                  exact ⟨rfl, HMA.out.of2 (Mod.drewN _ _ _)⟩
                · skip
                  have zcf : decide (0 ≤ f ∧ f ≤ (n : Int) - 1) = true := decide_eq_true cf
                  have zct : decide (0 ≤ t ∧ t ≤ (n : Int) - 1) = true := decide_eq_true ct
                  have zcft : (f != t) = true := by simp; exact cft
                  have zcw : decide (1 ≤ v ∧ v ≤ 1099511627776) = true := decide_eq_true cw
                  have zcm : (m == -1) = false := by simp; exact cm
                  have zchm : decide (0 ≤ m ∧ m ≤ (n : Int) - 1) = true := decide_eq_true chm
                  have zcmf : (m != f) = true := by simp; exact cmf
                  have zcmt : (m != t) = true := by simp; exact cmt
                  have hrr : r = true := by rw [← hr]; exact decide_eq_true (by omega)
                  subst hrr
                  clear hr cf ct cft cw cm chm cmf cmt
                  go_enter Try.func38, Try.ntmps38
                  go_upto_region 1 with fail
                  (try rw [hwA])
                  (try rw [hg])
                  clear hwA hg
                  go_quiet ((go_at_call 37; exact Calls.quiet_of_same (rnw_q (by assumption) _ _)))
                  go_wp2_with fail
                  go_ret
                  exact ⟨rfl, HMA.out.of2 (Mod.drewN _ _ _)⟩
            · skip
              have zcf : decide (0 ≤ f ∧ f ≤ (n : Int) - 1) = true := decide_eq_true cf
              have zct : decide (0 ≤ t ∧ t ≤ (n : Int) - 1) = true := decide_eq_true ct
              have zcft : (f != t) = true := by simp; exact cft
              have zcw : decide (1 ≤ v ∧ v ≤ 1099511627776) = true := decide_eq_true cw
              have zcm : (m == -1) = false := by simp; exact cm
              have zchm : decide (0 ≤ m ∧ m ≤ (n : Int) - 1) = false := decide_eq_false chm
              have hrr : r = false := by rw [← hr]; exact decide_eq_false (by omega)
              subst hrr
              clear hr cf ct cft cw cm chm
              go_enter Try.func38, Try.ntmps38
              go_upto_region 1 with fail
              (try rw [hwA])
              (try rw [hg])
              clear hwA hg
              go_quiet ((go_at_call 37; exact Calls.quiet_of_same (rnw_q (by assumption) _ _)))
              go_wp2_with fail
              go_ret
              exact ⟨rfl, HMA.out.of2 (Mod.drewN _ _ _)⟩
        · skip
          have zcf : decide (0 ≤ f ∧ f ≤ (n : Int) - 1) = true := decide_eq_true cf
          have zct : decide (0 ≤ t ∧ t ≤ (n : Int) - 1) = true := decide_eq_true ct
          have zcft : (f != t) = true := by simp; exact cft
          have zcw : decide (1 ≤ v ∧ v ≤ 1099511627776) = false := decide_eq_false cw
          have hrr : r = false := by rw [← hr]; exact decide_eq_false (by omega)
          subst hrr
          clear hr cf ct cft cw
          go_enter Try.func38, Try.ntmps38
          go_upto_region 1 with fail
          (try rw [hwA])
          (try rw [hg])
          clear hwA hg
          go_quiet ((go_at_call 37; exact Calls.quiet_of_same (rnw_q (by assumption) _ _)))
          go_wp2_with fail
          go_ret
          exact ⟨rfl, HMA.out.of2 (Mod.drewN _ _ _)⟩
    · skip
      have zcf : decide (0 ≤ f ∧ f ≤ (n : Int) - 1) = true := decide_eq_true cf
      have zct : decide (0 ≤ t ∧ t ≤ (n : Int) - 1) = false := decide_eq_false ct
      have hrr : r = false := by rw [← hr]; exact decide_eq_false (by omega)
      subst hrr
      clear hr cf ct
      go_enter Try.func38, Try.ntmps38
      go_upto_region 1 with fail
      (try rw [hwA])
      (try rw [hg])
      clear hwA hg
      go_quiet ((go_at_call 37; exact Calls.quiet_of_same (rnw_q (by assumption) _ _)))
      go_wp2_with fail
      go_ret
      exact ⟨rfl, HMA.out.of2 (Mod.drewN _ _ _)⟩
  · skip
    have zcf : decide (0 ≤ f ∧ f ≤ (n : Int) - 1) = false := decide_eq_false cf
    have hrr : r = false := by rw [← hr]; exact decide_eq_false (by omega)
    subst hrr
    clear hr cf
    go_enter Try.func38, Try.ntmps38
    go_upto_region 1 with fail
    (try rw [hwA])
    (try rw [hg])
    clear hwA hg
    go_quiet ((go_at_call 37; exact Calls.quiet_of_same (rnw_q (by assumption) _ _)))
    go_wp2_with fail
    go_ret
    exact ⟨rfl, HMA.out.of2 (Mod.drewN _ _ _)⟩
end Go.Proofs.Ytnklgeekjkchbaa
