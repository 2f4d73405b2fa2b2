/- Law 10's same: two rows of closed edges that read alike. -/
import Derived.Test.YthlpednakhjmhaaSet6
import Derived.Test.YthlpednakhjmhaaLastP
import Derived.Deep.QuietTactic
import Derived.BigQuiet
namespace Go.Proofs.Ythlpednakhjmhaa
open Go.RowKit Mile
set_option maxRecDepth 100000
set_option maxHeartbeats 4000000 in
theorem same_eq (w : World) (a : Option Addr) (n c : Nat) (L : List (Int × Int)) (hn : L.length = n) (hr : Rd w 2 (.slice a n c) n (L.flatMap c2s)) (b : Option Addr) (d : Nat) (hs : Rd w 2 (.slice b n d) n (L.flatMap c2s)) (hb : n ≤ 100000) :
    Calls Try.prog 19 #[.slice a n c, .slice b n d] w fun e w' => e = .returned (.bool true) ∧ Mod (fun _ => False) w w' := by
  obtain ⟨iS, hiS, hzS, hsS, hbS⟩ := info_parts infoSh
  have HN := Lib.hid hn
  clear hn
  go_enter Try.func19, Try.ntmps19
  go_wp2_with fail
  go_loopw [5] (fun i wr => ∃ j : Nat, j ≤ n ∧ i = .int .i64 j ∧ Mod (fun _ => False) w wr) (fun i _ => n - (intOf i).toNat)
  case atStart => exact ⟨0, by omega, rfl, Mod.refl _ _⟩
  case round =>
    obtain ⟨j, hj, rfl, hM⟩ := hrel
    by_cases hlt : j < n
    · have hjl : j < L.length := by rw [HN.out]; exact hlt
      obtain ⟨b1, o1, hpl, e1, e2⟩ := rd2s (hr.keepA hM (fun _ _ e => e.elim)) j hjl
      obtain ⟨b2, o2, hpl2, k1, k2⟩ := rd2s (hs.keepA hM (fun _ _ e => e.elim)) j hjl
      have hix := fun wx => run_indexS (P := Try.prog) wx 43 53 iS 2 Try.underlying43 hiS hsS a n c j hlt (hr.some_ (by omega))
      rw [hpl] at hix
      have hix' := fun wx => run_indexS (P := Try.prog) wx 43 53 iS 2 Try.underlying43 hiS hsS b n d j hlt (hs.some_ (by omega))
      rw [hpl2] at hix'
      obtain ⟨z0, hz0⟩ : ∃ z, L[j].1 = z := ⟨_, rfl⟩
      rw [hz0] at e1 k1
      obtain ⟨z1, hz1⟩ : ∃ z, L[j].2 = z := ⟨_, rfl⟩
      rw [hz1] at e2 k2
      clear hz0 hz1 hpl hpl2
      go_wp2_with fail
      go_quiet (fail)
      go_wp2_with fail
      go_roundw
      case rel => exact ⟨j + 1, hlt, by go_num, hM.trans (Mod.drewN (fun _ => False) wr nq) (fun _ _ e => e) (fun _ _ e => e)⟩
      case measure => simp [intOf]; omega
    · obtain rfl : j = n := by omega
      go_wp2_with fail
      go_ret
      exact ⟨rfl, hM⟩
end Go.Proofs.Ythlpednakhjmhaa
