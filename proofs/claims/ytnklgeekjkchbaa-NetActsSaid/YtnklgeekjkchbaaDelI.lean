/- slices.Delete of one element, by contract. -/
import Derived.Test.YtnklgeekjkchbaaIns
import Derived.Test.YtnklgeekjkchbaaNet1
namespace Go.Proofs.Ytnklgeekjkchbaa
open Go.RowKit Mile
set_option maxRecDepth 100000
set_option maxHeartbeats 8000000 in
theorem delI_any (w : World) (a : Option Addr) (n c i : Nat) (xs : List Value) (h1c : ∀ u ∈ xs, u.oneCell' = true) (ho : w.ownsRow 0 3 1 (.slice a n c) n xs) (hi : i < n) (hn : n ≤ 100000) (m : Nat) (hm : n = m + 1) :
    Calls Try.prog 60 #[.slice a n c, .int .i64 (i : Int), .int .i64 ((i : Int) + 1)] w fun e w' => e = .returned (.slice a m c) ∧ w'.ownsRow 0 3 1 (.slice a m c) m (xs.take (i * 1) ++ xs.drop ((i + 1) * 1)) ∧ Mod (fun k => (Value.slice a n c).ownBlock = some k) w w' := by
  obtain ⟨iA, hiA, hzA, hsA, hbA⟩ := info_parts Nt.infoI
  replace hm : m + 1 ≤ n ∧ n ≤ m + 1 := ⟨Nat.le_of_eq hm.symm, Nat.le_of_eq hm⟩
  obtain ⟨g, c2, hab, hlo, hlt⟩ := own_block ho (by omega)
  cases hab
  have hcap : n ≤ c := by obtain ⟨_, h | ⟨g2, cap, cur, he, _, _, hc1, _⟩⟩ := ho; exact absurd h.1 (by simp); cases he; exact hc1
  have hxs : xs.length = n * 1 := ho.1
  have z0 : ((i : Int) == (i : Int) + 1) = false := by rw [beq_eq_false_iff_ne]; omega
  have hrd0 := ((Rd.ofOwn ho).drop (show i + 1 ≤ n by omega)).keep (Mod.drew (fun _ => False) w) (fun _ _ e => e)
  rw [show n - (i + 1) = m - i by omega] at hrd0
  have ho0 := Own.keep (own_narrowS ho (m := i) (by omega)) (Mod.drew (fun _ => False) w) (fun _ _ e => e)
  obtain ⟨w2, hrun, hA⟩ := run_append_here (P := Try.prog) w.drew 56 3 3 iA (.int .i64 0) 1 8 Try.underlying56 hiA hzA hsA hbA rfl (by decide) g i c _ ho0 _ (m - i) _ hrd0 (fun u hu => h1c u (List.mem_of_mem_drop hu)) (by omega) (by omega)
  rw [show i + (m - i) = m by omega] at hrun hA
  obtain ⟨v3, hv3⟩ := run_cut3S (P := Try.prog) w 56 3 iA Try.underlying56 hiA (some ⟨g, 0, none⟩) n c i (i + 1) (by omega) (by omega) hcap
  rw [show ((i + 1 : Nat) : Int) = (i : Int) + 1 by omega] at hv3
  have htk := fun wx => run_takeS (P := Try.prog) wx 56 3 iA Try.underlying56 hiA (some ⟨g, 0, none⟩) n c i (by omega)
  have hdr := fun wx => run_dropS (P := Try.prog) wx 56 3 iA 1 Try.underlying56 hiA hsA (some ⟨g, 0, none⟩) n c (i + 1) (by omega)
  rw [show n - (i + 1) = m - i by omega, show ((i + 1 : Nat) : Int) = (i : Int) + 1 by omega] at hdr
  have hc2 := fun wx => run_cut2S (P := Try.prog) wx 56 3 iA 1 Try.underlying56 hiA hsA (some ⟨g, 0, none⟩) m c m n (by omega) hcap
  have hnm : n - m = 1 := by omega
  have hdA : dropA (some ⟨g, 0, none⟩) c m 1 = some ⟨g, m * 1, none⟩ := by unfold dropA; rw [if_neg (by omega)]; show some (Addr.add _ _) = _; rw [Addr.add_lit, Nat.zero_add]
  rw [hnm, hdA] at hc2
  have hzv : ∀ w : World, (zeroValue 3).run Try.prog w = .ok (.int .i64 0) w := fun w => by kernel_rfl
  obtain ⟨hcl, hcl2⟩ := run_clear_one (P := Try.prog) w2 56 3 (.int .i64 0) [.int .i64 0] 1 Try.underlying56 hzv (by kernel_rfl) rfl (by intro u hu; simp at hu; rw [hu]; rfl) 0 g m c (c - m) _ hA.own (by omega)
  have HRUN := Lib.hid hrun
  have HA := Lib.hid hA
  have HCL2 := Lib.hid hcl2
  simp only [Nat.mul_one] at hcl hc2 HCL2
  clear hrun hA hrd0 ho0 ho hzv h1c hdA hxs hnm hcl2
  go_enter Try.func60, Try.ntmps60
  go_wp2_with fail
  go_region_law (refine step_append_here rfl (.tmp 22) (.tmp 25) 56 rfl (.slice (some ⟨g, 0, none⟩) i c) (.slice (dropA (some ⟨g, 0, none⟩) c (i + 1) 1) (m - i) (c - (i + 1))) (by simp [Act.eval, Act.put]) (by simp [Act.eval, Act.put]) _ _ HRUN.out ?_)
  all_goals
    go_wp2_with fail
    go_ret
    refine ⟨rfl, by simpa only [Nat.mul_one] using HCL2.out, ?_⟩
    exact ((Mod.drew (fun _ => False) w).trans (HA.out.mod.trans (setCells_mod _ _ _) (H := fun k => k = g) (fun k _ e => (Option.some.inj e).symm) (fun _ _ e => e)) (H := fun k => k = g) (fun _ _ e => e.elim) (fun _ _ e => e)).mono (fun k _ e => by rw [e]; rfl)
end Go.Proofs.Ytnklgeekjkchbaa
