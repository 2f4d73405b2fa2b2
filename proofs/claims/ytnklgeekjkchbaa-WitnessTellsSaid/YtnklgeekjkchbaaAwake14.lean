/- Distances checked by program; law 14's awake. -/
import Derived.Test.YtnklgeekjkchbaaKMd
import Derived.Test.YtnklgeekjkchbaaWit4
namespace Go.Proofs.Ytnklgeekjkchbaa
open Go.RowKit Mile
set_option maxRecDepth 100000
def fixB (n : Nat) (L : List Ar) (fr wo : Int) (d : List Int) : Bool :=
  decide (d.length = n) && d.all (fun x => decide (-1 ≤ x)) && (List.range n).all (fun e => decide (¬ ((e : Int) = fr ∧ fr ≠ wo) ∨ dAt d e = 0)) &&
  (List.range n).all (fun e => decide (dAt d e < 0 ∨ ((e : Int) = fr ∧ fr ≠ wo ∧ dAt d e = 0)) || L.any (fun a => decide (a.t = e ∧ a.t ≠ wo ∧ 0 ≤ dAt d a.f.toNat ∧ dAt d e = dAt d a.f.toNat + a.w))) &&
  L.all (fun a => decide (a.t = wo ∨ dAt d a.f.toNat < 0 ∨ (0 ≤ dAt d a.t.toNat ∧ dAt d a.t.toNat ≤ dAt d a.f.toNat + a.w)))
theorem fix_of {n : Nat} {L : List Ar} {fr wo : Int} {d : List Int} (hok : NetOk n L) (hw : ∀ a ∈ L, a.w ≤ 65535) (h : fixB n L fr wo d = true) : Fix (netW n L fr wo) d := by
  unfold fixB at h
  simp only [Bool.and_eq_true, Bool.or_eq_true, List.all_eq_true, List.any_eq_true, decide_eq_true_eq, List.mem_range] at h
  obtain ⟨⟨⟨⟨h1, h2⟩, h3⟩, h4⟩, h5⟩ := h
  refine ⟨h1, fun e => ?_, fun e he hm => ?_, fun e h0 => ?_, fun e b hr hb => ?_⟩
  · by_cases he : e < d.length
    · rw [dAt_eq d e he]; exact h2 _ (List.getElem_mem he)
    · rw [dAt_out d e (by omega)]; omega
  · exact (h3 e hm).elim (fun x => absurd he x) id
  · have he : e < n := by rw [← h1]; exact dAt_in h0
    rcases h4 e he with (h6 | h6) | ⟨a, ha, h6, h7, h8, h9⟩
    · omega
    · exact .inl ⟨⟨h6.1, h6.2.1⟩, h6.2.2⟩
    · have hm := hok.may a ha
      unfold mayA at hm
      have hf : a.f = (a.f.toNat : Nat) := by omega
      exact .inr ⟨a.f.toNat, netW_rl hok hw ha h6 hf h7, h8, by rw [netW_wt hok.sort ha h6 hf]; exact h9⟩
  · obtain ⟨a, ha, ht, hf, hwo, hwt⟩ := netW_inv hr
    rw [hwt]
    have e1 : a.f.toNat = b := by omega
    have e2 : a.t.toNat = e := by omega
    rcases h5 a ha with h6 | h6 | h6
    · exact absurd h6 hwo
    · rw [e1] at h6; omega
    · rw [e1, e2] at h6; exact h6
theorem aw14_l : putAllN (arcsR ((4 : Nat) : Int) [(0, 1, 0), (1, 2, 0), (0, 3, 4), (3, 2, 4)]) = [⟨0, 1, 1, -1⟩, ⟨0, 3, 5, -1⟩, ⟨1, 2, 1, -1⟩, ⟨3, 2, 5, -1⟩] := by kernel_rfl
theorem aw14_w : ∀ a ∈ ([⟨0, 1, 1, -1⟩, ⟨0, 3, 5, -1⟩, ⟨1, 2, 1, -1⟩, ⟨3, 2, 5, -1⟩] : List Ar), a.w ≤ 65535 := by decide
theorem aw14_f0 : fixB 4 [⟨0, 1, 1, -1⟩, ⟨0, 3, 5, -1⟩, ⟨1, 2, 1, -1⟩, ⟨3, 2, 5, -1⟩] 0 (-1) [0, 1, 2, 5] = true := by decide
theorem aw14_f2 : fixB 4 [⟨0, 1, 1, -1⟩, ⟨0, 3, 5, -1⟩, ⟨1, 2, 1, -1⟩, ⟨3, 2, 5, -1⟩] 2 (-1) [-1, -1, 0, -1] = true := by decide
theorem aw14_f1 : fixB 4 [⟨0, 1, 1, -1⟩, ⟨0, 3, 5, -1⟩, ⟨1, 2, 1, -1⟩, ⟨3, 2, 5, -1⟩] 0 1 [0, -1, 10, 5] = true := by decide
theorem aw14_a : foundB [0, -1, 10, 5] 2 10 30 = true := by decide
theorem aw14_b : foundB [0, -1, 10, 5] 2 9 30 = false := by decide
theorem aw14_c : foundB [0, -1, 10, 5] 2 10 2 = false := by decide
theorem aw14_d : foundB [0, -1, 10, 5] 0 0 1 = true := by decide
set_option maxHeartbeats 16000000 in
theorem awake14_any (w : World) : Calls Try.prog 30 #[] w fun e w' => e = .returned (.bool true) ∧ Mod (fun _ => False) w w' := by
  have HMD := Lib.hid (fun W a c hr => made14_any W 4 (by omega) a 4 c [(0, 1, 0), (1, 2, 0), (0, 3, 4), (3, 2, 4)] rfl hr (by omega))
  go_enter Try.func30, Try.ntmps30
  go_wp2_with fail
  refine (HMD.out _ _ 4 (by exact Rd.litN 83 3 [.int .i64 0, .int .i64 1, .int .i64 0, .int .i64 1, .int .i64 2, .int .i64 0, .int .i64 0, .int .i64 3, .int .i64 4, .int .i64 3, .int .i64 2, .int .i64 4] (0, 0) _ 4 (by first | rfl | simp) rfl (by decide))).mono ?_
  rintro e w1 ⟨q, F, m, rfl, hnt, _, _, _, hm⟩
  rw [aw14_l] at hnt
  have hm1 : Mod (fun _ => False) w w1 := (Mod.alloc _ _ _).of2 hm
  have HN := Lib.hid hnt
  have HM1 := Lib.hid hm1
  clear hnt hm hm1
  go_wp2_with fail
  refine (wfar HN.out aw14_w 0 2 [0, 1, 2, 5] (fix_of HN.out.ok aw14_w aw14_f0)).mono ?_
  rintro e w2 ⟨rfl, hm⟩
  rw [show (if (0 : Int) ≤ 2 ∧ 0 ≤ dAt [0, 1, 2, 5] (2 : Int).toNat then dAt [0, 1, 2, 5] (2 : Int).toNat else 0) = 2 by decide, show decide ((0 : Int) ≤ 2 ∧ 0 ≤ dAt [0, 1, 2, 5] (2 : Int).toNat) = true by decide]
  have HM2 := Lib.hid hm
  clear hm
  go_wp2_with fail
  refine (wfar (HN.out.later HM2.out) aw14_w 2 0 [-1, -1, 0, -1] (fix_of HN.out.ok aw14_w aw14_f2)).mono ?_
  rintro e w3 ⟨rfl, hm⟩
  rw [show (if (0 : Int) ≤ 0 ∧ 0 ≤ dAt [-1, -1, 0, -1] (0 : Int).toNat then dAt [-1, -1, 0, -1] (0 : Int).toNat else 0) = 0 by decide, show decide ((0 : Int) ≤ 0 ∧ 0 ≤ dAt [-1, -1, 0, -1] (0 : Int).toNat) = false by decide]
  have HM3 := Lib.hid (HM2.out.of2 hm)
  clear hm HM2
  go_wp2_with fail
  refine (wfind (HN.out.later HM3.out) aw14_w 0 2 1 10 30 [0, -1, 10, 5] (fix_of HN.out.ok aw14_w aw14_f1)).mono ?_
  rintro e w4 ⟨rfl, hm⟩
  rw [aw14_a]
  have HM4 := Lib.hid (HM3.out.of2 hm)
  clear hm HM3
  go_wp2_with fail
  refine (wfind (HN.out.later HM4.out) aw14_w 0 2 1 9 30 [0, -1, 10, 5] (fix_of HN.out.ok aw14_w aw14_f1)).mono ?_
  rintro e w5 ⟨rfl, hm⟩
  rw [aw14_b]
  have HM5 := Lib.hid (HM4.out.of2 hm)
  clear hm HM4
  go_wp2_with fail
  refine (wfind (HN.out.later HM5.out) aw14_w 0 2 1 10 2 [0, -1, 10, 5] (fix_of HN.out.ok aw14_w aw14_f1)).mono ?_
  rintro e w6 ⟨rfl, hm⟩
  rw [aw14_c]
  have HM6 := Lib.hid (HM5.out.of2 hm)
  clear hm HM5
  go_wp2_with fail
  refine (wfind (HN.out.later HM6.out) aw14_w 0 0 1 0 1 [0, -1, 10, 5] (fix_of HN.out.ok aw14_w aw14_f1)).mono ?_
  rintro e w7 ⟨rfl, hm⟩
  rw [aw14_d]
  have HM7 := Lib.hid (HM6.out.of2 hm)
  clear hm HM6
  go_wp2_with fail
  refine (wfind_nil _ 0 0 1 0 1 (by omega)).mono ?_
  rintro e w8 ⟨rfl, hm⟩
  have HM8 := Lib.hid (HM7.out.of2 hm)
  clear hm HM7
  go_wp2_with fail
  go_ret
  exact ⟨rfl, HM1.out.of2 HM8.out⟩
end Go.Proofs.Ytnklgeekjkchbaa
