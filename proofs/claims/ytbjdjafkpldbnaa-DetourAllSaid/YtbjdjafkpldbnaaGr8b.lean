/- Out and In of a graph, by contract. -/
import Derived.Test.YtbjdjafkpldbnaaGr8
import Derived.Test.YtbjdjafkpldbnaaGr6b
namespace Go.Proofs.Ytbjdjafkpldbnaa
open Go.RowKit Mile
set_option maxRecDepth 100000

set_option maxHeartbeats 2000000 in
theorem out_any (p B C : Nat) (w : World) (G : GD) (h : GO w p B C G) (v : Int) :
    Calls Try.prog 68 #[.pointer (some ⟨p, 0, none⟩), .int .i64 v] w (CloneP 3 1 (if 0 ≤ v ∧ v < G.N.length then (idx (G.E.map (·.1)) v).length else 0) ((if 0 ≤ v ∧ v < G.N.length then idx (G.E.map (·.1)) v else []).map (Value.int .i64)) w) := by
  by_cases h1 : 0 ≤ v
  · by_cases h2 : v < G.N.length
    · rw [if_pos ⟨h1, h2⟩, if_pos ⟨h1, h2⟩]
      obtain ⟨k, rfl⟩ := Int.eq_ofNat_of_zero_le h1
      have hk : k < G.N.length := by omega
      have h0 := h
      obtain ⟨⟨a1, n1, d1, a2, n2, d2, a3, n3, d3, a4, n4, d4, a5, n5, d5, a6, n6, d6, a7, n7, d7, hb, hv, ho, _⟩, _, hmay, _⟩ := h
      obtain ⟨es, fs, he, hf, hm, hn, hre, hrf, hall⟩ := ho
      obtain ⟨lo, hi, hlo, hhi, hle, hin, hrow⟩ := hall k hk
      have c3 := hb.cell 3 rfl
      have c4 := hb.cell 4 rfl
      have hlen : (idx (G.E.map (·.1)) (k : Int)).length = hi - lo := by rw [← hrow, List.length_drop, List.length_take, he]; omega
      have hn4 : n4 ≤ 1000000 := by rw [hn, List.length_map]; have := hmay.1.2.1; omega
      rw [hlen, ← hrow]
      have R := row_any (w := w) a4 n4 d4 es he hre a5 n5 d5 fs hf hrf hn4 k lo hi (by omega) hlo hhi hle hin
      have HR := Lib.hid R
      have d2 : decide ((G.N.length : Int) ≤ (k : Int)) = false := by simp; omega
      have d3 : decide (G.N.length ≤ k) = false := by simp; omega
      clear R hb hv hre hrf hall hlo hhi hrow hlen hmay hn he hf hm
      have H0 := Lib.hid h0
      clear h0
      go_enter Try.func68, Try.ntmps68
      go_wp2_with fail
      refine (nodes_any p B C _ G H0.out).mono ?_
      rintro e w' ⟨rfl, rfl⟩
      go_wp2_with fail
      refine HR.out.mono ?_
      rintro e w1 ⟨ax, cx, rfl, hox, hmx⟩
      have HOX := Lib.hid hox
      have HMX := Lib.hid hmx
      clear hox hmx HR H0 d2 d3
      go_wp2_with fail
      go_ret
      exact ⟨ax, cx, rfl, HOX.out, HMX.out⟩
    · have hne : ¬ (0 ≤ v ∧ v < G.N.length) := by omega
      rw [if_neg hne, if_neg hne]
      clear hne
      have d2 : decide ((G.N.length : Int) ≤ v) = true := by simp; omega
      go_enter Try.func68, Try.ntmps68
      go_wp2_with fail
      refine (nodes_any p B C _ G h).mono ?_
      rintro e w' ⟨rfl, rfl⟩
      go_wp2_with fail
      go_ret
      exact ⟨none, 0, rfl, World.ownsRow_nil _ _ _ _, Mod.refl _ _⟩
  · have hne : ¬ (0 ≤ v ∧ v < G.N.length) := by omega
    rw [if_neg hne, if_neg hne]
    clear hne
    go_enter Try.func68, Try.ntmps68
    go_wp2_with fail
    go_ret
    exact ⟨none, 0, rfl, World.ownsRow_nil _ _ _ _, Mod.refl _ _⟩
set_option maxHeartbeats 2000000 in
theorem in_any (p B C : Nat) (w : World) (G : GD) (h : GO w p B C G) (v : Int) :
    Calls Try.prog 26 #[.pointer (some ⟨p, 0, none⟩), .int .i64 v] w (CloneP 3 1 (if 0 ≤ v ∧ v < G.N.length then (idx (G.E.map (·.2.1)) v).length else 0) ((if 0 ≤ v ∧ v < G.N.length then idx (G.E.map (·.2.1)) v else []).map (Value.int .i64)) w) := by
  by_cases h1 : 0 ≤ v
  · by_cases h2 : v < G.N.length
    · rw [if_pos ⟨h1, h2⟩, if_pos ⟨h1, h2⟩]
      obtain ⟨k, rfl⟩ := Int.eq_ofNat_of_zero_le h1
      have hk : k < G.N.length := by omega
      have h0 := h
      obtain ⟨⟨a1, n1, d1, a2, n2, d2, a3, n3, d3, a4, n4, d4, a5, n5, d5, a6, n6, d6, a7, n7, d7, hb, hv, _, ho, _⟩, _, hmay, _⟩ := h
      obtain ⟨es, fs, he, hf, hm, hn, hre, hrf, hall⟩ := ho
      obtain ⟨lo, hi, hlo, hhi, hle, hin, hrow⟩ := hall k hk
      have c3 := hb.cell 5 rfl
      have c4 := hb.cell 6 rfl
      have hlen : (idx (G.E.map (·.2.1)) (k : Int)).length = hi - lo := by rw [← hrow, List.length_drop, List.length_take, he]; omega
      have hn4 : n6 ≤ 1000000 := by rw [hn, List.length_map]; have := hmay.1.2.1; omega
      rw [hlen, ← hrow]
      have R := row_any (w := w) a6 n6 d6 es he hre a7 n7 d7 fs hf hrf hn4 k lo hi (by omega) hlo hhi hle hin
      have HR := Lib.hid R
      have d2 : decide ((G.N.length : Int) ≤ (k : Int)) = false := by simp; omega
      have d3 : decide (G.N.length ≤ k) = false := by simp; omega
      clear R hb hv hre hrf hall hlo hhi hrow hlen hmay hn he hf hm
      have H0 := Lib.hid h0
      clear h0
      go_enter Try.func26, Try.ntmps26
      go_wp2_with fail
      refine (nodes_any p B C _ G H0.out).mono ?_
      rintro e w' ⟨rfl, rfl⟩
      go_wp2_with fail
      refine HR.out.mono ?_
      rintro e w1 ⟨ax, cx, rfl, hox, hmx⟩
      have HOX := Lib.hid hox
      have HMX := Lib.hid hmx
      clear hox hmx HR H0 d2 d3
      go_wp2_with fail
      go_ret
      exact ⟨ax, cx, rfl, HOX.out, HMX.out⟩
    · have hne : ¬ (0 ≤ v ∧ v < G.N.length) := by omega
      rw [if_neg hne, if_neg hne]
      clear hne
      have d2 : decide ((G.N.length : Int) ≤ v) = true := by simp; omega
      go_enter Try.func26, Try.ntmps26
      go_wp2_with fail
      refine (nodes_any p B C _ G h).mono ?_
      rintro e w' ⟨rfl, rfl⟩
      go_wp2_with fail
      go_ret
      exact ⟨none, 0, rfl, World.ownsRow_nil _ _ _ _, Mod.refl _ _⟩
  · have hne : ¬ (0 ≤ v ∧ v < G.N.length) := by omega
    rw [if_neg hne, if_neg hne]
    clear hne
    go_enter Try.func26, Try.ntmps26
    go_wp2_with fail
    go_ret
    exact ⟨none, 0, rfl, World.ownsRow_nil _ _ _ _, Mod.refl _ _⟩

end Go.Proofs.Ytbjdjafkpldbnaa
