/- The document's own Node, Edge, Banned (milepostref4), by contract. -/
import Derived.Test.YtbjdjafkpldbnaaKGr
import Derived.Deep.QuietTactic
import Derived.BigQuiet
namespace Go.Proofs.Ytbjdjafkpldbnaa
open Go.RowKit Mile
set_option maxRecDepth 100000

theorem r4within_any (n a b : Int) (w : World) : Calls Try.prog 34 #[.int .i64 n, .int .i64 a, .int .i64 b] w fun e w' => e = .returned (.bool (decide (a ≤ n ∧ n ≤ b))) ∧ w = w' := by
  by_cases h1 : a ≤ n <;> by_cases h2 : n ≤ b <;>
  · go_enter Try.func34, Try.ntmps34
    go_wp2
    go_ret
    exact ⟨by simp [h1, h2], rfl⟩
theorem r4edge_any (G : GD) (w : World) (a1 : Option Addr) (n1 u1 : Nat) (a2 : Option Addr) (n2 u2 : Nat) (a3 : Option Addr) (n3 u3 : Nat) (h : GV w a1 n1 u1 a2 n2 u2 a3 n3 u3 G) (q : n2 ≤ 100000) (v : Int) :
    Calls Try.prog 17 #[.agg #[.slice a1 n1 u1, .slice a2 n2 u2, .slice a3 n3 u3], .int .i64 v] w fun e w' => e = .returned (.bool (decide (0 ≤ v ∧ v < G.E.length))) ∧ Mod (fun _ => False) w w' := by
  have hd : decide (0 ≤ v ∧ v < (G.E.length : Int)) = decide (0 ≤ v ∧ v ≤ (n2 : Int) - 1) := by rw [h.e]; exact decide_eq_decide.2 (by omega)
  rw [hd]
  clear hd
  obtain ⟨r, hr⟩ : ∃ r, decide (0 ≤ v ∧ v ≤ (n2 : Int) - 1) = r := ⟨_, rfl⟩
  have HR := Lib.hid hr
  rw [hr]
  clear hr
  go_enter Try.func17, Try.ntmps17
  go_wp2_with (go_at_call 34; refine (r4within_any _ _ _ _).mono ?_; rintro e w' ⟨rfl, rfl⟩; rw [HR.out])
  go_ret
  exact ⟨rfl, Mod.alloc _ _ _⟩
set_option maxHeartbeats 4000000 in
theorem r4banned_any (G : GD) (w : World) (a1 : Option Addr) (n1 u1 : Nat) (a2 : Option Addr) (n2 u2 : Nat) (a3 : Option Addr) (n3 u3 : Nat) (h : GV w a1 n1 u1 a2 n2 u2 a3 n3 u3 G) (q3 : n3 ≤ 100000) (va vb : Int) :
    Calls Try.prog 57 #[.agg #[.slice a1 n1 u1, .slice a2 n2 u2, .slice a3 n3 u3], .int .i64 va, .int .i64 vb] w fun e w' => e = .returned (.bool (decide ((va, vb) ∈ G.B))) ∧ Mod (fun _ => False) w w' := by
  obtain ⟨iB, hiB, hzB, hsB, hbB⟩ := info_parts GR.infoB
  obtain ⟨_, _, g3, _, _, r3⟩ := h
  have H3 := Lib.hid g3
  clear g3
  obtain ⟨res, hres⟩ : ∃ r, decide ((va, vb) ∈ G.B) = r := ⟨_, rfl⟩
  rw [hres]
  have HRES := Lib.hid hres
  clear hres
  go_enter Try.func57, Try.ntmps57
  go_wp2_with fail
  have hM0 := Mod.alloc (fun _ => False) w (.cells #[.slice a1 n1 u1, .slice a2 n2 u2, .slice a3 n3 u3] 28)
  have hp1 : Blk (w.alloc (.cells #[.slice a1 n1 u1, .slice a2 n2 u2, .slice a3 n3 u3] 28)) w.heap.size 28 [.slice a1 n1 u1, .slice a2 n2 u2, .slice a3 n3 u3] := Blk.new w 28 [.slice a1 n1 u1, .slice a2 n2 u2, .slice a3 n3 u3]
  obtain ⟨p, hp⟩ : ∃ p, w.heap.size = p := ⟨_, rfl⟩
  obtain ⟨W0, hW0⟩ : ∃ W0, w.alloc (.cells #[.slice a1 n1 u1, .slice a2 n2 u2, .slice a3 n3 u3] 28) = W0 := ⟨_, rfl⟩
  rw [hW0, hp] at hp1
  rw [hW0] at hM0
  rw [hW0, hp]
  clear hp hW0
  go_loopw [7] (fun i wr => ∃ j : Nat, j ≤ n3 ∧ i = .int .i64 j ∧ wr = W0 ∧ ∀ t (ht : t < G.B.length), t < j → G.B[t] ≠ (va, vb)) (fun i _ => n3 - (intOf i).toNat)
  case atStart => exact ⟨0, by omega, rfl, rfl, fun t _ h => by omega⟩
  case round =>
    obtain ⟨j, hj, rfl, rfl, hall⟩ := hrel
    have HA := Lib.hid hall
    clear hall
    have c0 := hp1.cell 0 rfl
    have c1 := hp1.cell 1 rfl
    have c2 := hp1.cell 2 rfl
    by_cases hlt : j < n3
    · have hjl : j < G.B.length := by rw [H3.out]; exact hlt
      obtain ⟨b, o, hpl, e1, e2⟩ := rd2 (r3.keepA hM0 (fun _ _ e => e.elim)) j hjl
      have hix := fun wx => run_indexS (P := Try.prog) wx 26 81 iB 2 Try.underlying26 hiB hsB a3 n3 u3 j hlt (r3.some_ (by omega))
      rw [hpl] at hix
      obtain ⟨X, hX⟩ : ∃ X, G.B[j] = X := ⟨_, rfl⟩
      rw [hX] at e1 e2
      have HX := Lib.hid hX
      clear hX hpl
      obtain ⟨x, y⟩ := X
      simp only at e1 e2
      by_cases h1 : x = va
      · subst h1
        by_cases h2 : y = vb
        · subst h2
          have hr : res = true := by rw [← HRES.out]; exact decide_eq_true (by rw [← HX.out]; exact List.getElem_mem hjl)
          subst hr
          go_wp2_with fail
          go_ret
          exact ⟨rfl, hM0⟩
        · have g1 : (y == vb) = false := by rw [beq_eq_false_iff_ne]; exact h2
          have H22 := Lib.hid h2
          clear h2
          go_wp2_with fail
          go_roundw
          case rel =>
            refine ⟨j + 1, hlt, by go_num, by first | rfl | trivial, fun t ht htj => ?_⟩
            by_cases e : t = j
            · subst e; rw [HX.out]; exact fun h => H22.out (congrArg Prod.snd h)
            · exact HA.out t ht (by omega)
          case measure => simp [intOf]; omega
      · have g1 : (x == va) = false := by rw [beq_eq_false_iff_ne]; exact h1
        have H22 := Lib.hid h1
        clear h1
        go_wp2_with fail
        go_roundw
        case rel =>
          refine ⟨j + 1, hlt, by go_num, by first | rfl | trivial, fun t ht htj => ?_⟩
          by_cases e : t = j
          · subst e; rw [HX.out]; exact fun h => H22.out (congrArg Prod.fst h)
          · exact HA.out t ht (by omega)
        case measure => simp [intOf]; omega
    · obtain rfl : j = n3 := by omega
      have hr : res = false := by
        rw [← HRES.out]
        refine decide_eq_false fun hm => ?_
        obtain ⟨t, ht, e⟩ := List.getElem_of_mem hm
        exact HA.out t ht (by rw [← H3.out]; exact ht) e
      subst hr
      go_wp2_with fail
      go_ret
      exact ⟨rfl, hM0⟩
end Go.Proofs.Ytbjdjafkpldbnaa
