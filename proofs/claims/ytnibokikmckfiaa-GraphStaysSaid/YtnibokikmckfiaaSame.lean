/- The document's own look at whether two graphs are one: of two that read alike. -/
import Derived.Test.YtnibokikmckfiaaGr3
namespace Go.Proofs.Ytnibokikmckfiaa
open Go.RowKit Mile

set_option maxHeartbeats 4000000 in
theorem same_any (G : GD) (w : World) (a1 : Option Addr) (n1 u1 : Nat) (a2 : Option Addr) (n2 u2 : Nat) (a3 : Option Addr) (n3 u3 : Nat) (h : GV w a1 n1 u1 a2 n2 u2 a3 n3 u3 G)
    (b1 : Option Addr) (v1 : Nat) (b2 : Option Addr) (v2 : Nat) (b3 : Option Addr) (v3 : Nat) (k : GV w b1 n1 v1 b2 n2 v2 b3 n3 v3 G) (q1 : n1 ≤ 100000) (q2 : n2 ≤ 100000) (q3 : n3 ≤ 100000) :
    Calls Try.prog 14 #[.agg #[.slice a1 n1 u1, .slice a2 n2 u2, .slice a3 n3 u3], .agg #[.slice b1 n1 v1, .slice b2 n2 v2, .slice b3 n3 v3]] w fun e w' => e = .returned (.bool true) ∧ Mod (fun _ => False) w w' := by
  obtain ⟨iN, hiN, hzN, hsN, hbN⟩ := info_parts GR.infoN
  obtain ⟨iE, hiE, hzE, hsE, hbE⟩ := info_parts GR.infoE
  obtain ⟨iB, hiB, hzB, hsB, hbB⟩ := info_parts GR.infoB
  obtain ⟨g1, g2, g3, r1, r2, r3⟩ := h
  obtain ⟨_, _, _, s1, s2, s3⟩ := k
  have H1 := Lib.hid g1
  have H2 := Lib.hid g2
  have H3 := Lib.hid g3
  clear g1 g2 g3
  go_enter Try.func14, Try.ntmps14
  go_wp2_with fail
  have hM0 : Mod (fun _ => False) w ((w.alloc (.cells #[.slice a1 n1 u1, .slice a2 n2 u2, .slice a3 n3 u3] 26)).alloc (.cells #[.slice b1 n1 v1, .slice b2 n2 v2, .slice b3 n3 v3] 26)) := ((Mod.refl _ w).thenAlloc _).thenAlloc _
  have hp1 : Blk ((w.alloc (.cells #[.slice a1 n1 u1, .slice a2 n2 u2, .slice a3 n3 u3] 26)).alloc (.cells #[.slice b1 n1 v1, .slice b2 n2 v2, .slice b3 n3 v3] 26)) w.heap.size 26 [.slice a1 n1 u1, .slice a2 n2 u2, .slice a3 n3 u3] := (Blk.new w 26 [.slice a1 n1 u1, .slice a2 n2 u2, .slice a3 n3 u3]).alloc _
  have hp2 : Blk ((w.alloc (.cells #[.slice a1 n1 u1, .slice a2 n2 u2, .slice a3 n3 u3] 26)).alloc (.cells #[.slice b1 n1 v1, .slice b2 n2 v2, .slice b3 n3 v3] 26)) (w.heap.size + 1) 26 [.slice b1 n1 v1, .slice b2 n2 v2, .slice b3 n3 v3] := by
    have := Blk.new (w.alloc (.cells #[.slice a1 n1 u1, .slice a2 n2 u2, .slice a3 n3 u3] 26)) 26 [.slice b1 n1 v1, .slice b2 n2 v2, .slice b3 n3 v3]
    rw [show (w.alloc (.cells #[.slice a1 n1 u1, .slice a2 n2 u2, .slice a3 n3 u3] 26)).heap.size = w.heap.size + 1 by simp] at this
    exact this
  obtain ⟨p, hp⟩ : ∃ p, w.heap.size = p := ⟨_, rfl⟩
  obtain ⟨q, hq⟩ : ∃ q, p + 1 = q := ⟨_, rfl⟩
  rw [hp] at hp1 hp2
  rw [hq] at hp2
  rw [hp, hq]
  obtain ⟨W0, hW0⟩ : ∃ W0, (w.alloc (.cells #[.slice a1 n1 u1, .slice a2 n2 u2, .slice a3 n3 u3] 26)).alloc (.cells #[.slice b1 n1 v1, .slice b2 n2 v2, .slice b3 n3 v3] 26) = W0 := ⟨_, rfl⟩
  rw [hW0] at hp1 hp2 hM0 ⊢
  have HC : Hid (∀ W, Mod (fun _ => False) W0 W → W.cell? ⟨p, 0, none⟩ = some (.slice a1 n1 u1) ∧ W.cell? ⟨p, 1, none⟩ = some (.slice a2 n2 u2) ∧ W.cell? ⟨p, 2, none⟩ = some (.slice a3 n3 u3) ∧ W.cell? ⟨q, 0, none⟩ = some (.slice b1 n1 v1) ∧ W.cell? ⟨q, 1, none⟩ = some (.slice b2 n2 v2) ∧ W.cell? ⟨q, 2, none⟩ = some (.slice b3 n3 v3)) := Lib.hid fun W hm => by
    have h1 := hp1.keep hm (fun e => e)
    have h2 := hp2.keep hm (fun e => e)
    exact ⟨h1.cell 0 rfl, h1.cell 1 rfl, h1.cell 2 rfl, h2.cell 0 rfl, h2.cell 1 rfl, h2.cell 2 rfl⟩
  clear hp1 hp2 hp hq hW0
  go_loopw [5] (fun i wr => ∃ j : Nat, j ≤ n1 ∧ i = .int .i64 j ∧ Mod (fun _ => False) W0 wr) (fun i _ => n1 - (intOf i).toNat)
  case atStart => exact ⟨0, by omega, rfl, Mod.refl _ _⟩
  case round =>
    obtain ⟨j, hj, rfl, hM⟩ := hrel
    obtain ⟨c0, c1, c2, d0, d1, d2⟩ := HC.out _ hM
    by_cases hlt : j < n1
    · have hjl : j < G.N.length := by rw [H1.out]; exact hlt
      obtain ⟨b, o, hpl, e1, e2⟩ := rd2 (r1.keepA (hM0.trans hM (H := fun _ => False) (fun _ _ e => e) (fun _ _ e => e)) (fun _ _ e => e.elim)) j hjl
      obtain ⟨b', o', hpl', k1, k2⟩ := rd2 (s1.keepA (hM0.trans hM (H := fun _ => False) (fun _ _ e => e) (fun _ _ e => e)) (fun _ _ e => e.elim)) j hjl
      have hix := fun wx => run_indexS (P := Try.prog) wx 22 37 iN 2 Try.underlying22 hiN hsN a1 n1 u1 j hlt (r1.some_ (by omega))
      rw [hpl] at hix
      have hix' := fun wx => run_indexS (P := Try.prog) wx 22 37 iN 2 Try.underlying22 hiN hsN b1 n1 v1 j hlt (s1.some_ (by omega))
      rw [hpl'] at hix'
      obtain ⟨z0, hz0⟩ : ∃ z, G.N[j].1 = z := ⟨_, rfl⟩
      rw [hz0] at e1 k1
      obtain ⟨z1, hz1⟩ : ∃ z, G.N[j].2 = z := ⟨_, rfl⟩
      rw [hz1] at e2 k2
      clear hz0 hz1 hpl hpl'
      go_wp2_with fail
      go_quiet (fail)
      go_wp2_with fail
      go_roundw
      case rel => exact ⟨j + 1, hlt, by go_num, hM.trans (Mod.drewN _ _ _) (fun _ _ e => e) (fun _ _ e => e)⟩
      case measure => simp [intOf]; omega
    · obtain rfl : j = n1 := by omega
      go_wp2_with fail
      go_loopw [6] (fun i wr => ∃ j : Nat, j ≤ n2 ∧ i = .int .i64 j ∧ Mod (fun _ => False) W0 wr) (fun i _ => n2 - (intOf i).toNat)
      case atStart => exact ⟨0, by omega, rfl, hM⟩
      case round =>
        obtain ⟨j, hj, rfl, hM⟩ := hrel
        obtain ⟨c0, c1, c2, d0, d1, d2⟩ := HC.out _ hM
        by_cases hlt : j < n2
        · have hjl : j < G.E.length := by rw [H2.out]; exact hlt
          obtain ⟨b, o, hpl, e1, e2, e3⟩ := rd3 (r2.keepA (hM0.trans hM (H := fun _ => False) (fun _ _ e => e) (fun _ _ e => e)) (fun _ _ e => e.elim)) j hjl
          obtain ⟨b', o', hpl', k1, k2, k3⟩ := rd3 (s2.keepA (hM0.trans hM (H := fun _ => False) (fun _ _ e => e) (fun _ _ e => e)) (fun _ _ e => e.elim)) j hjl
          have hix := fun wx => run_indexS (P := Try.prog) wx 23 41 iE 3 Try.underlying23 hiE hsE a2 n2 u2 j hlt (r2.some_ (by omega))
          rw [hpl] at hix
          have hix' := fun wx => run_indexS (P := Try.prog) wx 23 41 iE 3 Try.underlying23 hiE hsE b2 n2 v2 j hlt (s2.some_ (by omega))
          rw [hpl'] at hix'
          obtain ⟨z0, hz0⟩ : ∃ z, G.E[j].1 = z := ⟨_, rfl⟩
          rw [hz0] at e1 k1
          obtain ⟨z1, hz1⟩ : ∃ z, G.E[j].2.1 = z := ⟨_, rfl⟩
          rw [hz1] at e2 k2
          obtain ⟨z2, hz2⟩ : ∃ z, G.E[j].2.2 = z := ⟨_, rfl⟩
          rw [hz2] at e3 k3
          clear hz0 hz1 hz2 hpl hpl'
          go_wp2_with fail
          go_quiet (fail)
          go_wp2_with fail
          go_roundw
          case rel => exact ⟨j + 1, hlt, by go_num, hM.trans (Mod.drewN _ _ _) (fun _ _ e => e) (fun _ _ e => e)⟩
          case measure => simp [intOf]; omega
        · obtain rfl : j = n2 := by omega
          go_wp2_with fail
          go_loopw [7] (fun i wr => ∃ j : Nat, j ≤ n3 ∧ i = .int .i64 j ∧ Mod (fun _ => False) W0 wr) (fun i _ => n3 - (intOf i).toNat)
          case atStart => exact ⟨0, by omega, rfl, hM⟩
          case round =>
            obtain ⟨j, hj, rfl, hM⟩ := hrel
            obtain ⟨c0, c1, c2, d0, d1, d2⟩ := HC.out _ hM
            by_cases hlt : j < n3
            · have hjl : j < G.B.length := by rw [H3.out]; exact hlt
              obtain ⟨b, o, hpl, e1, e2⟩ := rd2 (r3.keepA (hM0.trans hM (H := fun _ => False) (fun _ _ e => e) (fun _ _ e => e)) (fun _ _ e => e.elim)) j hjl
              obtain ⟨b', o', hpl', k1, k2⟩ := rd2 (s3.keepA (hM0.trans hM (H := fun _ => False) (fun _ _ e => e) (fun _ _ e => e)) (fun _ _ e => e.elim)) j hjl
              have hix := fun wx => run_indexS (P := Try.prog) wx 24 48 iB 2 Try.underlying24 hiB hsB a3 n3 u3 j hlt (r3.some_ (by omega))
              rw [hpl] at hix
              have hix' := fun wx => run_indexS (P := Try.prog) wx 24 48 iB 2 Try.underlying24 hiB hsB b3 n3 v3 j hlt (s3.some_ (by omega))
              rw [hpl'] at hix'
              obtain ⟨z0, hz0⟩ : ∃ z, G.B[j].1 = z := ⟨_, rfl⟩
              rw [hz0] at e1 k1
              obtain ⟨z1, hz1⟩ : ∃ z, G.B[j].2 = z := ⟨_, rfl⟩
              rw [hz1] at e2 k2
              clear hz0 hz1 hpl hpl'
              go_wp2_with fail
              go_quiet (fail)
              go_wp2_with fail
              go_roundw
              case rel => exact ⟨j + 1, hlt, by go_num, hM.trans (Mod.drewN _ _ _) (fun _ _ e => e) (fun _ _ e => e)⟩
              case measure => simp [intOf]; omega
            · obtain rfl : j = n3 := by omega
              go_wp2_with fail
              go_ret
              exact ⟨rfl, hM0.trans hM (fun _ _ e => e) (fun _ _ e => e)⟩
end Go.Proofs.Ytnibokikmckfiaa
