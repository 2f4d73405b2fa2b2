/- The document's own look at whether two graphs are one: of any two. -/
import Derived.Test.YtdccpikddhpleaaGr3
namespace Go.Proofs.Ytdccpikddhpleaa
open Go.RowKit Mile
set_option maxRecDepth 100000
def SameTo {α : Type} (A B : List α) (j : Nat) : Prop := A.take j = B.take j
theorem SameTo.zero {α : Type} (A B : List α) : SameTo A B 0 := by simp [SameTo]
theorem SameTo.succ {α : Type} {A B : List α} {j : Nat} (h : SameTo A B j) (ha : j < A.length) (hb : j < B.length) (e : A[j] = B[j]) : SameTo A B (j + 1) := by
  unfold SameTo at h ⊢
  rw [List.take_succ_eq_append_getElem ha, List.take_succ_eq_append_getElem hb, h, e]
theorem SameTo.all {α : Type} {A B : List α} {j : Nat} (h : SameTo A B j) (ha : A.length = j) (hb : B.length = j) : A = B := by
  unfold SameTo at h
  rw [List.take_of_length_le (by omega), List.take_of_length_le (by omega)] at h; exact h
theorem not_same {G H : GD} {r : Bool} (hr : r = true ↔ G = H) (h : ¬ G = H) : r = false := by
  cases r with
  | false => rfl
  | true => exact absurd (hr.1 rfl) h
set_option maxHeartbeats 8000000 in
theorem same2_any (G H : GD) (r : Bool) (hr : Hid (r = true ↔ G = H)) (w : World) (a1 : Option Addr) (n1 u1 : Nat) (a2 : Option Addr) (n2 u2 : Nat) (a3 : Option Addr) (n3 u3 : Nat) (h : GV w a1 n1 u1 a2 n2 u2 a3 n3 u3 G)
    (b1 : Option Addr) (m1 v1 : Nat) (b2 : Option Addr) (m2 v2 : Nat) (b3 : Option Addr) (m3 v3 : Nat) (k : GV w b1 m1 v1 b2 m2 v2 b3 m3 v3 H) (q1 : n1 ≤ 100000) (q2 : n2 ≤ 100000) (q3 : n3 ≤ 100000) :
    Calls Try.prog 13 #[.agg #[.slice a1 n1 u1, .slice a2 n2 u2, .slice a3 n3 u3], .agg #[.slice b1 m1 v1, .slice b2 m2 v2, .slice b3 m3 v3]] w fun e w' => e = .returned (.bool r) ∧ Mod (fun _ => False) w w' := by
  obtain ⟨iN, hiN, hzN, hsN, hbN⟩ := info_parts GR.infoN
  obtain ⟨iE, hiE, hzE, hsE, hbE⟩ := info_parts GR.infoE
  obtain ⟨iB, hiB, hzB, hsB, hbB⟩ := info_parts GR.infoB
  obtain ⟨g1, g2, g3, r1, r2, r3⟩ := h
  obtain ⟨k1, k2, k3, s1, s2, s3⟩ := k
  have H1 := Lib.hid g1
  have K1 := Lib.hid k1
  have H2 := Lib.hid g2
  have K2 := Lib.hid k2
  have H3 := Lib.hid g3
  have K3 := Lib.hid k3
  clear g1 g2 g3 k1 k2 k3
  by_cases hd1 : n1 = m1
  case neg =>
    have HD := Lib.hid hd1
    have zz : ((n1 : Int) != (m1 : Int)) = true := by simp; omega
    clear hd1
    go_enter Try.func13, Try.ntmps13
    go_wp2_with fail
    go_ret
    exact ⟨by rw [not_same hr.out (fun e => HD.out (by rw [← H1.out, ← K1.out, e]))]; rfl, ((Mod.refl _ w).thenAlloc _).thenAlloc _⟩
  subst hd1
  by_cases hd2 : n2 = m2
  case neg =>
    have HD := Lib.hid hd2
    have zz : ((n2 : Int) != (m2 : Int)) = true := by simp; omega
    clear hd2
    go_enter Try.func13, Try.ntmps13
    go_wp2_with fail
    go_ret
    exact ⟨by rw [not_same hr.out (fun e => HD.out (by rw [← H2.out, ← K2.out, e]))]; rfl, ((Mod.refl _ w).thenAlloc _).thenAlloc _⟩
  subst hd2
  by_cases hd3 : n3 = m3
  case neg =>
    have HD := Lib.hid hd3
    have zz : ((n3 : Int) != (m3 : Int)) = true := by simp; omega
    clear hd3
    go_enter Try.func13, Try.ntmps13
    go_wp2_with fail
    go_ret
    exact ⟨by rw [not_same hr.out (fun e => HD.out (by rw [← H3.out, ← K3.out, e]))]; rfl, ((Mod.refl _ w).thenAlloc _).thenAlloc _⟩
  subst hd3
  go_enter Try.func13, Try.ntmps13
  go_wp2_with fail
  have hM0 : Mod (fun _ => False) w ((w.alloc (.cells #[.slice a1 n1 u1, .slice a2 n2 u2, .slice a3 n3 u3] 26)).alloc (.cells #[.slice b1 n1 v1, .slice b2 n2 v2, .slice b3 n3 v3] 26)) := ((Mod.refl _ w).thenAlloc _).thenAlloc _
  have hp1 : Blk ((w.alloc (.cells #[.slice a1 n1 u1, .slice a2 n2 u2, .slice a3 n3 u3] 26)).alloc (.cells #[.slice b1 n1 v1, .slice b2 n2 v2, .slice b3 n3 v3] 26)) w.heap.size 26 [.slice a1 n1 u1, .slice a2 n2 u2, .slice a3 n3 u3] := (Blk.new w 26 [.slice a1 n1 u1, .slice a2 n2 u2, .slice a3 n3 u3]).alloc _
  have hp2 : Blk ((w.alloc (.cells #[.slice a1 n1 u1, .slice a2 n2 u2, .slice a3 n3 u3] 26)).alloc (.cells #[.slice b1 n1 v1, .slice b2 n2 v2, .slice b3 n3 v3] 26)) (w.heap.size + 1) 26 [.slice b1 n1 v1, .slice b2 n2 v2, .slice b3 n3 v3] := by
    have := Blk.new (w.alloc (.cells #[.slice a1 n1 u1, .slice a2 n2 u2, .slice a3 n3 u3] 26)) 26 [.slice b1 n1 v1, .slice b2 n2 v2, .slice b3 n3 v3]
    rw [show (w.alloc (.cells #[.slice a1 n1 u1, .slice a2 n2 u2, .slice a3 n3 u3] 26)).heap.size = w.heap.size + 1 by simp] at this
    exact this
  obtain ⟨p, hp⟩ : ∃ p, w.heap.size = p := ⟨_, rfl⟩
  obtain ⟨q, hq⟩ : ∃ q, p + 1 = q := ⟨_, rfl⟩
  rw [hp] at hp1 hp2
  rw [hq] at hp2
  rw [hp, hq]
  obtain ⟨W0, hW0⟩ : ∃ W0, (w.alloc (.cells #[.slice a1 n1 u1, .slice a2 n2 u2, .slice a3 n3 u3] 26)).alloc (.cells #[.slice b1 n1 v1, .slice b2 n2 v2, .slice b3 n3 v3] 26) = W0 := ⟨_, rfl⟩
  rw [hW0] at hp1 hp2 hM0 ⊢
  have HC : Hid (∀ W, Mod (fun _ => False) W0 W → W.cell? ⟨p, 0, none⟩ = some (.slice a1 n1 u1) ∧ W.cell? ⟨p, 1, none⟩ = some (.slice a2 n2 u2) ∧ W.cell? ⟨p, 2, none⟩ = some (.slice a3 n3 u3) ∧ W.cell? ⟨q, 0, none⟩ = some (.slice b1 n1 v1) ∧ W.cell? ⟨q, 1, none⟩ = some (.slice b2 n2 v2) ∧ W.cell? ⟨q, 2, none⟩ = some (.slice b3 n3 v3)) := Lib.hid fun W hm => by
    have h1 := hp1.keep hm (fun e => e)
    have h2 := hp2.keep hm (fun e => e)
    exact ⟨h1.cell 0 rfl, h1.cell 1 rfl, h1.cell 2 rfl, h2.cell 0 rfl, h2.cell 1 rfl, h2.cell 2 rfl⟩
  clear hp1 hp2 hp hq hW0
  go_loopw [5] (fun i wr => ∃ j : Nat, j ≤ n1 ∧ i = .int .i64 j ∧ Hid (SameTo G.N H.N j) ∧ Mod (fun _ => False) W0 wr) (fun i _ => n1 - (intOf i).toNat)
  case atStart => exact ⟨0, by omega, rfl, Lib.hid (SameTo.zero _ _), Mod.refl _ _⟩
  case round =>
    obtain ⟨j, hj, rfl, HT, hM⟩ := hrel
    obtain ⟨c0, c1, c2, d0, d1, d2⟩ := HC.out _ hM
    by_cases hlt : j < n1
    case pos =>
      have hjl : j < G.N.length := by rw [H1.out]; exact hlt
      have hjk : j < H.N.length := by rw [K1.out]; exact hlt
      obtain ⟨b, o, hpl, e1, e2⟩ := Mile.rd2 (r1.keepA (hM0.trans hM (H := fun _ => False) (fun _ _ e => e) (fun _ _ e => e)) (fun _ _ e => e.elim)) j hjl
      obtain ⟨b', o', hpl', k1, k2⟩ := Mile.rd2 (s1.keepA (hM0.trans hM (H := fun _ => False) (fun _ _ e => e) (fun _ _ e => e)) (fun _ _ e => e.elim)) j hjk
      have hix := fun wx => run_indexS (P := Try.prog) wx 22 50 iN 2 Try.underlying22 hiN hsN a1 n1 u1 j hlt (r1.some_ (by omega))
      rw [hpl] at hix
      have hix' := fun wx => run_indexS (P := Try.prog) wx 22 50 iN 2 Try.underlying22 hiN hsN b1 n1 v1 j hlt (s1.some_ (by omega))
      rw [hpl'] at hix'
      obtain ⟨z0, hz0⟩ : ∃ z, G.N[j].1 = z := ⟨_, rfl⟩
      rw [hz0] at e1
      obtain ⟨y0, hy0⟩ : ∃ z, H.N[j].1 = z := ⟨_, rfl⟩
      rw [hy0] at k1
      have HZ0 := Lib.hid hz0
      have HY0 := Lib.hid hy0
      clear hz0 hy0
      obtain ⟨z1, hz1⟩ : ∃ z, G.N[j].2 = z := ⟨_, rfl⟩
      rw [hz1] at e2
      obtain ⟨y1, hy1⟩ : ∃ z, H.N[j].2 = z := ⟨_, rfl⟩
      rw [hy1] at k2
      have HZ1 := Lib.hid hz1
      have HY1 := Lib.hid hy1
      clear hz1 hy1
      clear hpl hpl'
      by_cases hq0 : z0 = y0
      case neg =>
        have HD := Lib.hid hq0
        have zz : (z0 == y0) = false := by simpa using hq0
        clear hq0
        go_wp2_with fail
        go_quiet (fail)
        go_wp2_with fail
        go_ret
        exact ⟨by rw [not_same hr.out (fun e => HD.out (by rw [← HZ0.out, ← HY0.out]; simp only [e]))]; rfl, hM0.trans (hM.trans (Mod.drewN _ _ _) (fun _ _ e => e) (fun _ _ e => e)) (fun _ _ e => e) (fun _ _ e => e)⟩
      subst hq0
      by_cases hq1 : z1 = y1
      case neg =>
        have HD := Lib.hid hq1
        have zz : (z1 == y1) = false := by simpa using hq1
        clear hq1
        go_wp2_with fail
        go_quiet (fail)
        go_wp2_with fail
        go_ret
        exact ⟨by rw [not_same hr.out (fun e => HD.out (by rw [← HZ1.out, ← HY1.out]; simp only [e]))]; rfl, hM0.trans (hM.trans (Mod.drewN _ _ _) (fun _ _ e => e) (fun _ _ e => e)) (fun _ _ e => e) (fun _ _ e => e)⟩
      subst hq1
      have HT1 := Lib.hid (HT.out.succ hjl hjk (Prod.ext (by rw [HZ0.out, HY0.out]) (by rw [HZ1.out, HY1.out])))
      go_wp2_with fail
      go_quiet (fail)
      go_wp2_with fail
      go_roundw
      case rel => exact ⟨j + 1, hlt, by go_num, HT1, hM.trans (Mod.drewN _ _ _) (fun _ _ e => e) (fun _ _ e => e)⟩
      case measure => simp [intOf]; omega
    case neg =>
      obtain rfl : j = n1 := by omega
      have HA1 := Lib.hid (HT.out.all H1.out K1.out)
      clear HT
      go_wp2_with fail
      go_loopw [6] (fun i wr => ∃ j : Nat, j ≤ n2 ∧ i = .int .i64 j ∧ Hid (SameTo G.E H.E j) ∧ Mod (fun _ => False) W0 wr) (fun i _ => n2 - (intOf i).toNat)
      case atStart => exact ⟨0, by omega, rfl, Lib.hid (SameTo.zero _ _), hM⟩
      case round =>
        obtain ⟨j, hj, rfl, HT, hM⟩ := hrel
        obtain ⟨c0, c1, c2, d0, d1, d2⟩ := HC.out _ hM
        by_cases hlt : j < n2
        case pos =>
          have hjl : j < G.E.length := by rw [H2.out]; exact hlt
          have hjk : j < H.E.length := by rw [K2.out]; exact hlt
          obtain ⟨b, o, hpl, e1, e2, e3⟩ := Mile.rd3 (r2.keepA (hM0.trans hM (H := fun _ => False) (fun _ _ e => e) (fun _ _ e => e)) (fun _ _ e => e.elim)) j hjl
          obtain ⟨b', o', hpl', k1, k2, k3⟩ := Mile.rd3 (s2.keepA (hM0.trans hM (H := fun _ => False) (fun _ _ e => e) (fun _ _ e => e)) (fun _ _ e => e.elim)) j hjk
          have hix := fun wx => run_indexS (P := Try.prog) wx 23 52 iE 3 Try.underlying23 hiE hsE a2 n2 u2 j hlt (r2.some_ (by omega))
          rw [hpl] at hix
          have hix' := fun wx => run_indexS (P := Try.prog) wx 23 52 iE 3 Try.underlying23 hiE hsE b2 n2 v2 j hlt (s2.some_ (by omega))
          rw [hpl'] at hix'
          obtain ⟨z0, hz0⟩ : ∃ z, G.E[j].1 = z := ⟨_, rfl⟩
          rw [hz0] at e1
          obtain ⟨y0, hy0⟩ : ∃ z, H.E[j].1 = z := ⟨_, rfl⟩
          rw [hy0] at k1
          have HZ0 := Lib.hid hz0
          have HY0 := Lib.hid hy0
          clear hz0 hy0
          obtain ⟨z1, hz1⟩ : ∃ z, G.E[j].2.1 = z := ⟨_, rfl⟩
          rw [hz1] at e2
          obtain ⟨y1, hy1⟩ : ∃ z, H.E[j].2.1 = z := ⟨_, rfl⟩
          rw [hy1] at k2
          have HZ1 := Lib.hid hz1
          have HY1 := Lib.hid hy1
          clear hz1 hy1
          obtain ⟨z2, hz2⟩ : ∃ z, G.E[j].2.2 = z := ⟨_, rfl⟩
          rw [hz2] at e3
          obtain ⟨y2, hy2⟩ : ∃ z, H.E[j].2.2 = z := ⟨_, rfl⟩
          rw [hy2] at k3
          have HZ2 := Lib.hid hz2
          have HY2 := Lib.hid hy2
          clear hz2 hy2
          clear hpl hpl'
          by_cases hq0 : z0 = y0
          case neg =>
            have HD := Lib.hid hq0
            have zz : (z0 == y0) = false := by simpa using hq0
            clear hq0
            go_wp2_with fail
            go_quiet (fail)
            go_wp2_with fail
            go_ret
            exact ⟨by rw [not_same hr.out (fun e => HD.out (by rw [← HZ0.out, ← HY0.out]; simp only [e]))]; rfl, hM0.trans (hM.trans (Mod.drewN _ _ _) (fun _ _ e => e) (fun _ _ e => e)) (fun _ _ e => e) (fun _ _ e => e)⟩
          subst hq0
          by_cases hq1 : z1 = y1
          case neg =>
            have HD := Lib.hid hq1
            have zz : (z1 == y1) = false := by simpa using hq1
            clear hq1
            go_wp2_with fail
            go_quiet (fail)
            go_wp2_with fail
            go_ret
            exact ⟨by rw [not_same hr.out (fun e => HD.out (by rw [← HZ1.out, ← HY1.out]; simp only [e]))]; rfl, hM0.trans (hM.trans (Mod.drewN _ _ _) (fun _ _ e => e) (fun _ _ e => e)) (fun _ _ e => e) (fun _ _ e => e)⟩
          subst hq1
          by_cases hq2 : z2 = y2
          case neg =>
            have HD := Lib.hid hq2
            have zz : (z2 == y2) = false := by simpa using hq2
            clear hq2
            go_wp2_with fail
            go_quiet (fail)
            go_wp2_with fail
            go_ret
            exact ⟨by rw [not_same hr.out (fun e => HD.out (by rw [← HZ2.out, ← HY2.out]; simp only [e]))]; rfl, hM0.trans (hM.trans (Mod.drewN _ _ _) (fun _ _ e => e) (fun _ _ e => e)) (fun _ _ e => e) (fun _ _ e => e)⟩
          subst hq2
          have HT1 := Lib.hid (HT.out.succ hjl hjk (Prod.ext (by rw [HZ0.out, HY0.out]) (Prod.ext (by rw [HZ1.out, HY1.out]) (by rw [HZ2.out, HY2.out]))))
          go_wp2_with fail
          go_quiet (fail)
          go_wp2_with fail
          go_roundw
          case rel => exact ⟨j + 1, hlt, by go_num, HT1, hM.trans (Mod.drewN _ _ _) (fun _ _ e => e) (fun _ _ e => e)⟩
          case measure => simp [intOf]; omega
        case neg =>
          obtain rfl : j = n2 := by omega
          have HA2 := Lib.hid (HT.out.all H2.out K2.out)
          clear HT
          go_wp2_with fail
          go_loopw [7] (fun i wr => ∃ j : Nat, j ≤ n3 ∧ i = .int .i64 j ∧ Hid (SameTo G.B H.B j) ∧ Mod (fun _ => False) W0 wr) (fun i _ => n3 - (intOf i).toNat)
          case atStart => exact ⟨0, by omega, rfl, Lib.hid (SameTo.zero _ _), hM⟩
          case round =>
            obtain ⟨j, hj, rfl, HT, hM⟩ := hrel
            obtain ⟨c0, c1, c2, d0, d1, d2⟩ := HC.out _ hM
            by_cases hlt : j < n3
            case pos =>
              have hjl : j < G.B.length := by rw [H3.out]; exact hlt
              have hjk : j < H.B.length := by rw [K3.out]; exact hlt
              obtain ⟨b, o, hpl, e1, e2⟩ := Mile.rd2 (r3.keepA (hM0.trans hM (H := fun _ => False) (fun _ _ e => e) (fun _ _ e => e)) (fun _ _ e => e.elim)) j hjl
              obtain ⟨b', o', hpl', k1, k2⟩ := Mile.rd2 (s3.keepA (hM0.trans hM (H := fun _ => False) (fun _ _ e => e) (fun _ _ e => e)) (fun _ _ e => e.elim)) j hjk
              have hix := fun wx => run_indexS (P := Try.prog) wx 24 63 iB 2 Try.underlying24 hiB hsB a3 n3 u3 j hlt (r3.some_ (by omega))
              rw [hpl] at hix
              have hix' := fun wx => run_indexS (P := Try.prog) wx 24 63 iB 2 Try.underlying24 hiB hsB b3 n3 v3 j hlt (s3.some_ (by omega))
              rw [hpl'] at hix'
              obtain ⟨z0, hz0⟩ : ∃ z, G.B[j].1 = z := ⟨_, rfl⟩
              rw [hz0] at e1
              obtain ⟨y0, hy0⟩ : ∃ z, H.B[j].1 = z := ⟨_, rfl⟩
              rw [hy0] at k1
              have HZ0 := Lib.hid hz0
              have HY0 := Lib.hid hy0
              clear hz0 hy0
              obtain ⟨z1, hz1⟩ : ∃ z, G.B[j].2 = z := ⟨_, rfl⟩
              rw [hz1] at e2
              obtain ⟨y1, hy1⟩ : ∃ z, H.B[j].2 = z := ⟨_, rfl⟩
              rw [hy1] at k2
              have HZ1 := Lib.hid hz1
              have HY1 := Lib.hid hy1
              clear hz1 hy1
              clear hpl hpl'
              by_cases hq0 : z0 = y0
              case neg =>
                have HD := Lib.hid hq0
                have zz : (z0 == y0) = false := by simpa using hq0
                clear hq0
                go_wp2_with fail
                go_quiet (fail)
                go_wp2_with fail
                go_ret
                exact ⟨by rw [not_same hr.out (fun e => HD.out (by rw [← HZ0.out, ← HY0.out]; simp only [e]))]; rfl, hM0.trans (hM.trans (Mod.drewN _ _ _) (fun _ _ e => e) (fun _ _ e => e)) (fun _ _ e => e) (fun _ _ e => e)⟩
              subst hq0
              by_cases hq1 : z1 = y1
              case neg =>
                have HD := Lib.hid hq1
                have zz : (z1 == y1) = false := by simpa using hq1
                clear hq1
                go_wp2_with fail
                go_quiet (fail)
                go_wp2_with fail
                go_ret
                exact ⟨by rw [not_same hr.out (fun e => HD.out (by rw [← HZ1.out, ← HY1.out]; simp only [e]))]; rfl, hM0.trans (hM.trans (Mod.drewN _ _ _) (fun _ _ e => e) (fun _ _ e => e)) (fun _ _ e => e) (fun _ _ e => e)⟩
              subst hq1
              have HT1 := Lib.hid (HT.out.succ hjl hjk (Prod.ext (by rw [HZ0.out, HY0.out]) (by rw [HZ1.out, HY1.out])))
              go_wp2_with fail
              go_quiet (fail)
              go_wp2_with fail
              go_roundw
              case rel => exact ⟨j + 1, hlt, by go_num, HT1, hM.trans (Mod.drewN _ _ _) (fun _ _ e => e) (fun _ _ e => e)⟩
              case measure => simp [intOf]; omega
            case neg =>
              obtain rfl : j = n3 := by omega
              have HA3 := Lib.hid (HT.out.all H3.out K3.out)
              clear HT
              go_wp2_with fail
              have hrt : r = true := hr.out.2 (by cases G; cases H; simp only [GD.mk.injEq]; exact ⟨HA1.out, HA2.out, HA3.out⟩)
              go_ret
              exact ⟨by rw [hrt]; rfl, hM0.trans hM (fun _ _ e => e) (fun _ _ e => e)⟩
end Go.Proofs.Ytdccpikddhpleaa
