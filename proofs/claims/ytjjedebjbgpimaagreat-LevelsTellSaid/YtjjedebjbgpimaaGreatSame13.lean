/- milepostref4.ArcsSame of two rows of Ar, by contract (from XArcsSame). -/
import Derived.Test.YtjjedebjbgpimaaGreatKMd
import Derived.Deep.DeepCutAuto
import Derived.Deep.CutBlock
namespace Go.Proofs.YtjjedebjbgpimaaGreat
open Go.RowKit Mile
set_option maxRecDepth 100000
/-- What each operation of the statement leaves. -/
def as13_r6_0_F (pb po qb qo k n c d : Nat) (x1 x2 x3 x4 : Int) (a b : Option Addr) : List (Value → World → Prop) :=
  [IsV (.slice a n c),
   IsV (.int .i64 (k : Int)),
   IsV (.pointer (some ⟨pb, po, none⟩)),
   IsV (.agg #[.int .i64 x1, .int .i64 x2, .int .i64 x3, .int .i64 x4]),
   IsV (.slice b n d),
   IsV (.int .i64 (k : Int)),
   IsV (.pointer (some ⟨qb, qo, none⟩)),
   IsV (.agg #[.int .i64 x1, .int .i64 x2, .int .i64 x3, .int .i64 x4]),
   IsV (.bool false)]
def as13_r6_0_D : List (List Nat) := [[], [], [0, 1], [2], [], [], [4, 5], [6], [3, 7]]

set_option maxHeartbeats 8000000 in
theorem same13_any (w : World) (xs : List Ar) (a : Option Addr) (n c : Nat) (b : Option Addr) (d : Nat) (hn : xs.length = n) (hb : n ≤ 1000000) (hr : Rd w 4 (.slice a n c) n (xs.flatMap c4)) (hs : Rd w 4 (.slice b n d) n (xs.flatMap c4)) :
    Calls Tryz.prog 17 #[.slice a n c, .slice b n d] w fun e w' => e = .returned (.bool true) ∧ Mod (fun _ => False) w w' := by
  obtain ⟨iA, hiA, hzA, hsA, hbA⟩ := info_parts Nt.infoA
  have HN := Lib.hid hn
  clear hn
  have HS : Hid (Ev (Mod (fun _ => False) w) w) := Lib.hid (Ev.mod w)
  replace HS := Lib.hid ((Ev.rd hr).and HS.out)
  replace HS := Lib.hid ((Ev.rd hs).and HS.out)
  go_enter Tryz.func17, Tryz.ntmps17
  go_wp2_with fail
  go_loopw [5] (fun i wr => ∃ k : Nat, k ≤ n ∧ i = .int .i64 k ∧ Mod (fun _ => False) w wr) (fun i _ => n - (intOf i).toNat)
  case atStart => exact ⟨0, by omega, rfl, Mod.refl _ _⟩
  case round =>
    obtain ⟨k, hk, rfl, hmr⟩ := hrel
    obtain ⟨wo, hwo⟩ : ∃ x : World, x = wr := ⟨_, rfl⟩
    subst hwo
    replace HS := Lib.hid (HS.out.step hmr)
    clear hmr
    by_cases hlt : k < n
    case pos =>
      have hkl : k < xs.length := by rw [HN.out]; exact hlt
      have z0 : decide ((k : Int) < (n : Int)) = true := by simp; omega
      obtain ⟨x1, hx1⟩ : ∃ x, xs[k].f = x := ⟨_, rfl⟩
      obtain ⟨x2, hx2⟩ : ∃ x, xs[k].t = x := ⟨_, rfl⟩
      obtain ⟨x3, hx3⟩ : ∃ x, xs[k].w = x := ⟨_, rfl⟩
      obtain ⟨x4, hx4⟩ : ∃ x, xs[k].m = x := ⟨_, rfl⟩
      obtain ⟨pb, po, hpl, e0, e1, e2, e3⟩ := rd4 (HS.out.now).2.1 k hkl
      have hix := fun wx => run_indexS (P := Tryz.prog) wx 34 50 iA 4 Tryz.underlying34 hiA hsA a n c k hlt ((HS.out.now).2.1.some_ (by have := hlt; omega))
      rw [hpl] at hix
      have HIp := Lib.hid hix
      clear hix hpl
      rw [hx1] at e0
      replace HS := Lib.hid ((Ev.cell e0).and HS.out)
      clear e0
      rw [hx2] at e1
      replace HS := Lib.hid ((Ev.cell e1).and HS.out)
      clear e1
      rw [hx3] at e2
      replace HS := Lib.hid ((Ev.cell e2).and HS.out)
      clear e2
      rw [hx4] at e3
      replace HS := Lib.hid ((Ev.cell e3).and HS.out)
      clear e3
      obtain ⟨qb, qo, hpl, e0, e1, e2, e3⟩ := rd4 (HS.out.now).2.2.2.2.1 k hkl
      have hix := fun wx => run_indexS (P := Tryz.prog) wx 34 50 iA 4 Tryz.underlying34 hiA hsA b n d k hlt ((HS.out.now).2.2.2.2.1.some_ (by have := hlt; omega))
      rw [hpl] at hix
      have HIq := Lib.hid hix
      clear hix hpl
      rw [hx1] at e0
      replace HS := Lib.hid ((Ev.cell e0).and HS.out)
      clear e0
      rw [hx2] at e1
      replace HS := Lib.hid ((Ev.cell e1).and HS.out)
      clear e1
      rw [hx3] at e2
      replace HS := Lib.hid ((Ev.cell e2).and HS.out)
      clear e2
      rw [hx4] at e3
      replace HS := Lib.hid ((Ev.cell e3).and HS.out)
      clear e3
      clear hx1 hx2 hx3 hx4
      go_upto_region 6 with fail
      have HSd := Lib.hid HS.out.drew
      refine wp_region_inv3 (act := ?actas13_r6_0) (Mod (fun _ => False)) (fun i => (as13_r6_0_F pb po qb qo k n c d x1 x2 x3 x4 a b).getD i (fun _ _ => True)) (fun i => as13_r6_0_D.getD i []) (by kernel_rfl) (by kernel_rfl) (by kernel_rfl) (by kernel_rfl) (fun _ => Mod.refl _ _)
        (fun _ _ _ h k => h.trans k (fun _ _ e => e) (fun _ _ e => e)) ?hactas13_r6_0 (stable_list ?_) ?_ ?_
      case hactas13_r6_0 => intro vs; simp only [putAll, Nat.zero_add, Nat.reduceAdd, Act.put, List.setIfInBounds_toArray, List.set_cons_succ, List.set_cons_zero]; exact rfl
      · unfold as13_r6_0_F
        exact stable_cons (stable_val _) <| stable_cons (stable_val _) <| stable_cons (stable_val _) <| stable_cons (stable_val _) <| stable_cons (stable_val _) <| stable_cons (stable_val _) <| stable_cons (stable_val _) <| stable_cons (stable_val _) <| stable_cons (stable_val _) <| stable_nil
      · refine opsOkA_cons ?_ ?_
        · intro K vs W hR hD hK
          clear hD
          try dsimp only at hK ⊢
          simp only [Act.put, List.setIfInBounds_toArray, List.set_cons_succ, List.set_cons_zero] at hK
          go_wp2
          exact hK _ _ rfl (Mod.refl _ _)
        refine opsOkA_cons ?_ ?_
        · intro K vs W hR hD hK
          clear hD
          try dsimp only at hK ⊢
          simp only [Act.put, List.setIfInBounds_toArray, List.set_cons_succ, List.set_cons_zero] at hK
          go_wp2
          exact hK _ _ rfl (Mod.refl _ _)
        refine opsOkA_cons ?_ ?_
        · intro K vs W hR hD hK
          have dq0 : vs 0 = .slice a n c := hD 0 (by decide)
          have dq1 : vs 1 = .int .i64 (k : Int) := hD 1 (by decide)
          clear hD
          try dsimp only at hK ⊢
          simp only [Act.put, List.setIfInBounds_toArray, List.set_cons_succ, List.set_cons_zero] at hK
          generalize vs 0 = vq0 at hK dq0 ⊢
          subst vq0
          generalize vs 1 = vq1 at hK dq1 ⊢
          subst vq1
          have hix := HIp.out
          go_wp2_with fail
          exact hK _ _ rfl (Mod.refl _ _)
        refine opsOkA_cons ?_ ?_
        · intro K vs W hR hD hK
          have dq2 : vs 2 = .pointer (some ⟨pb, po, none⟩) := hD 2 (by decide)
          clear hD
          try dsimp only at hK ⊢
          simp only [Act.put, List.setIfInBounds_toArray, List.set_cons_succ, List.set_cons_zero] at hK
          generalize vs 2 = vq2 at hK dq2 ⊢
          subst vq2
          have c0 := (HSd.out.at (hR)).2.2.2.2.2.2.2.1
          have c1 := (HSd.out.at (hR)).2.2.2.2.2.2.1
          have c2 := (HSd.out.at (hR)).2.2.2.2.2.1
          have c3 := (HSd.out.at (hR)).2.2.2.2.1
          go_wp2
          exact hK _ _ rfl (Mod.refl _ _)
        refine opsOkA_cons ?_ ?_
        · intro K vs W hR hD hK
          clear hD
          try dsimp only at hK ⊢
          simp only [Act.put, List.setIfInBounds_toArray, List.set_cons_succ, List.set_cons_zero] at hK
          go_wp2
          exact hK _ _ rfl (Mod.refl _ _)
        refine opsOkA_cons ?_ ?_
        · intro K vs W hR hD hK
          clear hD
          try dsimp only at hK ⊢
          simp only [Act.put, List.setIfInBounds_toArray, List.set_cons_succ, List.set_cons_zero] at hK
          go_wp2
          exact hK _ _ rfl (Mod.refl _ _)
        refine opsOkA_cons ?_ ?_
        · intro K vs W hR hD hK
          have dq4 : vs 4 = .slice b n d := hD 4 (by decide)
          have dq5 : vs 5 = .int .i64 (k : Int) := hD 5 (by decide)
          clear hD
          try dsimp only at hK ⊢
          simp only [Act.put, List.setIfInBounds_toArray, List.set_cons_succ, List.set_cons_zero] at hK
          generalize vs 4 = vq4 at hK dq4 ⊢
          subst vq4
          generalize vs 5 = vq5 at hK dq5 ⊢
          subst vq5
          have hix := HIq.out
          go_wp2_with fail
          exact hK _ _ rfl (Mod.refl _ _)
        refine opsOkA_cons ?_ ?_
        · intro K vs W hR hD hK
          have dq6 : vs 6 = .pointer (some ⟨qb, qo, none⟩) := hD 6 (by decide)
          clear hD
          try dsimp only at hK ⊢
          simp only [Act.put, List.setIfInBounds_toArray, List.set_cons_succ, List.set_cons_zero] at hK
          generalize vs 6 = vq6 at hK dq6 ⊢
          subst vq6
          have c0 := (HSd.out.at (hR)).2.2.2.1
          have c1 := (HSd.out.at (hR)).2.2.1
          have c2 := (HSd.out.at (hR)).2.1
          have c3 := (HSd.out.at (hR)).1
          go_wp2
          exact hK _ _ rfl (Mod.refl _ _)
        refine opsOkA_cons ?_ ?_
        · intro K vs W hR hD hK
          have dq3 : vs 3 = .agg #[.int .i64 x1, .int .i64 x2, .int .i64 x3, .int .i64 x4] := hD 3 (by decide)
          have dq7 : vs 7 = .agg #[.int .i64 x1, .int .i64 x2, .int .i64 x3, .int .i64 x4] := hD 7 (by decide)
          clear hD
          try dsimp only at hK ⊢
          simp only [Act.put, List.setIfInBounds_toArray, List.set_cons_succ, List.set_cons_zero] at hK
          generalize vs 3 = vq3 at hK dq3 ⊢
          subst vq3
          generalize vs 7 = vq7 at hK dq7 ⊢
          subst vq7
          go_wp2
          exact hK _ _ rfl (Mod.refl _ _)
        exact opsOkA_nil
      · intro vs wq1 hR hF
        have dq8 : vs 8 = .bool false := hF 8 (by decide)
        clear hF
        try dsimp only
        generalize vs 8 = vq8 at dq8 ⊢
        subst dq8
        replace HS := Lib.hid (HSd.out.step hR)
        clear HSd hR
        go_wp2_with fail
        go_roundw
        case rel => exact ⟨k + 1, hlt, by go_num, (HS.out.now).2.2.2.2.2.2.2.2.2.2⟩
        case measure => simp [intOf]; omega
    case neg =>
      obtain rfl : k = n := by omega
      have z0 : decide ((k : Int) < (k : Int)) = false := by simp
      go_wp2_with fail
      go_ret
      exact ⟨rfl, (HS.out.now).2.2⟩
end Go.Proofs.YtjjedebjbgpimaaGreat
