/- ShutsLast walked. -/
import Derived.Test.YthlpednakhjmhaaAwake10
import Derived.Test.YthlpednakhjmhaaLastP
import Derived.Test.YthlpednakhjmhaaRegion2
import Derived.Deep.DeepCutAuto
import Derived.Deep.CutBlock
namespace Go.Proofs.Ythlpednakhjmhaa
open Go.RowKit Mile
set_option maxRecDepth 100000
/-- What each operation of the statement leaves. -/
def la_r10_0_F (a : Option Addr) (m : Nat) (c : Nat) (ee : Nat) (uu : Nat) (j : Nat) (x : Int) (y : Int) (eb : Nat) (eo : Nat) : List (Value → World → Prop) :=
  [IsV (.slice a m c),
   IsV (.int .i64 (j : Int)),
   IsV (.pointer (some ⟨eb, eo, none⟩)),
   IsV (.pointer (some ⟨eb, eo, none⟩)),
   IsV (.int .i64 x),
   IsV (.int .i64 (ee : Int)),
   IsV (.slice a m c),
   IsV (.int .i64 (j : Int)),
   IsV (.pointer (some ⟨eb, eo, none⟩)),
   IsV (.pointer (some ⟨eb, (eo + 1), none⟩)),
   IsV (.int .i64 y),
   IsV (.int .i64 (uu : Int)),
   IsV (.int .i64 (1 + (uu : Int))),
   IsV (.int .i64 (ee : Int)),
   IsV (.int .i64 (1 + (uu : Int)))]
def la_r10_0_D : List (List Nat) := [[], [], [0, 1], [2], [3], [4], [], [], [6, 7], [8], [9], [10], [11], [5], [12]]

/-- What each operation of the statement leaves. -/
def la_r33_1_F (p : Nat) (q : Nat) (t : Nat) (eN : Nat) (c2 : Int) (rb : Bool) : List (Value → World → Prop) :=
  [IsV (.pointer (some ⟨p, 0, none⟩)),
   IsV (.int .i64 (eN : Int)),
   IsV (.bool rb),
   IsV (.int .i64 (eN : Int)),
   IsV (.pointer (some ⟨q, eN, none⟩)),
   IsV (.int .i64 c2),
   IsV (.int .i64 (t : Int)),
   IsV (.bool rb),
   IsV (.bool false)]
def la_r33_1_D : List (List Nat) := [[], [], [0, 1], [], [3], [4], [], [5, 6], [2, 7]]

set_option maxHeartbeats 64000000 in
theorem last_all (w : World) (a : Option Addr) (m c : Nat) (l : List (Int × Int)) (hn : l.length = m) (hr : Rd w 2 (.slice a m c) m (l.flatMap c2s)) (va vb : Int) :
    Calls Try.prog 4 #[.slice a m c, .int .i64 va, .int .i64 vb] w fun e w' => e = .returned (.bool true) ∧ Mod (fun _ => False) w w' := by
  obtain ⟨iP, hiP, hzP, hsP, hbP⟩ := info_parts infoP
  obtain ⟨iI, hiI, hzI, hsI, hbI⟩ := info_parts infoI
  have HN := Lib.hid hn
  clear hn
  by_cases hm30 : m ≤ 30
  case neg =>
    have z0 : decide (30 < (m : Int)) = true := by simp; omega
    have HS : Hid (Ev (Mod (fun _ => False) w) w) := Lib.hid (Ev.mod w)
    go_enter Try.func4, Try.ntmps4
    go_wp2_with fail
    refine (awake10_any _).mono ?_
    rintro e wq1 ⟨rfl, hm⟩
    replace HS := Lib.hid (HS.out.step hm)
    clear hm
    go_wp2_with fail
    go_ret
    exact ⟨rfl, HS.out.now⟩
  by_cases hv0 : 0 ≤ va
  case neg =>
    have z0 : decide (30 < (m : Int)) = false := by simp; omega
    have z1 : decide (va < 0) = true := by simp; omega
    have HS : Hid (Ev (Mod (fun _ => False) w) w) := Lib.hid (Ev.mod w)
    go_enter Try.func4, Try.ntmps4
    go_wp2_with fail
    refine (awake10_any _).mono ?_
    rintro e wq2 ⟨rfl, hm⟩
    replace HS := Lib.hid (HS.out.step hm)
    clear hm
    go_wp2_with fail
    go_ret
    exact ⟨rfl, HS.out.now⟩
  by_cases hv1 : va ≤ 100
  case neg =>
    have z0 : decide (30 < (m : Int)) = false := by simp; omega
    have z1 : decide (va < 0) = false := by simp; omega
    have z2 : decide (100 < va) = true := by simp; omega
    have HS : Hid (Ev (Mod (fun _ => False) w) w) := Lib.hid (Ev.mod w)
    go_enter Try.func4, Try.ntmps4
    go_wp2_with fail
    refine (awake10_any _).mono ?_
    rintro e wq3 ⟨rfl, hm⟩
    replace HS := Lib.hid (HS.out.step hm)
    clear hm
    go_wp2_with fail
    go_ret
    exact ⟨rfl, HS.out.now⟩
  have z0 : decide (30 < (m : Int)) = false := by simp; omega
  have z1 : decide (va < 0) = false := by simp; omega
  have z2 : decide (100 < va) = false := by simp; omega
  go_enter Try.func4, Try.ntmps4
  go_wp2_with fail
  refine (snew_as 8 (by omega) w).mono ?_
  rintro e wq0 ⟨p, rfl, hpb, hso, hm0⟩
  go_upto_region 7 with fail
  clear z0 z1 z2
  obtain ⟨q, hq⟩ : ∃ b, wq0.heap.size = b := ⟨_, rfl⟩
  obtain ⟨wa, hwa⟩ : ∃ W, World.alloc wq0 (.cells #[.int .i64 0, .int .i64 0, .int .i64 0, .int .i64 0, .int .i64 0, .int .i64 0, .int .i64 0, .int .i64 0] 48) = W := ⟨_, rfl⟩
  have hq0 : Q8 48 wa q (fun _ => 0) := by rw [← hwa, ← hq]; exact Blk.new wq0 48 [.int .i64 0, .int .i64 0, .int .i64 0, .int .i64 0, .int .i64 0, .int .i64 0, .int .i64 0, .int .i64 0]
  have hm1 : Mod (fun _ => False) wq0 wa := by rw [← hwa]; exact Mod.alloc _ _ _
  try rw [hwa]
  try rw [hq]
  have hqp : ¬ q = p := by have := hso.blk.lt; omega
  have hpq : ¬ p = q := by omega
  have HPB := Lib.hid hpb
  have HQB : Hid (w.heap.size ≤ q) := Lib.hid (by have := hm0.size; omega)
  have HM0 := Lib.hid (hm0.of2 hm1)
  have hso := hso.keep hm1 (fun e => e)
  have hr0 := hr.keep HM0.out (fun _ _ e => e)
  clear hwa hq hm0 hm1 hpb
  have HS : Hid (EvF (fun k => k = p ∨ k = q) (Mod (fun k => k = p ∨ k = q) wa) wa) := Lib.hid (EvF.mod _ _)
  replace HS := Lib.hid ((EvF.rdA hr0 (fun k hk e => hr.lt hk (by have h1 := HPB.out; have h2 := HQB.out; rcases e with e | e <;> omega))).and HS.out)
  clear hr0 hr
  obtain ⟨us0, hus0⟩ : ∃ us, List.replicate 512 (0 : Int) = us := ⟨_, rfl⟩
  have htm0 : Tm us0 1 := by rw [← hus0]; exact Tm.zero 512 1
  have hq0 : Q8 48 wa q (fun k => us0.getD k 0) := hq0.as (fun k _ => by rw [← hus0]; exact getD_zero 512 k)
  rw [hus0] at hso
  have HSO := Lib.hid hso
  have HQ := Lib.hid hq0
  have HTM := Lib.hid htm0
  clear hus0 hso hq0 htm0
  go_wp2_with fail
  replace HS := Lib.hid ((EvF.mod (fun k => k = p ∨ k = q) wa).and HS.out)
  go_loopw [9] (fun i wr => ∃ (j : Nat) (us : List Int), j ≤ m ∧ i = .int .i64 j ∧ Tm us 1 ∧ SO wr p 8 us ∧ Q8 48 wr q (fun k => us.getD k 0) ∧ Mod (fun k => k = p ∨ k = q) wa wr) (fun i _ => m - (intOf i).toNat)
  case atStart => exact ⟨0, us0, by omega, rfl, HTM.out, HSO.out, HQ.out, Mod.refl _ _⟩
  case round =>
    obtain ⟨j, us, hj, rfl, htm, hso, hqq, hmr⟩ := hrel
    obtain ⟨wo, hwo⟩ : ∃ x : World, x = wr := ⟨_, rfl⟩
    subst hwo
    clear HSO HQ HTM
    have HSO := Lib.hid hso
    have HQ := Lib.hid hqq
    have HTM := Lib.hid htm
    clear hso hqq htm
    replace HS := Lib.hid (HS.out.step hmr)
    clear hmr
    by_cases hlt : j < m
    case pos =>
      have hjl : j < l.length := by rw [HN.out]; exact hlt
      have z0 : decide ((j : Int) < (m : Int)) = true := by simp; omega
      obtain ⟨x, HX0⟩ : ∃ qz, (l[j]).1 = qz := ⟨_, rfl⟩
      have HX := Lib.hid HX0
      clear HX0
      obtain ⟨y, HY0⟩ : ∃ qz, (l[j]).2 = qz := ⟨_, rfl⟩
      have HY := Lib.hid HY0
      clear HY0
      obtain ⟨eb, eo, hpl, e0, e1⟩ := rd2s ((HS.out.now).2.1) j hjl
      rw [HX.out] at e0
      rw [HY.out] at e1
      have hix := fun wx => run_indexS (P := Try.prog) wx 47 50 iP 2 Try.underlying47 hiP hsP a m c j hlt (((HS.out.now).2.1).some_ (by omega))
      rw [hpl] at hix
      have HIe := Lib.hid hix
      clear hix hpl
      have hcell : EvF (fun k => k = p ∨ k = q) (fun W => W.cell? ⟨eb, eo, none⟩ = some (.int .i64 x) ∧ W.cell? ⟨eb, eo + 1, none⟩ = some (.int .i64 y)) wo := fun W mW => by
        obtain ⟨eb2, eo2, hpl2, f0, f1⟩ := rd2s ((HS.out.at mW).2.1) j hjl
        have hq := HIe.out W
        rw [run_indexS (P := Try.prog) W 47 50 iP 2 Try.underlying47 hiP hsP a m c j hlt (((HS.out.at mW).2.1).some_ (by omega)), hpl2] at hq
        simp only [Result.ok.injEq, Value.pointer.injEq, Option.some.injEq, Addr.mk.injEq, and_true] at hq
        obtain ⟨rfl, rfl⟩ := hq
        rw [HX.out] at f0
        rw [HY.out] at f1
        exact ⟨f0, f1⟩
      replace HS := Lib.hid ((hcell).and HS.out)
      clear hcell e0 e1
      obtain ⟨ee, hee⟩ := Int.eq_ofNat_of_zero_le (Int.emod_nonneg x (b := 8) (by omega))
      have he8 : ee < 8 := by have := Int.emod_lt_of_pos x (b := 8) (by omega); omega
      obtain ⟨uu, huu⟩ := Int.eq_ofNat_of_zero_le (Int.emod_nonneg y (b := 80) (by omega))
      have hu80 : uu < 80 := by have := Int.emod_lt_of_pos y (b := 80) (by omega); omega
      have HEE := Lib.hid hee
      have HUU := Lib.hid huu
      clear hee huu
      go_upto_region 10 with fail
      have HSd := Lib.hid HS.out.drew
      refine wp_region_inv3 (act := ?actla_r10_0) (Mod (fun _ => False)) (fun i => (la_r10_0_F a m c ee uu j x y eb eo).getD i (fun _ _ => True)) (fun i => la_r10_0_D.getD i []) (by kernel_rfl) (by kernel_rfl) (by kernel_rfl) (by kernel_rfl) (fun _ => Mod.refl _ _)
        (fun _ _ _ h k => h.trans k (fun _ _ e => e) (fun _ _ e => e)) ?hactla_r10_0 (stable_list ?_) ?_ ?_
      case hactla_r10_0 => intro vs; simp only [putAll, Nat.zero_add, Nat.reduceAdd, Act.put, List.setIfInBounds_toArray, List.set_cons_succ, List.set_cons_zero]; exact rfl
      · unfold la_r10_0_F
        exact stable_cons (stable_val _) <| stable_cons (stable_val _) <| stable_cons (stable_val _) <| stable_cons (stable_val _) <| stable_cons (stable_val _) <| stable_cons (stable_val _) <| stable_cons (stable_val _) <| stable_cons (stable_val _) <| stable_cons (stable_val _) <| stable_cons (stable_val _) <| stable_cons (stable_val _) <| stable_cons (stable_val _) <| stable_cons (stable_val _) <| stable_cons (stable_val _) <| stable_cons (stable_val _) <| stable_nil
      · refine opsOkA_cons ?_ ?_
        · intro K vs W hR hD hK
          clear hD
          try dsimp only at hK ⊢
          simp only [Act.put, List.setIfInBounds_toArray, List.set_cons_succ, List.set_cons_zero] at hK
          go_wp2
          exact hK _ _ rfl (Mod.refl _ _)
        refine opsOkA_cons ?_ ?_
        · intro K vs W hR hD hK
          clear hD
          try dsimp only at hK ⊢
          simp only [Act.put, List.setIfInBounds_toArray, List.set_cons_succ, List.set_cons_zero] at hK
          go_wp2
          exact hK _ _ rfl (Mod.refl _ _)
        refine opsOkA_cons ?_ ?_
        · intro K vs W hR hD hK
          have dq0 : vs 0 = .slice a m c := hD 0 (by decide)
          have dq1 : vs 1 = .int .i64 (j : Int) := hD 1 (by decide)
          clear hD
          try dsimp only at hK ⊢
          simp only [Act.put, List.setIfInBounds_toArray, List.set_cons_succ, List.set_cons_zero] at hK
          generalize vs 0 = vq0 at hK dq0 ⊢
          subst vq0
          generalize vs 1 = vq1 at hK dq1 ⊢
          subst vq1
          have hix := HIe.out
          go_wp2_with fail
          exact hK _ _ rfl (Mod.refl _ _)
        refine opsOkA_cons ?_ ?_
        · intro K vs W hR hD hK
          have dq2 : vs 2 = .pointer (some ⟨eb, eo, none⟩) := hD 2 (by decide)
          clear hD
          try dsimp only at hK ⊢
          simp only [Act.put, List.setIfInBounds_toArray, List.set_cons_succ, List.set_cons_zero] at hK
          generalize vs 2 = vq2 at hK dq2 ⊢
          subst vq2
          go_wp2_with fail
          exact hK _ _ rfl (Mod.refl _ _)
        refine opsOkA_cons ?_ ?_
        · intro K vs W hR hD hK
          have dq3 : vs 3 = .pointer (some ⟨eb, eo, none⟩) := hD 3 (by decide)
          clear hD
          try dsimp only at hK ⊢
          simp only [Act.put, List.setIfInBounds_toArray, List.set_cons_succ, List.set_cons_zero] at hK
          generalize vs 3 = vq3 at hK dq3 ⊢
          subst vq3
          have c0 := ((HSd.out.at ((Mod.upF hR))).1).1
          go_wp2
          exact hK _ _ rfl (Mod.refl _ _)
        refine opsOkA_cons ?_ ?_
        · intro K vs W hR hD hK
          have dq4 : vs 4 = .int .i64 x := hD 4 (by decide)
          clear hD
          try dsimp only at hK ⊢
          simp only [Act.put, List.setIfInBounds_toArray, List.set_cons_succ, List.set_cons_zero] at hK
          generalize vs 4 = vq4 at hK dq4 ⊢
          subst vq4
          go_wp2_with (go_at_call 23; refine (round_any x 8 W (by omega) (by omega)).mono ?_; rintro e' w' ⟨rfl, rfl⟩; rw [HEE.out])
          exact hK _ _ rfl (Mod.refl _ _)
        refine opsOkA_cons ?_ ?_
        · intro K vs W hR hD hK
          clear hD
          try dsimp only at hK ⊢
          simp only [Act.put, List.setIfInBounds_toArray, List.set_cons_succ, List.set_cons_zero] at hK
          go_wp2
          exact hK _ _ rfl (Mod.refl _ _)
        refine opsOkA_cons ?_ ?_
        · intro K vs W hR hD hK
          clear hD
          try dsimp only at hK ⊢
          simp only [Act.put, List.setIfInBounds_toArray, List.set_cons_succ, List.set_cons_zero] at hK
          go_wp2
          exact hK _ _ rfl (Mod.refl _ _)
        refine opsOkA_cons ?_ ?_
        · intro K vs W hR hD hK
          have dq6 : vs 6 = .slice a m c := hD 6 (by decide)
          have dq7 : vs 7 = .int .i64 (j : Int) := hD 7 (by decide)
          clear hD
          try dsimp only at hK ⊢
          simp only [Act.put, List.setIfInBounds_toArray, List.set_cons_succ, List.set_cons_zero] at hK
          generalize vs 6 = vq6 at hK dq6 ⊢
          subst vq6
          generalize vs 7 = vq7 at hK dq7 ⊢
          subst vq7
          have hix := HIe.out
          go_wp2_with fail
          exact hK _ _ rfl (Mod.refl _ _)
        refine opsOkA_cons ?_ ?_
        · intro K vs W hR hD hK
          have dq8 : vs 8 = .pointer (some ⟨eb, eo, none⟩) := hD 8 (by decide)
          clear hD
          try dsimp only at hK ⊢
          simp only [Act.put, List.setIfInBounds_toArray, List.set_cons_succ, List.set_cons_zero] at hK
          generalize vs 8 = vq8 at hK dq8 ⊢
          subst vq8
          go_wp2_with fail
          exact hK _ _ rfl (Mod.refl _ _)
        refine opsOkA_cons ?_ ?_
        · intro K vs W hR hD hK
          have dq9 : vs 9 = .pointer (some ⟨eb, (eo + 1), none⟩) := hD 9 (by decide)
          clear hD
          try dsimp only at hK ⊢
          simp only [Act.put, List.setIfInBounds_toArray, List.set_cons_succ, List.set_cons_zero] at hK
          generalize vs 9 = vq9 at hK dq9 ⊢
          subst vq9
          have c0 := ((HSd.out.at ((Mod.upF hR))).1).2
          go_wp2
          exact hK _ _ rfl (Mod.refl _ _)
        refine opsOkA_cons ?_ ?_
        · intro K vs W hR hD hK
          have dq10 : vs 10 = .int .i64 y := hD 10 (by decide)
          clear hD
          try dsimp only at hK ⊢
          simp only [Act.put, List.setIfInBounds_toArray, List.set_cons_succ, List.set_cons_zero] at hK
          generalize vs 10 = vq10 at hK dq10 ⊢
          subst vq10
          go_wp2_with (go_at_call 23; refine (round_any y 80 W (by omega) (by omega)).mono ?_; rintro e' w' ⟨rfl, rfl⟩; rw [HUU.out])
          exact hK _ _ rfl (Mod.refl _ _)
        refine opsOkA_cons ?_ ?_
        · intro K vs W hR hD hK
          have dq11 : vs 11 = .int .i64 (uu : Int) := hD 11 (by decide)
          clear hD
          try dsimp only at hK ⊢
          simp only [Act.put, List.setIfInBounds_toArray, List.set_cons_succ, List.set_cons_zero] at hK
          generalize vs 11 = vq11 at hK dq11 ⊢
          subst vq11
          go_wp2
          exact hK _ _ rfl (Mod.refl _ _)
        refine opsOkA_cons ?_ ?_
        · intro K vs W hR hD hK
          have dq5 : vs 5 = .int .i64 (ee : Int) := hD 5 (by decide)
          clear hD
          try dsimp only at hK ⊢
          simp only [Act.put, List.setIfInBounds_toArray, List.set_cons_succ, List.set_cons_zero] at hK
          generalize vs 5 = vq5 at hK dq5 ⊢
          subst vq5
          go_wp2
          exact hK _ _ rfl (Mod.refl _ _)
        refine opsOkA_cons ?_ ?_
        · intro K vs W hR hD hK
          have dq12 : vs 12 = .int .i64 (1 + (uu : Int)) := hD 12 (by decide)
          clear hD
          try dsimp only at hK ⊢
          simp only [Act.put, List.setIfInBounds_toArray, List.set_cons_succ, List.set_cons_zero] at hK
          generalize vs 12 = vq12 at hK dq12 ⊢
          subst vq12
          go_wp2
          exact hK _ _ rfl (Mod.refl _ _)
        exact opsOkA_nil
      · intro vs wq4 hR hF
        have dq13 : vs 13 = .int .i64 (ee : Int) := hF 13 (by decide)
        have dq14 : vs 14 = .int .i64 (1 + (uu : Int)) := hF 14 (by decide)
        clear hF
        try dsimp only
        generalize vs 13 = vq13 at dq13 ⊢
        subst dq13
        generalize vs 14 = vq14 at dq14 ⊢
        subst dq14
        replace HS := Lib.hid (HSd.out.step (Mod.upF hR))
        have hmd := (Mod.drew (fun _ => False) _).of2 hR
        have HSO1 := Lib.hid (HSO.out.keep hmd (fun e => e))
        clear HSO
        have HSO := HSO1
        clear HSO1
        have HQ1 := Lib.hid (HQ.out.keep hmd (fun e => e))
        clear HQ
        have HQ := HQ1
        clear HQ1
        clear hmd
        clear HSd hR
        go_wp2_with fail
        refine (close_as p 8 us _ (HSO.out.keep (Mod.alloc (fun _ => False) _ _) (fun e => e)) _ _ _ [(ee : Int)] (xr_lit HSO.out.blk.lt 3 [(ee : Int)] 1 _ rfl rfl (by omega)) (by omega) (by unfold hasB; simp only [List.all_cons, List.all_nil, Bool.and_true]; exact decide_eq_true ⟨by omega, by omega⟩) (1 + (uu : Int)) (by omega) (by omega) _ rfl _ rfl (us.set ee (1 + (uu : Int))) rfl).mono ?_
        rintro e wq5 ⟨xa, xc, rfl, _, hsn, hmm⟩
        have hmt : Mod (fun k => k = p) wq4 wq5 := (Mod.mono (Mod.alloc (fun _ => False) _ _) (fun _ _ e => e.elim)).ofF hmm
        have HQ1 := Lib.hid (HQ.out.keep hmt hqp)
        clear HQ
        have HQ := HQ1
        clear HQ1
        clear HSO
        have HSO := Lib.hid hsn
        replace HS := Lib.hid (HS.out.step (Mod.mono hmt (fun _ _ e => Or.inl e)))
        clear hmm hmt hsn
        obtain ⟨us2, hus2⟩ : ∃ x, us.set ee (1 + (uu : Int)) = x := ⟨_, rfl⟩
        rw [hus2] at HSO
        have HUS := Lib.hid hus2
        clear hus2
        have hgd : ∀ k, us2.getD k 0 = if k = ee then 1 + (uu : Int) else us.getD k 0 := fun k => by rw [← HUS.out]; exact getD_set1 us ee k _ (by have := HSO.out.len; rw [← HUS.out] at this; simp at this; omega)
        have HGD := Lib.hid hgd
        clear hgd
        go_wp2_with fail
        refine (closed_any p 8 us2 _ HSO.out (ee : Int)).mono ?_
        rintro e wq6 ⟨rfl, hmm⟩
        have HSO1 := Lib.hid (HSO.out.keep hmm (fun e => e))
        clear HSO
        have HSO := HSO1
        clear HSO1
        have HQ1 := Lib.hid (HQ.out.keep hmm (fun e => e))
        clear HQ
        have HQ := HQ1
        clear HQ1
        replace HS := Lib.hid (HS.out.step (Mod.upF hmm))
        clear hmm
        rw [closedB_gd us2 8 ee HSO.out.len he8 (by omega), HGD.out ee, if_pos rfl, show (1 + (uu : Int) != 0) = true from by simp; omega]
        have cA := HQ.out.cell ee he8
        have hfz := HQ.out.free ee
        have he8i : (ee : Int) < 8 := by omega
        have lq := HQ.out.lt
        go_wp2_with fail
        go_roundw
        case rel => exact ⟨j + 1, us2, hlt, by go_num, by rw [← HUS.out]; exact HTM.out.set ee _ (.inr (by omega)), HSO.out.keep (Mod.setCell (F := fun k => k = q) _ ⟨q, ee, none⟩ _ rfl) hpq, HQ.out.set ee _ _ (fun k _ => HGD.out k), ((HS.out.now).2.1).ofF (Mod.setCell (F := (fun k => k = p ∨ k = q)) _ ⟨q, ee, none⟩ _ (Or.inr rfl))⟩
        case measure => simp [intOf]; omega
    case neg =>
      obtain rfl : j = m := by omega
      have z0 : decide ((j : Int) < (j : Int)) = false := by simp
      go_wp2_with fail
      clear z0
      replace HS := Lib.hid ((EvF.mod (fun k => k = p ∨ k = q) wo).and HS.out)
      go_loopw [14] (fun i wr => ∃ (t : Nat) (us : List Int), 1 ≤ t ∧ (t : Int) ≤ va + 1 ∧ i = .int .i64 t ∧ Tm us t ∧ SO wr p 8 us ∧ Q8 48 wr q (fun k => us.getD k 0) ∧ Mod (fun k => k = p ∨ k = q) wo wr) (fun i _ => (va + 1).toNat - (intOf i).toNat)
      case atStart => exact ⟨1, us, by omega, by omega, rfl, HTM.out, HSO.out, HQ.out, Mod.refl _ _⟩
      case round =>
        obtain ⟨t, us, ht1, htv, rfl, htm, hso, hqq, hmr⟩ := hrel
        obtain ⟨wt, hwo⟩ : ∃ x : World, x = wr := ⟨_, rfl⟩
        subst hwo
        clear HSO HQ HTM
        have HSO := Lib.hid hso
        have HQ := Lib.hid hqq
        have HTM := Lib.hid htm
        clear hso hqq htm
        replace HS := Lib.hid (HS.out.step hmr)
        clear hmr
        by_cases hle : (t : Int) ≤ va
        case neg =>
          have z0 : decide ((t : Int) ≤ va) = false := by simp; omega
          go_wp2_with fail
          refine (awake10_any _).mono ?_
          rintro e wq7 ⟨rfl, hmm⟩
          have HSO1 := Lib.hid (HSO.out.keep hmm (fun e => e))
          clear HSO
          have HSO := HSO1
          clear HSO1
          have HQ1 := Lib.hid (HQ.out.keep hmm (fun e => e))
          clear HQ
          have HQ := HQ1
          clear HQ1
          replace HS := Lib.hid (HS.out.step (Mod.upF hmm))
          clear hmm
          go_wp2_with fail
          go_ret
          exact ⟨rfl, HM0.out.old ((HS.out.now).2.2.2) (fun i hi => by have h1 := HPB.out; have h2 := HQB.out; rcases hi with hi | hi <;> omega)⟩
        case pos =>
          have z0 : decide ((t : Int) ≤ va) = true := by simp; omega
          obtain ⟨m8, hm8⟩ : ∃ k, t % 8 = k := ⟨_, rfl⟩
          have hm88 : m8 < 8 := by omega
          have hrem : ((t : Int)).tmod 8 = (m8 : Int) := by rw [Int.tmod_eq_emod_of_nonneg (by omega)]; omega
          have hrem2 : (t : Int) % 8 = (m8 : Int) := by omega
          have HM8 := Lib.hid hm8
          clear hm8
          replace HS := Lib.hid ((EvF.mod (fun k => k = p ∨ k = q) wt).and HS.out)
          go_upto_if 80 with fail
          go_cut [15, 16] (fun _ _ wx => LsSt 48 p q t wt wx (fun W us => SO W p 8 us))
          case first =>
            by_cases hop : (t : Int) = vb
            case neg =>
              have zq : ((t : Int) == vb) = false := beq_eq_false_iff_ne.2 hop
              go_wp2_with fail
              go_meet
              exact ⟨us, HTM.out, HSO.out, HQ.out, (HS.out.now).1⟩
            case pos =>
              have zq : ((t : Int) == vb) = true := by simp [hop]
              have HOP := Lib.hid hop
              clear hop
              obtain ⟨cu, HCU0⟩ : ∃ qz, us.getD m8 0 = qz := ⟨_, rfl⟩
              have HCU := Lib.hid HCU0
              clear HCU0
              have hml : m8 < us.length := by rw [HSO.out.len]; omega
              have hcg : us[m8] = cu := by rw [← HCU.out]; simp [List.getD, hml]
              have HCG := Lib.hid hcg
              clear hcg
              have hcu0 : 0 ≤ cu := by have := HTM.out m8 hm88; rw [HCU.out] at this; omega
              by_cases hcz : cu = 0
              case pos =>
                go_wp2_with fail
                refine (open_as p 8 us _ (HSO.out.keep (Mod.alloc (fun _ => False) _ _) (fun e => e)) _ _ _ [(m8 : Int)] (xr_lit HSO.out.blk.lt 3 [(m8 : Int)] 1 _ rfl rfl (by omega)) (by omega) (by unfold hasB; simp only [List.all_cons, List.all_nil, Bool.and_true]; exact decide_eq_true ⟨by omega, by omega⟩) [] (by rw [turn_open us m8 hml, HCG.out, if_pos hcz]; exact srtI_nil) 0 rfl (us.set m8 0) rfl).mono ?_
                rintro e wq8 ⟨xa, xc, rfl, _, hsn, hmm⟩
                have hmt : Mod (fun k => k = p) wt wq8 := (Mod.mono (Mod.alloc (fun _ => False) _ _) (fun _ _ e => e.elim)).ofF hmm
                have HQ1 := Lib.hid (HQ.out.keep hmt hqp)
                clear HQ
                have HQ := HQ1
                clear HQ1
                clear HSO
                have HSO := Lib.hid hsn
                replace HS := Lib.hid (HS.out.step (Mod.mono hmt (fun _ _ e => Or.inl e)))
                clear hmm hmt hsn
                clear zq
                have cA := HQ.out.cell m8 hm88
                rw [HCU.out] at cA
                have hfz := HQ.out.free m8
                have hm8i : (m8 : Int) < 8 := by omega
                have lq := HQ.out.lt
                have zc : decide (0 < cu) = false := by simp; omega
                go_wp2_with fail
                go_meet
                exact ⟨us.set m8 0, HTM.out.set m8 0 (.inl rfl), HSO.out.keep (Mod.setCell (F := fun k => k = q) _ ⟨q, m8, none⟩ _ rfl) hpq, HQ.out.set m8 0 _ (fun k _ => getD_set0 us m8 k), ((HS.out.now).1).ofF (Mod.setCell (F := (fun k => k = p ∨ k = q)) _ ⟨q, m8, none⟩ _ (Or.inr rfl))⟩
              case neg =>
                go_wp2_with fail
                refine (open_as p 8 us _ (HSO.out.keep (Mod.alloc (fun _ => False) _ _) (fun e => e)) _ _ _ [(m8 : Int)] (xr_lit HSO.out.blk.lt 3 [(m8 : Int)] 1 _ rfl rfl (by omega)) (by omega) (by unfold hasB; simp only [List.all_cons, List.all_nil, Bool.and_true]; exact decide_eq_true ⟨by omega, by omega⟩) [(m8 : Int)] (by rw [turn_open us m8 hml, HCG.out, if_neg hcz]; exact srtI_one _) 1 rfl (us.set m8 0) rfl).mono ?_
                rintro e wq9 ⟨xa, xc, rfl, _, hsn, hmm⟩
                have hmt : Mod (fun k => k = p) wt wq9 := (Mod.mono (Mod.alloc (fun _ => False) _ _) (fun _ _ e => e.elim)).ofF hmm
                have HQ1 := Lib.hid (HQ.out.keep hmt hqp)
                clear HQ
                have HQ := HQ1
                clear HQ1
                clear HSO
                have HSO := Lib.hid hsn
                replace HS := Lib.hid (HS.out.step (Mod.mono hmt (fun _ _ e => Or.inl e)))
                clear hmm hmt hsn
                clear zq
                have cA := HQ.out.cell m8 hm88
                rw [HCU.out] at cA
                have hfz := HQ.out.free m8
                have hm8i : (m8 : Int) < 8 := by omega
                have lq := HQ.out.lt
                have zc : decide (0 < cu) = true := by simp; omega
                go_wp2_with fail
                go_meet
                exact ⟨us.set m8 0, HTM.out.set m8 0 (.inl rfl), HSO.out.keep (Mod.setCell (F := fun k => k = q) _ ⟨q, m8, none⟩ _ rfl) hpq, HQ.out.set m8 0 _ (fun k _ => getD_set0 us m8 k), ((HS.out.now).1).ofF (Mod.setCell (F := (fun k => k = p ∨ k = q)) _ ⟨q, m8, none⟩ _ (Or.inr rfl))⟩
          case rest =>
            clear HSO HQ HTM
            obtain ⟨us1, htm, hso, hqq, hmr⟩ := hcut
            have HSO := Lib.hid hso
            have HQ := Lib.hid hqq
            have HTM := Lib.hid htm
            clear hso hqq htm
            clear z0
            replace HS := Lib.hid (HS.out.step hmr)
            clear hmr
            have HLP : Hid (p < wc.heap.size ∧ q < wc.heap.size) := Lib.hid ⟨HSO.out.blk.lt, HQ.out.lt⟩
            go_wp2_with fail
            refine (lapse_q p us1 _ HSO.out t ht1 HTM.out).mono ?_
            rintro e wq10 ⟨xa, xc, us2, rfl, hxr, hxb, hsn, hgd, htm2, hmm⟩
            have hmt := hmm
            have HQ1 := Lib.hid (HQ.out.keep hmt hqp)
            clear HQ
            have HQ := HQ1
            clear HQ1
            clear HSO
            have HSO := Lib.hid hsn
            replace HS := Lib.hid (HS.out.step (Mod.mono hmt (fun _ _ e => Or.inl e)))
            clear hmm hmt hsn
            have HGD := Lib.hid hgd
            have HTM2 := Lib.hid htm2
            clear hgd htm2
            obtain ⟨zs, hzs⟩ : ∃ z, castN (overE us1 8 t) = z := ⟨_, rfl⟩
            obtain ⟨ln, hln⟩ : ∃ n, (overE us1 8 t).length = n := ⟨_, rfl⟩
            have hln8 : ln ≤ 8 := by rw [← hln]; exact overE_len us1 8 t
            have hzl : zs.length = ln := by rw [← hzs, castN_len, hln]
            have hcnt : ∀ e, e < 8 → us1.getD e 0 = (t : Int) → zs[(overE us1 e t).length]? = some (e : Int) := fun e he h => by rw [← hzs]; unfold castN; rw [List.getElem?_map, overE_at us1 8 e t he h]; rfl
            have hcle : ∀ e, e ≤ 8 → (overE us1 e t).length ≤ ln := fun e he => by rw [← hln]; exact overE_le us1 8 e t he
            rw [hzs, hln] at hxr
            rw [hln] at hxb ⊢
            have HZL := Lib.hid hzl
            have HCNT := Lib.hid hcnt
            have HCLE := Lib.hid hcle
            have HLN := Lib.hid hln
            clear hzs hln hzl hcnt hcle
            replace HS := Lib.hid ((EvF.rdA hxr (fun k hk e => absurd (hxb k hk) (by have h1 := HLP.out; rcases e with e | e <;> omega))).and HS.out)
            clear hxr hxb
            go_wp2_with fail
            replace HS := Lib.hid ((EvF.mod (fun k => k = p ∨ k = q) wq10).and HS.out)
            go_loopw [18, 19] (fun nv i wr => ∃ eN : Nat, eN ≤ 8 ∧ i = .int .i64 eN ∧ nv = .int .i64 ((overE us1 eN t).length : Nat) ∧ SO wr p 8 us2 ∧ Q8 48 wr q (fun k => if k < eN then us2.getD k 0 else us1.getD k 0) ∧ Mod (fun k => k = p ∨ k = q) wq10 wr) (fun _ i _ => 8 - (intOf i).toNat)
            case atStart => exact ⟨0, by omega, rfl, rfl, HSO.out, HQ.out.as (fun k _ => by simp), Mod.refl _ _⟩
            case round =>
              obtain ⟨eN, he8, rfl, rfl, hso, hqq, hmr⟩ := hrel
              obtain ⟨we, hwo⟩ : ∃ x : World, x = wr := ⟨_, rfl⟩
              subst hwo
              clear HSO HQ
              have HSO := Lib.hid hso
              have HQ := Lib.hid hqq
              clear hso hqq
              replace HS := Lib.hid (HS.out.step hmr)
              clear hmr
              obtain ⟨ce, hce⟩ : ∃ n, (overE us1 eN t).length = n := ⟨_, rfl⟩
              have hcl : ce ≤ ln := by rw [← hce]; exact HCLE.out eN he8
              rw [hce]
              have HCE := Lib.hid hce
              clear hce
              by_cases hlt : eN < 8
              case neg =>
                have hz8 : eN = 8 := by omega
                have z3 : decide ((eN : Int) < 8) = false := by simp; omega
                have zc : ((ce : Int) != (ln : Int)) = false := by have h1 := HCE.out; have h2 := HLN.out; rw [hz8, h2] at h1; simp [h1]
                have HZ8 := Lib.hid hz8
                clear hz8
                go_wp2_with fail
                go_roundw
                case rel => exact ⟨t + 1, us2, by omega, by omega, by go_num, HTM2.out, HSO.out, HQ.out.as (fun k hk => by have := HZ8.out; rw [if_pos (by omega)]), (HS.out.now).2.2.2.1⟩
                case measure => simp [intOf]; omega
              case pos =>
                have z3 : decide ((eN : Int) < 8) = true := by simp; omega
                obtain ⟨cu, HCU0⟩ : ∃ qz, us1.getD eN 0 = qz := ⟨_, rfl⟩
                have HCU := Lib.hid HCU0
                clear HCU0
                have cA := HQ.out.cell eN hlt
                simp only [Nat.lt_irrefl, if_false] at cA
                rw [HCU.out] at cA
                have lq := HQ.out.lt
                have heni : (eN : Int) < 8 := by omega
                replace HS := Lib.hid ((EvF.mod (fun k => k = p ∨ k = q) we).and HS.out)
                go_upto_if 116 with fail
                go_cut [18] (fun nv wx => nv = .int .i64 ((overE us1 (eN + 1) t).length : Nat) ∧ SO wx p 8 us2 ∧ Q8 48 wx q (fun k => if k < eN + 1 then us2.getD k 0 else us1.getD k 0) ∧ Mod (fun k => k = p ∨ k = q) we wx)
                case first =>
                  by_cases heq : cu = (t : Int)
                  case neg =>
                    have zq : (cu == (t : Int)) = false := beq_eq_false_iff_ne.2 heq
                    go_wp2_with fail
                    go_meet
                    refine ⟨?_, HSO.out, HQ.out.as (fun k hk => ?_), (HS.out.now).1⟩
                    · rw [overE_succ, HCU.out, zq, HCE.out]; rfl
                    · by_cases hk2 : k = eN
                      · subst hk2; rw [if_pos (by omega), if_neg (by omega), HGD.out k hk, HCU.out, if_neg heq]
                      · by_cases hk3 : k < eN
                        · rw [if_pos (by omega), if_pos hk3]
                        · rw [if_neg (by omega), if_neg hk3]
                  case pos =>
                    have zq : (cu == (t : Int)) = true := by simp [heq]
                    have hzz := HCNT.out eN hlt (by rw [HCU.out, heq])
                    rw [HCE.out] at hzz
                    have hcz : ce < zs.length := by rw [List.getElem?_eq_some_iff] at hzz; exact hzz.1
                    have hcn : ce < ln := by rw [← HZL.out]; exact hcz
                    have hze : zs[ce] = (eN : Int) := by rw [List.getElem?_eq_some_iff] at hzz; exact hzz.2
                    obtain ⟨gb, go_, hpl, k0⟩ := rd1 ((HS.out.now).2.2.1) ce hcz
                    rw [hze] at k0
                    have hix := fun wx => run_indexS (P := Try.prog) wx 28 3 iI 1 Try.underlying28 hiI hsI xa ln xc ce hcn (((HS.out.now).2.2.1).some_ (by omega))
                    rw [hpl] at hix
                    clear hpl hzz hze
                    have zg : decide ((ln : Int) ≤ (ce : Int)) = false := by simp; omega
                    have zn : ((eN : Int) != (eN : Int)) = false := by simp
                    have hfz := HQ.out.free eN
                    go_wp2_with fail
                    go_meet
                    refine ⟨?_, HSO.out.keep (Mod.setCell (F := fun k => k = q) _ ⟨q, eN, none⟩ _ rfl) hpq, HQ.out.set eN 0 _ (fun k hk => ?_), ((HS.out.now).1).ofF (Mod.setCell (F := (fun k => k = p ∨ k = q)) _ ⟨q, eN, none⟩ _ (Or.inr rfl))⟩
                    · rw [overE_succ, HCU.out, zq, HCE.out]; go_num
                    · by_cases hk2 : k = eN
                      · subst hk2; rw [if_pos (by omega), if_pos rfl, HGD.out k hk, HCU.out, if_pos heq]
                      · by_cases hk3 : k < eN
                        · rw [if_pos (by omega), if_neg hk2, if_pos hk3]
                        · rw [if_neg (by omega), if_neg hk2, if_neg hk3]
                case rest =>
                  clear HSO HQ cA lq
                  obtain ⟨hnv, hso, hqq, hmr⟩ := hcut
                  subst hnv
                  have HSO := Lib.hid hso
                  have HQ := Lib.hid hqq
                  clear hso hqq
                  replace HS := Lib.hid (HS.out.step hmr)
                  clear hmr
                  obtain ⟨c2, HC20⟩ : ∃ qz, us2.getD eN 0 = qz := ⟨_, rfl⟩
                  have HC2 := Lib.hid HC20
                  clear HC20
                  obtain ⟨rb, hrb⟩ : ∃ b, decide ((t : Int) < c2) = b := ⟨_, rfl⟩
                  have hr2 : (c2 != 0) = rb := by rw [← hrb]; have h1 := HTM2.out eN hlt; rw [HC2.out] at h1; clear hrb; cases h3 : decide ((t : Int) < c2) with | false => (have h4 := of_decide_eq_false h3; have h5 : c2 = 0 := (by omega); rw [h5]; rfl) | true => (have h4 := of_decide_eq_true h3; exact bne_iff_ne.2 (by omega))
                  have HRB := Lib.hid hrb
                  have HR2 := Lib.hid hr2
                  clear hrb hr2
                  go_upto_region 33 with fail
                  have HSd := Lib.hid HS.out.drew
                  refine wp_region_inv3 (act := ?actla_r33_1) (Mod (fun _ => False)) (fun i => (la_r33_1_F p q t eN c2 rb).getD i (fun _ _ => True)) (fun i => la_r33_1_D.getD i []) (by kernel_rfl) (by kernel_rfl) (by kernel_rfl) (by kernel_rfl) (fun _ => Mod.refl _ _)
                    (fun _ _ _ h k => h.trans k (fun _ _ e => e) (fun _ _ e => e)) ?hactla_r33_1 (stable_list ?_) ?_ ?_
                  case hactla_r33_1 => intro vs; simp only [putAll, Nat.zero_add, Nat.reduceAdd, Act.put, List.setIfInBounds_toArray, List.set_cons_succ, List.set_cons_zero]; exact rfl
                  · unfold la_r33_1_F
                    exact stable_cons (stable_val _) <| stable_cons (stable_val _) <| stable_cons (stable_val _) <| stable_cons (stable_val _) <| stable_cons (stable_val _) <| stable_cons (stable_val _) <| stable_cons (stable_val _) <| stable_cons (stable_val _) <| stable_cons (stable_val _) <| stable_nil
                  · refine opsOkA_cons ?_ ?_
                    · intro K vs W hR hD hK
                      clear hD
                      try dsimp only at hK ⊢
                      simp only [Act.put, List.setIfInBounds_toArray, List.set_cons_succ, List.set_cons_zero] at hK
                      go_wp2
                      exact hK _ _ rfl (Mod.refl _ _)
                    refine opsOkA_cons ?_ ?_
                    · intro K vs W hR hD hK
                      clear hD
                      try dsimp only at hK ⊢
                      simp only [Act.put, List.setIfInBounds_toArray, List.set_cons_succ, List.set_cons_zero] at hK
                      go_wp2
                      exact hK _ _ rfl (Mod.refl _ _)
                    refine opsOkA_cons ?_ ?_
                    · intro K vs W hR hD hK
                      have dq0 : vs 0 = .pointer (some ⟨p, 0, none⟩) := hD 0 (by decide)
                      have dq1 : vs 1 = .int .i64 (eN : Int) := hD 1 (by decide)
                      clear hD
                      try dsimp only at hK ⊢
                      simp only [Act.put, List.setIfInBounds_toArray, List.set_cons_succ, List.set_cons_zero] at hK
                      generalize vs 0 = vq0 at hK dq0 ⊢
                      subst vq0
                      generalize vs 1 = vq1 at hK dq1 ⊢
                      subst vq1
                      go_wp2_with (go_at_call 22; refine (closed_any p 8 us2 W (HSO.out.keep ((Mod.drew (fun _ => False) _).of2 hR) (fun e => e)) (eN : Int)).mono ?_; rintro e' w' ⟨rfl, hm'⟩; rw [closedB_gd us2 8 eN HSO.out.len hlt (by omega), HC2.out, HR2.out])
                      exact hK _ _ rfl hm'
                    refine opsOkA_cons ?_ ?_
                    · intro K vs W hR hD hK
                      clear hD
                      try dsimp only at hK ⊢
                      simp only [Act.put, List.setIfInBounds_toArray, List.set_cons_succ, List.set_cons_zero] at hK
                      go_wp2
                      exact hK _ _ rfl (Mod.refl _ _)
                    refine opsOkA_cons ?_ ?_
                    · intro K vs W hR hD hK
                      have dq3 : vs 3 = .int .i64 (eN : Int) := hD 3 (by decide)
                      clear hD
                      try dsimp only at hK ⊢
                      simp only [Act.put, List.setIfInBounds_toArray, List.set_cons_succ, List.set_cons_zero] at hK
                      generalize vs 3 = vq3 at hK dq3 ⊢
                      subst vq3
                      have heni : (eN : Int) < 8 := by omega
                      go_wp2_with fail
                      exact hK _ _ rfl (Mod.refl _ _)
                    refine opsOkA_cons ?_ ?_
                    · intro K vs W hR hD hK
                      have dq4 : vs 4 = .pointer (some ⟨q, eN, none⟩) := hD 4 (by decide)
                      clear hD
                      try dsimp only at hK ⊢
                      simp only [Act.put, List.setIfInBounds_toArray, List.set_cons_succ, List.set_cons_zero] at hK
                      generalize vs 4 = vq4 at hK dq4 ⊢
                      subst vq4
                      have cA := (HQ.out.keep ((Mod.drew (fun _ => False) _).of2 hR) (fun e => e)).cell eN hlt
                      rw [if_pos (by omega), HC2.out] at cA
                      go_wp2
                      exact hK _ _ rfl (Mod.refl _ _)
                    refine opsOkA_cons ?_ ?_
                    · intro K vs W hR hD hK
                      clear hD
                      try dsimp only at hK ⊢
                      simp only [Act.put, List.setIfInBounds_toArray, List.set_cons_succ, List.set_cons_zero] at hK
                      go_wp2
                      exact hK _ _ rfl (Mod.refl _ _)
                    refine opsOkA_cons ?_ ?_
                    · intro K vs W hR hD hK
                      have dq5 : vs 5 = .int .i64 c2 := hD 5 (by decide)
                      have dq6 : vs 6 = .int .i64 (t : Int) := hD 6 (by decide)
                      clear hD
                      try dsimp only at hK ⊢
                      simp only [Act.put, List.setIfInBounds_toArray, List.set_cons_succ, List.set_cons_zero] at hK
                      generalize vs 5 = vq5 at hK dq5 ⊢
                      subst vq5
                      generalize vs 6 = vq6 at hK dq6 ⊢
                      subst vq6
                      have hrb := HRB.out
                      go_wp2
                      exact hK _ _ rfl (Mod.refl _ _)
                    refine opsOkA_cons ?_ ?_
                    · intro K vs W hR hD hK
                      have dq2 : vs 2 = .bool rb := hD 2 (by decide)
                      have dq7 : vs 7 = .bool rb := hD 7 (by decide)
                      clear hD
                      try dsimp only at hK ⊢
                      simp only [Act.put, List.setIfInBounds_toArray, List.set_cons_succ, List.set_cons_zero] at hK
                      generalize vs 2 = vq2 at hK dq2 ⊢
                      subst vq2
                      generalize vs 7 = vq7 at hK dq7 ⊢
                      subst vq7
                      have zz : (rb != rb) = false := by simp
                      go_wp2
                      exact hK _ _ rfl (Mod.refl _ _)
                    exact opsOkA_nil
                  · intro vs wq11 hR hF
                    have dq8 : vs 8 = .bool false := hF 8 (by decide)
                    clear hF
                    try dsimp only
                    generalize vs 8 = vq8 at dq8 ⊢
                    subst dq8
                    replace HS := Lib.hid (HSd.out.step (Mod.upF hR))
                    have hmd := (Mod.drew (fun _ => False) _).of2 hR
                    have HSO1 := Lib.hid (HSO.out.keep hmd (fun e => e))
                    clear HSO
                    have HSO := HSO1
                    clear HSO1
                    have HQ1 := Lib.hid (HQ.out.keep hmd (fun e => e))
                    clear HQ
                    have HQ := HQ1
                    clear HQ1
                    clear hmd
                    clear HSd hR
                    go_wp2_with fail
                    go_roundw
                    case rel => exact ⟨eN + 1, hlt, by go_num, rfl, HSO.out, HQ.out, (HS.out.now).2.1⟩
                    case measure => simp [intOf]; omega
theorem last_law (w : World) (a : Option Addr) (m c : Nat) (l : List (Int × Int)) (ok : (encSlice (encPair (encInt .i64) (encInt .i64))).ok w (.slice a m c, l)) (va : Int) (_ : (Lit.int .i64 va).wf = true) (vb : Int) (_ : (Lit.int .i64 vb).wf = true) :
    Calls Try.prog 4 #[.slice a m c, .int .i64 va, .int .i64 vb] w fun e w' => e = .returned (.bool true) ∧ Below w.heap.size w w' := by
  obtain ⟨h1, r1⟩ := ok_pairs ok
  exact (last_all w a m c l h1 r1 va vb).mono fun e w' h => ⟨h.1, h.2.below (Nat.le_refl _) (fun _ e => e.elim)⟩
end Go.Proofs.Ythlpednakhjmhaa
