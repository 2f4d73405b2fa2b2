/- The reference's Timer.Start by contract. -/
import Derived.Test.YtfdmjnhhgcidbaaRTm2
import Derived.Test.YtfdmjnhhgcidbaaRowT
import Derived.Test.YtfdmjnhhgcidbaaRegion6
namespace Go.Proofs.Ytfdmjnhhgcidbaa
open Go.RowKit Mile Go.Maps
set_option maxRecDepth 100000
theorem c3W_take (L : List Wt) (k : Nat) : (L.flatMap c3W).take (k * 3) = (L.take k).flatMap c3W := by
  induction L generalizing k with
  | nil => simp
  | cons x l ih =>
    cases k with
    | zero => simp
    | succ k =>
      rw [List.flatMap_cons, List.take_append, List.take_of_length_le (by simp [c3W]; omega), List.take_succ_cons, List.flatMap_cons, ← ih k, show (k + 1) * 3 - (c3W x).length = k * 3 by simp [c3W]; omega]
theorem c3W_drop (L : List Wt) (k : Nat) : (L.flatMap c3W).drop (k * 3) = (L.drop k).flatMap c3W := by
  induction L generalizing k with
  | nil => simp
  | cons x l ih =>
    cases k with
    | zero => simp
    | succ k =>
      rw [List.flatMap_cons, List.drop_append, List.drop_of_length_le (by simp [c3W]; omega), List.drop_succ_cons, ← ih k, show (k + 1) * 3 - (c3W x).length = k * 3 by simp [c3W]; omega]
      rfl
theorem c3W_one (L : List Wt) : ∀ u ∈ L.flatMap c3W, u.oneCell' = true := by
  intro u hu
  obtain ⟨e, _, he⟩ := List.mem_flatMap.1 hu
  simp [c3W] at he
  rcases he with rfl | rfl | rfl <;> rfl
theorem rtwait0_at (w : World) (p : Nat) (sv : Value) (B M R : Nat) (hB : 1 ≤ B) (hM : B ≤ M) (hx : M ≤ 1000) (h : Blk w p 168 [.int .i64 (B : Int), .int .i64 (M : Int), .int .i64 (R : Int), sv]) :
    Calls Try.prog 94 #[.pointer (some ⟨p, 0, none⟩), .int .i64 0] w fun e w' => e = .returned (.int .i64 (B : Int)) ∧ w = w' := by
  have h1 := rtwait_at w p sv B M R hB hM hx h 0 (by decide)
  rwa [show (0 : Int).toNat = 0 from rfl, waitN_zero hM] at h1
/-- What each operation of the statement leaves. -/
def rs_r4_0_F (q : Nat) (B : Nat) (n2 : Nat) (c2 : Nat) (B0 : Nat) (id : Int) (now : Int) (a2 : Option Addr) (L2 : List Wt) (j : Nat) : List FactP :=
  [(true, fun _ => IsV (.pointer (some ⟨q, 0, none⟩))),
   (false, fun _ => EmpT 192 3 B0),
   (true, fun _ => IsV (.pointer (some ⟨q, 0, none⟩))),
   (true, fun _ => IsV (.pointer (some ⟨q, 0, none⟩))),
   (true, fun _ => IsV (.pointer (some ⟨q, 3, none⟩))),
   (true, fun _ => IsV (.slice a2 n2 c2)),
   (true, fun _ => IsV (.int .i64 (j : Int))),
   (true, fun _ => IsV (.slice a2 j c2)),
   (false, fun _ => OwnT 192 3 B0 (j) ((L2.take j).flatMap c3W)),
   (true, fun _ => IsV (.int .i64 id)),
   (true, fun _ => IsV (.int .i64 now)),
   (true, fun _ => IsV (.pointer (some ⟨q, 0, none⟩))),
   (true, fun _ => IsV (.int .i64 (B : Int))),
   (true, fun _ => IsV (.int .i64 (now + (B : Int)))),
   (true, fun _ => IsV (.agg #[.int .i64 id, .int .i64 (now + (B : Int)), .int .i64 0])),
   (false, fun _ => LitT 3 [.int .i64 id, .int .i64 (now + (B : Int)), .int .i64 0]),
   (false, fun _ => OwnT 192 3 B0 (j + 1) ((L2.take j).flatMap c3W ++ [.int .i64 id, .int .i64 (now + (B : Int)), .int .i64 0])),
   (true, fun _ => IsV (.pointer (some ⟨q, 0, none⟩))),
   (true, fun _ => IsV (.pointer (some ⟨q, 0, none⟩))),
   (true, fun _ => IsV (.pointer (some ⟨q, 3, none⟩))),
   (true, fun _ => IsV (.slice a2 n2 c2)),
   (true, fun _ => IsV (.int .i64 (j : Int))),
   (true, fun _ => IsV (.slice (dropA a2 c2 j 3) (n2 - j) (c2 - j))),
   (false, fun _ => OwnT 192 3 B0 (j + 1 + (n2 - j)) ((L2.take j).flatMap c3W ++ [.int .i64 id, .int .i64 (now + (B : Int)), .int .i64 0] ++ (L2.drop j).flatMap c3W)),
   (true, fun _ => IsV (.pointer (some ⟨q, 0, none⟩))),
   (true, fun _ => IsV (.pointer (some ⟨q, 3, none⟩)))]
def rs_r4_0_D : List (List Nat) := [[], [], [], [2], [3], [4], [], [5, 6], [1, 7], [], [], [], [11], [10, 12], [9, 13], [14], [8, 15], [], [17], [18], [19], [], [20, 21], [16, 22], [0], [24]]
def rs_r4_0_C : List Nat := [1000, 8, 1000, 1000, 1000, 1000, 1000, 1000, 16, 1000, 1000, 1000, 1000, 1000, 1000, 16, 23, 1000, 1000, 1000, 1000, 1000, 1000, 1000, 1000, 1000]

/-- What each operation of the statement leaves. -/
def rs_r4_1_F (q : Nat) (B : Nat) (n2 : Nat) (c2 : Nat) (B0 : Nat) (id : Int) (now : Int) (a2 : Option Addr) (L2 : List Wt) (j : Nat) : List FactP :=
  [(true, fun _ => IsV (.pointer (some ⟨q, 0, none⟩))),
   (false, fun _ => EmpT 192 3 B0),
   (true, fun _ => IsV (.pointer (some ⟨q, 0, none⟩))),
   (true, fun _ => IsV (.pointer (some ⟨q, 0, none⟩))),
   (true, fun _ => IsV (.pointer (some ⟨q, 3, none⟩))),
   (true, fun _ => IsV (.slice a2 n2 c2)),
   (true, fun _ => IsV (.int .i64 (j : Int))),
   (true, fun _ => IsV (.slice a2 j c2)),
   (false, fun _ => OwnT 192 3 B0 (j) ((L2.take j).flatMap c3W)),
   (true, fun _ => IsV (.int .i64 id)),
   (true, fun _ => IsV (.int .i64 now)),
   (true, fun _ => IsV (.pointer (some ⟨q, 0, none⟩))),
   (true, fun _ => IsV (.int .i64 (B : Int))),
   (true, fun _ => IsV (.int .i64 (now + (B : Int)))),
   (true, fun _ => IsV (.agg #[.int .i64 id, .int .i64 (now + (B : Int)), .int .i64 0])),
   (false, fun _ => LitT 3 [.int .i64 id, .int .i64 (now + (B : Int)), .int .i64 0]),
   (false, fun _ => OwnT 192 3 B0 (j + 1) ((L2.take j).flatMap c3W ++ [.int .i64 id, .int .i64 (now + (B : Int)), .int .i64 0])),
   (true, fun _ => IsV (.pointer (some ⟨q, 0, none⟩))),
   (true, fun _ => IsV (.pointer (some ⟨q, 0, none⟩))),
   (true, fun _ => IsV (.pointer (some ⟨q, 3, none⟩))),
   (true, fun _ => IsV (.slice a2 n2 c2)),
   (true, fun _ => IsV (.int .i64 (j : Int))),
   (true, fun _ => IsV (.slice (dropA a2 c2 j 3) (n2 - j) (c2 - j))),
   (false, fun _ => OwnT 192 3 B0 (j + 1 + (n2 - j)) ((L2.take j).flatMap c3W ++ [.int .i64 id, .int .i64 (now + (B : Int)), .int .i64 0] ++ (L2.drop j).flatMap c3W)),
   (true, fun _ => IsV (.pointer (some ⟨q, 0, none⟩))),
   (true, fun _ => IsV (.pointer (some ⟨q, 3, none⟩)))]
def rs_r4_1_D : List (List Nat) := [[], [], [], [2], [3], [4], [], [5, 6], [1, 7], [], [], [], [11], [10, 12], [9, 13], [14], [8, 15], [], [17], [18], [19], [], [20, 21], [16, 22], [0], [24]]
def rs_r4_1_C : List Nat := [1000, 8, 1000, 1000, 1000, 1000, 1000, 1000, 16, 1000, 1000, 1000, 1000, 1000, 1000, 16, 23, 1000, 1000, 1000, 1000, 1000, 1000, 1000, 1000, 1000]

set_option maxHeartbeats 16000000 in
theorem rtstart_any (w : World) (q : Nat) (a : Option Addr) (n c B M R : Nat) (L : List Wt) (h : RT w q a n c B M R L) (hrise : RiseW L) (hL : n ≤ 1000000) (id now : Int) (hnow : -4611686018427387904 ≤ now ∧ now ≤ 4611686018427387904) :
    Calls Try.prog 91 #[.pointer (some ⟨q, 0, none⟩), .int .i64 id, .int .i64 now] w fun e w' => e = .returned (.tuple #[]) ∧ ∃ a' n' c', RT w' q a' n' c' B M R (putW L ⟨id, now + (B : Int), 0⟩) ∧ (∀ k, (Value.slice a' n' c').ownBlock = some k → w.heap.size ≤ k) ∧ Mod (fun k => k = q) w w' := by
  obtain ⟨iW, hiW, hzW, hsW, hbW⟩ := info_parts RT.infoW
  have HT := Lib.hid h
  have HRI := Lib.hid hrise
  have hqlt := h.blk.lt
  have hb1 := h.b1
  have hbm := h.bm
  have hmx := h.mx
  clear h hrise
  have hwr : IntKind.i64.wrap (now + (B : Int)) = now + (B : Int) := IntWalk.i64_in _ (by omega)
  go_enter Try.func91, Try.ntmps91
  go_wp2_with fail
  refine (rtstop_any w q a n c B M R L HT.out hL id).mono ?_
  rintro e w1 ⟨rfl, a2, n2, c2, ht2, hlow, hm1⟩
  have hnn : n2 ≤ n := by have h1 := ht2.len; have h2 := (stopW_sub L id).length_le; have h3 := HT.out.len; omega
  obtain ⟨L2, hL2⟩ : ∃ l, stopW L id = l := ⟨_, rfl⟩
  have hrs2 := HRI.out.stop id
  have hne2 : ∀ y ∈ stopW L id, y.id ≠ id := fun y hy => (mem_stopW.1 hy).2
  rw [hL2] at ht2 hrs2 hne2
  have HPUT : Hid (putW L ⟨id, now + (B : Int), 0⟩ = insW ⟨id, now + (B : Int), 0⟩ L2) := Lib.hid (by unfold putW; rw [← hL2])
  have HRS2 := Lib.hid hrs2
  have HNE2 := Lib.hid hne2
  have HM1 := Lib.hid hm1
  have HLOW := Lib.hid hlow
  have hlen2 := ht2.len
  have hc2 : n2 ≤ c2 := by obtain ⟨_, _, _, h1, h2, _⟩ := ht2.rd; rename_i x1 x2; cases h1; exact h2
  have h2lt := ht2.blk.lt
  have HS : Hid (Ev (Mod (fun _ => False) w1) w1) := Lib.hid (Ev.mod w1)
  replace HS := Lib.hid ((Ev.rt ht2).and HS.out)
  replace HS := Lib.hid ((Ev.blk ht2.blk).and HS.out)
  clear hL2 hrs2 hne2 hm1 hlow ht2
  have hbq := (HS.out.now).1
  have qq_0 := hbq.cell 0 rfl
  have qq_1 := hbq.cell 1 rfl
  have qq_2 := hbq.cell 2 rfl
  have qq_3 := hbq.cell 3 rfl
  have lq := hbq.lt
  clear hbq
  go_wp2_with fail
  go_loopw [6] (fun v wr => ∃ j : Nat, v = .int .i64 j ∧ j ≤ n2 ∧ (∀ y ∈ L2.take j, y.id < id) ∧ w1 = wr) (fun v _ => n2 - (intOf v).toNat)
  case atStart => exact ⟨0, rfl, Nat.zero_le _, fun y hy => (by simp at hy), rfl⟩
  case round =>
    obtain ⟨j, rfl, hj, hall, rfl⟩ := hrel
    have HALL := Lib.hid hall
    clear hall
    by_cases hc : ∃ hjl : j < L2.length, L2[j].id < id
    case pos =>
      obtain ⟨hjl, hlt⟩ := hc
      have hjn : j < n2 := by omega
      have z0 : decide ((j : Int) < (n2 : Int)) = true := by simp; omega
      have z1 : decide (j < n2) = true := by simpa using hjn
      have hrd := ((HS.out.now).2.1).rd
      obtain ⟨eb, eo, hpl, e0, e1, e2⟩ := rd3w hrd j hjl
      have hix := fun wx => run_indexS (P := Try.prog) wx 166 192 iW 3 Try.underlying166 hiW hsW a2 n2 c2 j hjn (hrd.some_ (by omega))
      rw [hpl] at hix
      have hsn : ∀ y ∈ L2.take (j + 1), y.id < id := fun y hy => by rw [List.take_succ_eq_append_getElem hjl, List.mem_append, List.mem_singleton] at hy; exact hy.elim (fun h => HALL.out y h) (fun h => by rw [h]; exact hlt)
      have HSN := Lib.hid hsn
      clear hsn
      obtain ⟨x0, hx0⟩ : ∃ x, L2[j].id = x := ⟨_, rfl⟩
      rw [hx0] at e0 hlt
      have z2 : decide (x0 < id) = true := by simpa using hlt
      clear hx0 hpl hrd e1 e2
      go_wp2_with fail
      go_roundw
      case rel => exact ⟨j + 1, by go_num, hjn, HSN.out, trivial⟩
      case measure => simp [intOf]; omega
    case neg =>
      have HC := Lib.hid hc
      clear hc
      have hins : insW ⟨id, now + (B : Int), 0⟩ L2 = L2.take j ++ ⟨id, now + (B : Int), 0⟩ :: L2.drop j := by
        have h := insW_mid (x := ⟨id, now + (B : Int), 0⟩) (A := L2.take j) (fun y hy => by have := HALL.out y hy; show ¬ id < y.id; omega) (Q := L2.drop j) (fun y hy => ?_)
        · rwa [List.take_append_drop] at h
        · obtain ⟨k, hk, rfl⟩ := List.mem_iff_getElem.1 hy
          rw [List.getElem_drop]
          have hkl : j + k < L2.length := by simp at hk; omega
          have hj0 : j < L2.length := by omega
          have h1 : ¬ L2[j].id < id := fun x => HC.out ⟨hj0, x⟩
          have h2 := HNE2.out _ (List.getElem_mem hj0)
          show id < L2[j + k].id
          rcases Nat.eq_zero_or_pos k with rfl | hk0
          · simp only [Nat.add_zero]; omega
          · have h3 := List.pairwise_iff_getElem.1 HRS2.out j (j + k) (by simpa using hj0) (by simpa using hkl) (by omega)
            rw [List.getElem_map, List.getElem_map] at h3
            omega
      have HINS := Lib.hid hins
      clear hins
      have hgd : (decide ((j : Int) < (n2 : Int)) = false) ∨ (∃ hjl : j < L2.length, ¬ L2[j].id < id) := by
        by_cases h : j < L2.length
        · exact .inr ⟨h, fun x => HC.out ⟨h, x⟩⟩
        · exact .inl (by simp; omega)
      have htk := fun wx => run_takeS (P := Try.prog) wx 166 192 iW Try.underlying166 hiW a2 n2 c2 j (by omega)
      have hdk := fun wx => run_dropS (P := Try.prog) wx 166 192 iW 3 Try.underlying166 hiW hsW a2 n2 c2 j hj
      have HTK := Lib.hid htk
      have HDK := Lib.hid hdk
      clear htk hdk
      have hrt2 := ((HS.out.now).2.1).rd.take (n := j) hj
      have hrd2 := ((HS.out.now).2.1).rd.drop (n := j) hj
      rw [c3W_take] at hrt2
      rw [c3W_drop] at hrd2
      replace HS := Lib.hid ((Ev.rd hrt2).and HS.out)
      replace HS := Lib.hid ((Ev.rd hrd2).and HS.out)
      clear hrt2 hrd2
      clear qq_0 qq_1 qq_2 qq_3 lq
      have hbq := (HS.out.now).2.2.1
      have qq_0 := hbq.cell 0 rfl
      have qq_1 := hbq.cell 1 rfl
      have qq_2 := hbq.cell 2 rfl
      have qq_3 := hbq.cell 3 rfl
      have lq := hbq.lt
      clear hbq
      rcases hgd with z0 | ⟨hjl, hge⟩
      · skip
        have z1 : decide (j < n2) = false := by have := z0; simp at this; simp; omega
        obtain ⟨B0, hB0⟩ : ∃ n, w1.heap.size = n := ⟨_, rfl⟩
        have HB0 := Lib.hid hB0
        clear hB0
        have HOLD : Hid (∀ W, Mod (fun k => B0 ≤ k) (World.drew w1) W → Mod (fun _ => False) (World.drew w1) W) := Lib.hid fun W h => h.mono (fun i hi e => by have := HB0.out; simp at hi; omega)
        go_upto_region 4 with fail
        clear qq_0 qq_1 qq_2 qq_3 lq
        have HSd := Lib.hid HS.out.drew
        have HST : ∀ (ix : Nat) (vs : Nat → Value) (vx : Value) (wx wy : World), factP (rs_r4_0_F q B n2 c2 B0 id now a2 L2 j) ix vs vx wx → Mod (fun _ => False) wx wy → factP (rs_r4_0_F q B n2 c2 B0 id now a2 L2 j) ix vs vx wy := by
          refine factP_stays ?_
          unfold rs_r4_0_F
          exact stableP_cons (StableP.of (stable_val _)) <| stableP_cons (StableP.of (EmpT.st)) <| stableP_cons (StableP.of (stable_val _)) <| stableP_cons (StableP.of (stable_val _)) <| stableP_cons (StableP.of (stable_val _)) <| stableP_cons (StableP.of (stable_val _)) <| stableP_cons (StableP.of (stable_val _)) <| stableP_cons (StableP.of (stable_val _)) <| stableP_cons (StableP.of (OwnT.st)) <| stableP_cons (StableP.of (stable_val _)) <| stableP_cons (StableP.of (stable_val _)) <| stableP_cons (StableP.of (stable_val _)) <| stableP_cons (StableP.of (stable_val _)) <| stableP_cons (StableP.of (stable_val _)) <| stableP_cons (StableP.of (stable_val _)) <| stableP_cons (StableP.of (LitT.st)) <| stableP_cons (StableP.of (OwnT.st)) <| stableP_cons (StableP.of (stable_val _)) <| stableP_cons (StableP.of (stable_val _)) <| stableP_cons (StableP.of (stable_val _)) <| stableP_cons (StableP.of (stable_val _)) <| stableP_cons (StableP.of (stable_val _)) <| stableP_cons (StableP.of (stable_val _)) <| stableP_cons (StableP.of (OwnT.st)) <| stableP_cons (StableP.of (stable_val _)) <| stableP_cons (StableP.of (stable_val _)) <| stableP_nil
        have HSO : ∀ px ∈ (rs_r4_0_F q B n2 c2 B0 id now a2 L2 j), px.1 = true → ∀ (vs : Nat → Value) (vx : Value) (wx wy : World), px.2 vs vx wx → px.2 vs vx wy := by
          unfold rs_r4_0_F
          exact solidP_cons (solid_val _) <| solidP_cons (fun h => by cases h) <| solidP_cons (solid_val _) <| solidP_cons (solid_val _) <| solidP_cons (solid_val _) <| solidP_cons (solid_val _) <| solidP_cons (solid_val _) <| solidP_cons (solid_val _) <| solidP_cons (fun h => by cases h) <| solidP_cons (solid_val _) <| solidP_cons (solid_val _) <| solidP_cons (solid_val _) <| solidP_cons (solid_val _) <| solidP_cons (solid_val _) <| solidP_cons (solid_val _) <| solidP_cons (fun h => by cases h) <| solidP_cons (fun h => by cases h) <| solidP_cons (solid_val _) <| solidP_cons (solid_val _) <| solidP_cons (solid_val _) <| solidP_cons (solid_val _) <| solidP_cons (solid_val _) <| solidP_cons (solid_val _) <| solidP_cons (fun h => by cases h) <| solidP_cons (solid_val _) <| solidP_cons (solid_val _) <| solidP_nil
        have HLO : LocL (fun i => rs_r4_0_D.getD i []) 0 (rs_r4_0_F q B n2 c2 B0 id now a2 L2 j) := by
          unfold rs_r4_0_F
          exact loc_cons (loc_own _) <| loc_cons (loc_own _) <| loc_cons (loc_own _) <| loc_cons (loc_own _) <| loc_cons (loc_own _) <| loc_cons (loc_own _) <| loc_cons (loc_own _) <| loc_cons (loc_own _) <| loc_cons (loc_own _) <| loc_cons (loc_own _) <| loc_cons (loc_own _) <| loc_cons (loc_own _) <| loc_cons (loc_own _) <| loc_cons (loc_own _) <| loc_cons (loc_own _) <| loc_cons (loc_own _) <| loc_cons (loc_own _) <| loc_cons (loc_own _) <| loc_cons (loc_own _) <| loc_cons (loc_own _) <| loc_cons (loc_own _) <| loc_cons (loc_own _) <| loc_cons (loc_own _) <| loc_cons (loc_own _) <| loc_cons (loc_own _) <| loc_cons (loc_own _) <| loc_nil
        refine wp_region_pair (act := ?actrs_r4_0) (Mod (fun k => B0 ≤ k)) (factP (rs_r4_0_F q B n2 c2 B0 id now a2 L2 j)) (fun i => rs_r4_0_C.getD i 1000) (fun i => rs_r4_0_D.getD i []) 26 _ rfl rfl (by kernel_rfl) (by kernel_rfl) (by kernel_rfl) (by kernel_rfl) (by kernel_rfl) (fun _ => Mod.refl _ _)
          (fun _ _ _ h k => h.trans k (fun _ _ e => e) (fun _ _ e => e)) ?hactrs_r4_0 (loc_of HLO) ?_ ?_
        case hactrs_r4_0 => intro vs; simp only [putAll, Nat.zero_add, Nat.reduceAdd, Act.put, List.setIfInBounds_toArray, List.set_cons_succ, List.set_cons_zero]; exact rfl
        · refine opsOkP_cons ?_ ?_
          · intro K vs W hR hD hN hK
            clear hD
            clear hN
            try dsimp only at hK ⊢
            simp only [Act.put, List.setIfInBounds_toArray, List.set_cons_succ, List.set_cons_zero] at hK
            go_wp2
            exact hK _ _ rfl (fun _ _ h => h) (Mod.refl _ _)
          refine opsOkP_cons ?_ ?_
          · intro K vs W hR hD hN hK
            clear hD
            clear hN
            try dsimp only at hK ⊢
            simp only [Act.put, List.setIfInBounds_toArray, List.set_cons_succ, List.set_cons_zero] at hK
            have hz := (show B0 ≤ W.heap.size from (by have h1 := HB0.out; have h2 := hR.size; simp at h2; omega))
            go_wp2
            exact hK _ _ ⟨_, rfl, Own.rebase (own_empty W 192 3 W.heap.size rfl) (low_lit hz)⟩ (fun j _ h => HST j vs _ _ _ h (Mod.alloc _ _ _)) (Mod.alloc _ _ _)
          refine opsOkP_cons ?_ ?_
          · intro K vs W hR hD hN hK
            clear hD
            clear hN
            try dsimp only at hK ⊢
            simp only [Act.put, List.setIfInBounds_toArray, List.set_cons_succ, List.set_cons_zero] at hK
            go_wp2
            exact hK _ _ rfl (fun _ _ h => h) (Mod.refl _ _)
          refine opsOkP_cons ?_ ?_
          · intro K vs W hR hD hN hK
            have dq2 : vs 2 = .pointer (some ⟨q, 0, none⟩) := hD 2 (by decide)
            clear hD
            clear hN
            try dsimp only at hK ⊢
            simp only [Act.put, List.setIfInBounds_toArray, List.set_cons_succ, List.set_cons_zero] at hK
            generalize vs 2 = vq2 at hK dq2 ⊢
            subst vq2
            go_wp2
            exact hK _ _ rfl (fun _ _ h => h) (Mod.refl _ _)
          refine opsOkP_cons ?_ ?_
          · intro K vs W hR hD hN hK
            have dq3 : vs 3 = .pointer (some ⟨q, 0, none⟩) := hD 3 (by decide)
            clear hD
            clear hN
            try dsimp only at hK ⊢
            simp only [Act.put, List.setIfInBounds_toArray, List.set_cons_succ, List.set_cons_zero] at hK
            generalize vs 3 = vq3 at hK dq3 ⊢
            subst vq3
            go_wp2
            exact hK _ _ rfl (fun _ _ h => h) (Mod.refl _ _)
          refine opsOkP_cons ?_ ?_
          · intro K vs W hR hD hN hK
            have dq4 : vs 4 = .pointer (some ⟨q, 3, none⟩) := hD 4 (by decide)
            clear hD
            clear hN
            try dsimp only at hK ⊢
            simp only [Act.put, List.setIfInBounds_toArray, List.set_cons_succ, List.set_cons_zero] at hK
            generalize vs 4 = vq4 at hK dq4 ⊢
            subst vq4
            have q0 := ((HSd.out.at (HOLD.out W hR)).2.2.1).cell 3 rfl
            go_wp2
            exact hK _ _ rfl (fun _ _ h => h) (Mod.refl _ _)
          refine opsOkP_cons ?_ ?_
          · intro K vs W hR hD hN hK
            clear hD
            clear hN
            try dsimp only at hK ⊢
            simp only [Act.put, List.setIfInBounds_toArray, List.set_cons_succ, List.set_cons_zero] at hK
            go_wp2
            exact hK _ _ rfl (fun _ _ h => h) (Mod.refl _ _)
          refine opsOkP_cons ?_ ?_
          · intro K vs W hR hD hN hK
            have dq5 : vs 5 = .slice a2 n2 c2 := hD 5 (by decide)
            have dq6 : vs 6 = .int .i64 (j : Int) := hD 6 (by decide)
            clear hD
            clear hN
            try dsimp only at hK ⊢
            simp only [Act.put, List.setIfInBounds_toArray, List.set_cons_succ, List.set_cons_zero] at hK
            generalize vs 5 = vq5 at hK dq5 ⊢
            subst vq5
            generalize vs 6 = vq6 at hK dq6 ⊢
            subst vq6
            have htk := HTK.out
            go_wp2_with fail
            exact hK _ _ rfl (fun _ _ h => h) (Mod.refl _ _)
          refine opsOkP_cons ?_ ?_
          · intro K vs W hR hD hN hK
            have dq1 : (EmpT 192 3 B0) (vs 1) W := hD 1 (by decide)
            have dq7 : vs 7 = .slice a2 j c2 := hD 7 (by decide)
            clear hD
            clear hN
            try dsimp only at hK ⊢
            simp only [Act.put, List.setIfInBounds_toArray, List.set_cons_succ, List.set_cons_zero] at hK
            generalize vs 1 = vq1 at hK dq1 ⊢
            generalize vs 7 = vq7 at hK dq7 ⊢
            subst vq7
            have hz := (show B0 ≤ W.heap.size from (by have h1 := HB0.out; have h2 := hR.size; simp at h2; omega))
            have hrd := (HSd.out.at (HOLD.out W hR)).2.1
            obtain ⟨ae, rfl, ho⟩ := dq1
            go_wp2_with (at_builtin; refine wpList_append_any rfl (.tmp 32) (.tmp 38) 166 rfl 192 iW (.agg #[.int .i64 0, .int .i64 0, .int .i64 0]) 3 24 Try.underlying166 hiW hzW hsW hbW rfl (by decide) _ (0) ([]) rfl (Own.base ho (Nat.zero_le _)) _ (j) ((L2.take j).flatMap c3W) rfl hrd (c3W_one _) (by unfold maxLen; omega) (by omega) ?_; intro v' w' hap)
            obtain ⟨a4, c4, rfl⟩ := hap.form
            have ho4 := hap.own
            have lo4 := hap.low hz (fun k hk => (ho.lt k hk).1)
            have hm4 := hap.still ae 0 0 rfl (by omega)
            simp only [Nat.zero_add, List.nil_append] at ho4 lo4 ⊢
            exact hK _ _ ⟨a4, c4, rfl, Own.rebase ho4 lo4⟩ (fun j _ h => HST j vs _ _ _ h hm4) (hm4.mono (fun _ _ e => e.elim))
          refine opsOkP_cons ?_ ?_
          · intro K vs W hR hD hN hK
            clear hD
            clear hN
            try dsimp only at hK ⊢
            simp only [Act.put, List.setIfInBounds_toArray, List.set_cons_succ, List.set_cons_zero] at hK
            go_wp2
            exact hK _ _ rfl (fun _ _ h => h) (Mod.refl _ _)
          refine opsOkP_cons ?_ ?_
          · intro K vs W hR hD hN hK
            clear hD
            clear hN
            try dsimp only at hK ⊢
            simp only [Act.put, List.setIfInBounds_toArray, List.set_cons_succ, List.set_cons_zero] at hK
            go_wp2
            exact hK _ _ rfl (fun _ _ h => h) (Mod.refl _ _)
          refine opsOkP_cons ?_ ?_
          · intro K vs W hR hD hN hK
            clear hD
            clear hN
            try dsimp only at hK ⊢
            simp only [Act.put, List.setIfInBounds_toArray, List.set_cons_succ, List.set_cons_zero] at hK
            go_wp2
            exact hK _ _ rfl (fun _ _ h => h) (Mod.refl _ _)
          refine opsOkP_cons ?_ ?_
          · intro K vs W hR hD hN hK
            have dq11 : vs 11 = .pointer (some ⟨q, 0, none⟩) := hD 11 (by decide)
            clear hD
            clear hN
            try dsimp only at hK ⊢
            simp only [Act.put, List.setIfInBounds_toArray, List.set_cons_succ, List.set_cons_zero] at hK
            generalize vs 11 = vq11 at hK dq11 ⊢
            subst vq11
            go_wp2_with (go_at_call 94; refine (rtwait0_at W q _ B M R hb1 hbm hmx ((HSd.out.at (HOLD.out W hR)).2.2.1)).mono ?_; rintro e' w' ⟨rfl, rfl⟩)
            exact hK _ _ rfl (fun _ _ h => h) (Mod.refl _ _)
          refine opsOkP_cons ?_ ?_
          · intro K vs W hR hD hN hK
            have dq10 : vs 10 = .int .i64 now := hD 10 (by decide)
            have dq12 : vs 12 = .int .i64 (B : Int) := hD 12 (by decide)
            clear hD
            clear hN
            try dsimp only at hK ⊢
            simp only [Act.put, List.setIfInBounds_toArray, List.set_cons_succ, List.set_cons_zero] at hK
            generalize vs 10 = vq10 at hK dq10 ⊢
            subst vq10
            generalize vs 12 = vq12 at hK dq12 ⊢
            subst vq12
            go_wp2
            exact hK _ _ rfl (fun _ _ h => h) (Mod.refl _ _)
          refine opsOkP_cons ?_ ?_
          · intro K vs W hR hD hN hK
            have dq9 : vs 9 = .int .i64 id := hD 9 (by decide)
            have dq13 : vs 13 = .int .i64 (now + (B : Int)) := hD 13 (by decide)
            clear hD
            clear hN
            try dsimp only at hK ⊢
            simp only [Act.put, List.setIfInBounds_toArray, List.set_cons_succ, List.set_cons_zero] at hK
            generalize vs 9 = vq9 at hK dq9 ⊢
            subst vq9
            generalize vs 13 = vq13 at hK dq13 ⊢
            subst vq13
            go_wp2
            exact hK _ _ rfl (fun _ _ h => h) (Mod.refl _ _)
          refine opsOkP_cons ?_ ?_
          · intro K vs W hR hD hN hK
            have dq14 : vs 14 = .agg #[.int .i64 id, .int .i64 (now + (B : Int)), .int .i64 0] := hD 14 (by decide)
            clear hD
            clear hN
            try dsimp only at hK ⊢
            simp only [Act.put, List.setIfInBounds_toArray, List.set_cons_succ, List.set_cons_zero] at hK
            generalize vs 14 = vq14 at hK dq14 ⊢
            subst vq14
            go_wp2
            exact hK _ _ ⟨_, rfl, by exact Rd.litN _ 3 _ _ _ 1 rfl rfl (by decide)⟩ (fun j _ h => HST j vs _ _ _ h (Mod.alloc _ _ _)) (Mod.alloc _ _ _)
          refine opsOkP_cons ?_ ?_
          · intro K vs W hR hD hN hK
            have dq8 : (OwnT 192 3 B0 (j) ((L2.take j).flatMap c3W)) (vs 8) W := hD 8 (by decide)
            have dq15 : (LitT 3 [.int .i64 id, .int .i64 (now + (B : Int)), .int .i64 0]) (vs 15) W := hD 15 (by decide)
            clear hD
            clear hN
            try dsimp only at hK ⊢
            simp only [Act.put, List.setIfInBounds_toArray, List.set_cons_succ, List.set_cons_zero] at hK
            generalize vs 8 = vq8 at hK dq8 ⊢
            generalize vs 15 = vq15 at hK dq15 ⊢
            have hz := (show B0 ≤ W.heap.size from (by have h1 := HB0.out; have h2 := hR.size; simp at h2; omega))
            obtain ⟨ae, ce, rfl, ho⟩ := dq8
            obtain ⟨pl, rfl, hl⟩ := dq15
            go_wp2_with (at_builtin; refine wpList_append_any rfl (.tmp 39) (.tmp 46) 166 rfl 192 iW (.agg #[.int .i64 0, .int .i64 0, .int .i64 0]) 3 24 Try.underlying166 hiW hzW hsW hbW rfl (by decide) _ (j) ((L2.take j).flatMap c3W) rfl (Own.base ho (Nat.zero_le _)) _ (1) ([.int .i64 id, .int .i64 (now + (B : Int)), .int .i64 0]) rfl hl (by intro u hu; simp at hu; rcases hu with rfl | rfl | rfl <;> rfl) (by unfold maxLen; omega) (by omega) ?_; intro v' w' hap)
            obtain ⟨a4, c4, rfl⟩ := hap.form
            have ho4 := hap.own
            have lo4 := hap.low hz (fun k hk => (ho.lt k hk).1)
            exact hK _ _ ⟨a4, c4, rfl, Own.rebase ho4 lo4⟩ (factP_solid HSO [] 16 (by kernel_rfl) (fun _ h => by cases h)) (hap.mod.mono (fun k _ e => (ho.lt k e).1))
          refine opsOkP_cons ?_ ?_
          · intro K vs W hR hD hN hK
            clear hD
            clear hN
            try dsimp only at hK ⊢
            simp only [Act.put, List.setIfInBounds_toArray, List.set_cons_succ, List.set_cons_zero] at hK
            go_wp2
            exact hK _ _ rfl (fun _ _ h => h) (Mod.refl _ _)
          refine opsOkP_cons ?_ ?_
          · intro K vs W hR hD hN hK
            have dq17 : vs 17 = .pointer (some ⟨q, 0, none⟩) := hD 17 (by decide)
            clear hD
            clear hN
            try dsimp only at hK ⊢
            simp only [Act.put, List.setIfInBounds_toArray, List.set_cons_succ, List.set_cons_zero] at hK
            generalize vs 17 = vq17 at hK dq17 ⊢
            subst vq17
            go_wp2
            exact hK _ _ rfl (fun _ _ h => h) (Mod.refl _ _)
          refine opsOkP_cons ?_ ?_
          · intro K vs W hR hD hN hK
            have dq18 : vs 18 = .pointer (some ⟨q, 0, none⟩) := hD 18 (by decide)
            clear hD
            clear hN
            try dsimp only at hK ⊢
            simp only [Act.put, List.setIfInBounds_toArray, List.set_cons_succ, List.set_cons_zero] at hK
            generalize vs 18 = vq18 at hK dq18 ⊢
            subst vq18
            go_wp2
            exact hK _ _ rfl (fun _ _ h => h) (Mod.refl _ _)
          refine opsOkP_cons ?_ ?_
          · intro K vs W hR hD hN hK
            have dq19 : vs 19 = .pointer (some ⟨q, 3, none⟩) := hD 19 (by decide)
            clear hD
            clear hN
            try dsimp only at hK ⊢
            simp only [Act.put, List.setIfInBounds_toArray, List.set_cons_succ, List.set_cons_zero] at hK
            generalize vs 19 = vq19 at hK dq19 ⊢
            subst vq19
            have q0 := ((HSd.out.at (HOLD.out W hR)).2.2.1).cell 3 rfl
            go_wp2
            exact hK _ _ rfl (fun _ _ h => h) (Mod.refl _ _)
          refine opsOkP_cons ?_ ?_
          · intro K vs W hR hD hN hK
            clear hD
            clear hN
            try dsimp only at hK ⊢
            simp only [Act.put, List.setIfInBounds_toArray, List.set_cons_succ, List.set_cons_zero] at hK
            go_wp2
            exact hK _ _ rfl (fun _ _ h => h) (Mod.refl _ _)
          refine opsOkP_cons ?_ ?_
          · intro K vs W hR hD hN hK
            have dq20 : vs 20 = .slice a2 n2 c2 := hD 20 (by decide)
            have dq21 : vs 21 = .int .i64 (j : Int) := hD 21 (by decide)
            clear hD
            clear hN
            try dsimp only at hK ⊢
            simp only [Act.put, List.setIfInBounds_toArray, List.set_cons_succ, List.set_cons_zero] at hK
            generalize vs 20 = vq20 at hK dq20 ⊢
            subst vq20
            generalize vs 21 = vq21 at hK dq21 ⊢
            subst vq21
            have hdk := HDK.out
            go_wp2_with fail
            exact hK _ _ rfl (fun _ _ h => h) (Mod.refl _ _)
          refine opsOkP_cons ?_ ?_
          · intro K vs W hR hD hN hK
            have dq16 : (OwnT 192 3 B0 (j + 1) ((L2.take j).flatMap c3W ++ [.int .i64 id, .int .i64 (now + (B : Int)), .int .i64 0])) (vs 16) W := hD 16 (by decide)
            have dq22 : vs 22 = .slice (dropA a2 c2 j 3) (n2 - j) (c2 - j) := hD 22 (by decide)
            clear hD
            clear hN
            try dsimp only at hK ⊢
            simp only [Act.put, List.setIfInBounds_toArray, List.set_cons_succ, List.set_cons_zero] at hK
            generalize vs 16 = vq16 at hK dq16 ⊢
            generalize vs 22 = vq22 at hK dq22 ⊢
            subst vq22
            have hz := (show B0 ≤ W.heap.size from (by have h1 := HB0.out; have h2 := hR.size; simp at h2; omega))
            have hrd := (HSd.out.at (HOLD.out W hR)).1
            obtain ⟨ae, ce, rfl, ho⟩ := dq16
            go_wp2_with (at_builtin; refine wpList_append_any rfl (.tmp 47) (.tmp 53) 166 rfl 192 iW (.agg #[.int .i64 0, .int .i64 0, .int .i64 0]) 3 24 Try.underlying166 hiW hzW hsW hbW rfl (by decide) _ (j + 1) ((L2.take j).flatMap c3W ++ [.int .i64 id, .int .i64 (now + (B : Int)), .int .i64 0]) rfl (Own.base ho (Nat.zero_le _)) _ ((n2 - j)) ((L2.drop j).flatMap c3W) rfl hrd (c3W_one _) (by unfold maxLen; omega) (by omega) ?_; intro v' w' hap)
            obtain ⟨a4, c4, rfl⟩ := hap.form
            have ho4 := hap.own
            have lo4 := hap.low hz (fun k hk => (ho.lt k hk).1)
            exact hK _ _ ⟨a4, c4, rfl, Own.rebase ho4 lo4⟩ (factP_solid HSO [] 23 (by kernel_rfl) (fun _ h => by cases h)) (hap.mod.mono (fun k _ e => (ho.lt k e).1))
          refine opsOkP_cons ?_ ?_
          · intro K vs W hR hD hN hK
            have dq0 : vs 0 = .pointer (some ⟨q, 0, none⟩) := hD 0 (by decide)
            clear hD
            clear hN
            try dsimp only at hK ⊢
            simp only [Act.put, List.setIfInBounds_toArray, List.set_cons_succ, List.set_cons_zero] at hK
            generalize vs 0 = vq0 at hK dq0 ⊢
            subst vq0
            go_wp2
            exact hK _ _ rfl (fun _ _ h => h) (Mod.refl _ _)
          refine opsOkP_cons ?_ ?_
          · intro K vs W hR hD hN hK
            have dq24 : vs 24 = .pointer (some ⟨q, 0, none⟩) := hD 24 (by decide)
            clear hD
            clear hN
            try dsimp only at hK ⊢
            simp only [Act.put, List.setIfInBounds_toArray, List.set_cons_succ, List.set_cons_zero] at hK
            generalize vs 24 = vq24 at hK dq24 ⊢
            subst vq24
            go_wp2
            exact hK _ _ rfl (fun _ _ h => h) (Mod.refl _ _)
          exact opsOkP_nil
        · intro vs wq1 hR hF
          have dq23 : (OwnT 192 3 B0 (j + 1 + (n2 - j)) ((L2.take j).flatMap c3W ++ [.int .i64 id, .int .i64 (now + (B : Int)), .int .i64 0] ++ (L2.drop j).flatMap c3W)) (vs 23) wq1 := hF 23 (by decide) (by decide)
          have dq25 : vs 25 = .pointer (some ⟨q, 3, none⟩) := hF 25 (by decide) (by decide)
          clear hF
          try dsimp only
          generalize vs 23 = vq23 at dq23 ⊢
          generalize vs 25 = vq25 at dq25 ⊢
          subst vq25
          have hmw : Mod (fun _ => False) w1 wq1 := (Mod.drew _ _).of2 (HOLD.out _ hR)
          replace HS := Lib.hid (HS.out.step hmw)
          clear hmw HSd
          obtain ⟨av, cv, rfl, ho⟩ := dq23
          have HO := Lib.hid ho
          clear ho
          have hbq := (HS.out.now).2.2.1
          have f3 := hbq.free 3
          have c3 := hbq.cell 3 rfl
          clear hbq
          go_wp2_with fail
          go_end0
          have hfin : ((L2.take j).flatMap c3W ++ [.int .i64 id, .int .i64 (now + (B : Int)), .int .i64 0]) ++ (L2.drop j).flatMap c3W = (putW L ⟨id, now + (B : Int), 0⟩).flatMap c3W := by rw [HPUT.out, HINS.out, List.flatMap_append, List.flatMap_cons, List.append_assoc]; rfl
          have hln : (putW L ⟨id, now + (B : Int), 0⟩).length = j + 1 + (n2 - j) := by rw [HPUT.out, insW_len]; omega
          have hown := HO.out
          rw [hfin] at hown
          have hsz1 := HM1.out.size
          have hb0 := HB0.out
          have hmm := (HS.out.now).2.2.2.2
          have hsz2 := hmm.size
          refine ⟨rfl, av, j + 1 + (n2 - j), cv, RT.put (n' := j + 1 + (n2 - j)) ((HS.out.now).2.2.2.1) hln (by omega) hown, fun k hk => (by have := (hown.lt k hk).1; omega), (HM1.out.trans hmm (H := fun k => k = q) (fun _ _ x => x) (fun _ _ x => x.elim)).trans (Mod.setCell (F := fun k => k = q) _ ⟨q, 3, none⟩ _ rfl) (fun _ _ x => x) (fun _ _ x => x)⟩
      · skip
        have hjn : j < n2 := by omega
        have z0 : decide ((j : Int) < (n2 : Int)) = true := by simp; omega
        have z1 : decide (j < n2) = true := by simpa using hjn
        have hrd := ((HS.out.now).2.2.2.1).rd
        obtain ⟨eb, eo, hpl, e0, e1, e2⟩ := rd3w hrd j hjl
        have hix := fun wx => run_indexS (P := Try.prog) wx 166 192 iW 3 Try.underlying166 hiW hsW a2 n2 c2 j hjn (hrd.some_ (by omega))
        rw [hpl] at hix
        obtain ⟨x0, hx0⟩ : ∃ x, L2[j].id = x := ⟨_, rfl⟩
        rw [hx0] at e0 hge
        have z2 : decide (x0 < id) = false := by simpa using hge
        clear hx0 hpl hrd e1 e2 hge
        obtain ⟨B0, hB0⟩ : ∃ n, w1.heap.size = n := ⟨_, rfl⟩
        have HB0 := Lib.hid hB0
        clear hB0
        have HOLD : Hid (∀ W, Mod (fun k => B0 ≤ k) (World.drew w1) W → Mod (fun _ => False) (World.drew w1) W) := Lib.hid fun W h => h.mono (fun i hi e => by have := HB0.out; simp at hi; omega)
        go_upto_region 4 with fail
        clear qq_0 qq_1 qq_2 qq_3 lq
        have HSd := Lib.hid HS.out.drew
        have HST : ∀ (ix : Nat) (vs : Nat → Value) (vx : Value) (wx wy : World), factP (rs_r4_1_F q B n2 c2 B0 id now a2 L2 j) ix vs vx wx → Mod (fun _ => False) wx wy → factP (rs_r4_1_F q B n2 c2 B0 id now a2 L2 j) ix vs vx wy := by
          refine factP_stays ?_
          unfold rs_r4_1_F
          exact stableP_cons (StableP.of (stable_val _)) <| stableP_cons (StableP.of (EmpT.st)) <| stableP_cons (StableP.of (stable_val _)) <| stableP_cons (StableP.of (stable_val _)) <| stableP_cons (StableP.of (stable_val _)) <| stableP_cons (StableP.of (stable_val _)) <| stableP_cons (StableP.of (stable_val _)) <| stableP_cons (StableP.of (stable_val _)) <| stableP_cons (StableP.of (OwnT.st)) <| stableP_cons (StableP.of (stable_val _)) <| stableP_cons (StableP.of (stable_val _)) <| stableP_cons (StableP.of (stable_val _)) <| stableP_cons (StableP.of (stable_val _)) <| stableP_cons (StableP.of (stable_val _)) <| stableP_cons (StableP.of (stable_val _)) <| stableP_cons (StableP.of (LitT.st)) <| stableP_cons (StableP.of (OwnT.st)) <| stableP_cons (StableP.of (stable_val _)) <| stableP_cons (StableP.of (stable_val _)) <| stableP_cons (StableP.of (stable_val _)) <| stableP_cons (StableP.of (stable_val _)) <| stableP_cons (StableP.of (stable_val _)) <| stableP_cons (StableP.of (stable_val _)) <| stableP_cons (StableP.of (OwnT.st)) <| stableP_cons (StableP.of (stable_val _)) <| stableP_cons (StableP.of (stable_val _)) <| stableP_nil
        have HSO : ∀ px ∈ (rs_r4_1_F q B n2 c2 B0 id now a2 L2 j), px.1 = true → ∀ (vs : Nat → Value) (vx : Value) (wx wy : World), px.2 vs vx wx → px.2 vs vx wy := by
          unfold rs_r4_1_F
          exact solidP_cons (solid_val _) <| solidP_cons (fun h => by cases h) <| solidP_cons (solid_val _) <| solidP_cons (solid_val _) <| solidP_cons (solid_val _) <| solidP_cons (solid_val _) <| solidP_cons (solid_val _) <| solidP_cons (solid_val _) <| solidP_cons (fun h => by cases h) <| solidP_cons (solid_val _) <| solidP_cons (solid_val _) <| solidP_cons (solid_val _) <| solidP_cons (solid_val _) <| solidP_cons (solid_val _) <| solidP_cons (solid_val _) <| solidP_cons (fun h => by cases h) <| solidP_cons (fun h => by cases h) <| solidP_cons (solid_val _) <| solidP_cons (solid_val _) <| solidP_cons (solid_val _) <| solidP_cons (solid_val _) <| solidP_cons (solid_val _) <| solidP_cons (solid_val _) <| solidP_cons (fun h => by cases h) <| solidP_cons (solid_val _) <| solidP_cons (solid_val _) <| solidP_nil
        have HLO : LocL (fun i => rs_r4_1_D.getD i []) 0 (rs_r4_1_F q B n2 c2 B0 id now a2 L2 j) := by
          unfold rs_r4_1_F
          exact loc_cons (loc_own _) <| loc_cons (loc_own _) <| loc_cons (loc_own _) <| loc_cons (loc_own _) <| loc_cons (loc_own _) <| loc_cons (loc_own _) <| loc_cons (loc_own _) <| loc_cons (loc_own _) <| loc_cons (loc_own _) <| loc_cons (loc_own _) <| loc_cons (loc_own _) <| loc_cons (loc_own _) <| loc_cons (loc_own _) <| loc_cons (loc_own _) <| loc_cons (loc_own _) <| loc_cons (loc_own _) <| loc_cons (loc_own _) <| loc_cons (loc_own _) <| loc_cons (loc_own _) <| loc_cons (loc_own _) <| loc_cons (loc_own _) <| loc_cons (loc_own _) <| loc_cons (loc_own _) <| loc_cons (loc_own _) <| loc_cons (loc_own _) <| loc_cons (loc_own _) <| loc_nil
        refine wp_region_pair (act := ?actrs_r4_1) (Mod (fun k => B0 ≤ k)) (factP (rs_r4_1_F q B n2 c2 B0 id now a2 L2 j)) (fun i => rs_r4_1_C.getD i 1000) (fun i => rs_r4_1_D.getD i []) 26 _ rfl rfl (by kernel_rfl) (by kernel_rfl) (by kernel_rfl) (by kernel_rfl) (by kernel_rfl) (fun _ => Mod.refl _ _)
          (fun _ _ _ h k => h.trans k (fun _ _ e => e) (fun _ _ e => e)) ?hactrs_r4_1 (loc_of HLO) ?_ ?_
        case hactrs_r4_1 => intro vs; simp only [putAll, Nat.zero_add, Nat.reduceAdd, Act.put, List.setIfInBounds_toArray, List.set_cons_succ, List.set_cons_zero]; exact rfl
        · refine opsOkP_cons ?_ ?_
          · intro K vs W hR hD hN hK
            clear hD
            clear hN
            try dsimp only at hK ⊢
            simp only [Act.put, List.setIfInBounds_toArray, List.set_cons_succ, List.set_cons_zero] at hK
            go_wp2
            exact hK _ _ rfl (fun _ _ h => h) (Mod.refl _ _)
          refine opsOkP_cons ?_ ?_
          · intro K vs W hR hD hN hK
            clear hD
            clear hN
            try dsimp only at hK ⊢
            simp only [Act.put, List.setIfInBounds_toArray, List.set_cons_succ, List.set_cons_zero] at hK
            have hz := (show B0 ≤ W.heap.size from (by have h1 := HB0.out; have h2 := hR.size; simp at h2; omega))
            go_wp2
            exact hK _ _ ⟨_, rfl, Own.rebase (own_empty W 192 3 W.heap.size rfl) (low_lit hz)⟩ (fun j _ h => HST j vs _ _ _ h (Mod.alloc _ _ _)) (Mod.alloc _ _ _)
          refine opsOkP_cons ?_ ?_
          · intro K vs W hR hD hN hK
            clear hD
            clear hN
            try dsimp only at hK ⊢
            simp only [Act.put, List.setIfInBounds_toArray, List.set_cons_succ, List.set_cons_zero] at hK
            go_wp2
            exact hK _ _ rfl (fun _ _ h => h) (Mod.refl _ _)
          refine opsOkP_cons ?_ ?_
          · intro K vs W hR hD hN hK
            have dq2 : vs 2 = .pointer (some ⟨q, 0, none⟩) := hD 2 (by decide)
            clear hD
            clear hN
            try dsimp only at hK ⊢
            simp only [Act.put, List.setIfInBounds_toArray, List.set_cons_succ, List.set_cons_zero] at hK
            generalize vs 2 = vq2 at hK dq2 ⊢
            subst vq2
            go_wp2
            exact hK _ _ rfl (fun _ _ h => h) (Mod.refl _ _)
          refine opsOkP_cons ?_ ?_
          · intro K vs W hR hD hN hK
            have dq3 : vs 3 = .pointer (some ⟨q, 0, none⟩) := hD 3 (by decide)
            clear hD
            clear hN
            try dsimp only at hK ⊢
            simp only [Act.put, List.setIfInBounds_toArray, List.set_cons_succ, List.set_cons_zero] at hK
            generalize vs 3 = vq3 at hK dq3 ⊢
            subst vq3
            go_wp2
            exact hK _ _ rfl (fun _ _ h => h) (Mod.refl _ _)
          refine opsOkP_cons ?_ ?_
          · intro K vs W hR hD hN hK
            have dq4 : vs 4 = .pointer (some ⟨q, 3, none⟩) := hD 4 (by decide)
            clear hD
            clear hN
            try dsimp only at hK ⊢
            simp only [Act.put, List.setIfInBounds_toArray, List.set_cons_succ, List.set_cons_zero] at hK
            generalize vs 4 = vq4 at hK dq4 ⊢
            subst vq4
            have q0 := ((HSd.out.at (HOLD.out W hR)).2.2.1).cell 3 rfl
            go_wp2
            exact hK _ _ rfl (fun _ _ h => h) (Mod.refl _ _)
          refine opsOkP_cons ?_ ?_
          · intro K vs W hR hD hN hK
            clear hD
            clear hN
            try dsimp only at hK ⊢
            simp only [Act.put, List.setIfInBounds_toArray, List.set_cons_succ, List.set_cons_zero] at hK
            go_wp2
            exact hK _ _ rfl (fun _ _ h => h) (Mod.refl _ _)
          refine opsOkP_cons ?_ ?_
          · intro K vs W hR hD hN hK
            have dq5 : vs 5 = .slice a2 n2 c2 := hD 5 (by decide)
            have dq6 : vs 6 = .int .i64 (j : Int) := hD 6 (by decide)
            clear hD
            clear hN
            try dsimp only at hK ⊢
            simp only [Act.put, List.setIfInBounds_toArray, List.set_cons_succ, List.set_cons_zero] at hK
            generalize vs 5 = vq5 at hK dq5 ⊢
            subst vq5
            generalize vs 6 = vq6 at hK dq6 ⊢
            subst vq6
            have htk := HTK.out
            go_wp2_with fail
            exact hK _ _ rfl (fun _ _ h => h) (Mod.refl _ _)
          refine opsOkP_cons ?_ ?_
          · intro K vs W hR hD hN hK
            have dq1 : (EmpT 192 3 B0) (vs 1) W := hD 1 (by decide)
            have dq7 : vs 7 = .slice a2 j c2 := hD 7 (by decide)
            clear hD
            clear hN
            try dsimp only at hK ⊢
            simp only [Act.put, List.setIfInBounds_toArray, List.set_cons_succ, List.set_cons_zero] at hK
            generalize vs 1 = vq1 at hK dq1 ⊢
            generalize vs 7 = vq7 at hK dq7 ⊢
            subst vq7
            have hz := (show B0 ≤ W.heap.size from (by have h1 := HB0.out; have h2 := hR.size; simp at h2; omega))
            have hrd := (HSd.out.at (HOLD.out W hR)).2.1
            obtain ⟨ae, rfl, ho⟩ := dq1
            go_wp2_with (at_builtin; refine wpList_append_any rfl (.tmp 32) (.tmp 38) 166 rfl 192 iW (.agg #[.int .i64 0, .int .i64 0, .int .i64 0]) 3 24 Try.underlying166 hiW hzW hsW hbW rfl (by decide) _ (0) ([]) rfl (Own.base ho (Nat.zero_le _)) _ (j) ((L2.take j).flatMap c3W) rfl hrd (c3W_one _) (by unfold maxLen; omega) (by omega) ?_; intro v' w' hap)
            obtain ⟨a4, c4, rfl⟩ := hap.form
            have ho4 := hap.own
            have lo4 := hap.low hz (fun k hk => (ho.lt k hk).1)
            have hm4 := hap.still ae 0 0 rfl (by omega)
            simp only [Nat.zero_add, List.nil_append] at ho4 lo4 ⊢
            exact hK _ _ ⟨a4, c4, rfl, Own.rebase ho4 lo4⟩ (fun j _ h => HST j vs _ _ _ h hm4) (hm4.mono (fun _ _ e => e.elim))
          refine opsOkP_cons ?_ ?_
          · intro K vs W hR hD hN hK
            clear hD
            clear hN
            try dsimp only at hK ⊢
            simp only [Act.put, List.setIfInBounds_toArray, List.set_cons_succ, List.set_cons_zero] at hK
            go_wp2
            exact hK _ _ rfl (fun _ _ h => h) (Mod.refl _ _)
          refine opsOkP_cons ?_ ?_
          · intro K vs W hR hD hN hK
            clear hD
            clear hN
            try dsimp only at hK ⊢
            simp only [Act.put, List.setIfInBounds_toArray, List.set_cons_succ, List.set_cons_zero] at hK
            go_wp2
            exact hK _ _ rfl (fun _ _ h => h) (Mod.refl _ _)
          refine opsOkP_cons ?_ ?_
          · intro K vs W hR hD hN hK
            clear hD
            clear hN
            try dsimp only at hK ⊢
            simp only [Act.put, List.setIfInBounds_toArray, List.set_cons_succ, List.set_cons_zero] at hK
            go_wp2
            exact hK _ _ rfl (fun _ _ h => h) (Mod.refl _ _)
          refine opsOkP_cons ?_ ?_
          · intro K vs W hR hD hN hK
            have dq11 : vs 11 = .pointer (some ⟨q, 0, none⟩) := hD 11 (by decide)
            clear hD
            clear hN
            try dsimp only at hK ⊢
            simp only [Act.put, List.setIfInBounds_toArray, List.set_cons_succ, List.set_cons_zero] at hK
            generalize vs 11 = vq11 at hK dq11 ⊢
            subst vq11
            go_wp2_with (go_at_call 94; refine (rtwait0_at W q _ B M R hb1 hbm hmx ((HSd.out.at (HOLD.out W hR)).2.2.1)).mono ?_; rintro e' w' ⟨rfl, rfl⟩)
            exact hK _ _ rfl (fun _ _ h => h) (Mod.refl _ _)
          refine opsOkP_cons ?_ ?_
          · intro K vs W hR hD hN hK
            have dq10 : vs 10 = .int .i64 now := hD 10 (by decide)
            have dq12 : vs 12 = .int .i64 (B : Int) := hD 12 (by decide)
            clear hD
            clear hN
            try dsimp only at hK ⊢
            simp only [Act.put, List.setIfInBounds_toArray, List.set_cons_succ, List.set_cons_zero] at hK
            generalize vs 10 = vq10 at hK dq10 ⊢
            subst vq10
            generalize vs 12 = vq12 at hK dq12 ⊢
            subst vq12
            go_wp2
            exact hK _ _ rfl (fun _ _ h => h) (Mod.refl _ _)
          refine opsOkP_cons ?_ ?_
          · intro K vs W hR hD hN hK
            have dq9 : vs 9 = .int .i64 id := hD 9 (by decide)
            have dq13 : vs 13 = .int .i64 (now + (B : Int)) := hD 13 (by decide)
            clear hD
            clear hN
            try dsimp only at hK ⊢
            simp only [Act.put, List.setIfInBounds_toArray, List.set_cons_succ, List.set_cons_zero] at hK
            generalize vs 9 = vq9 at hK dq9 ⊢
            subst vq9
            generalize vs 13 = vq13 at hK dq13 ⊢
            subst vq13
            go_wp2
            exact hK _ _ rfl (fun _ _ h => h) (Mod.refl _ _)
          refine opsOkP_cons ?_ ?_
          · intro K vs W hR hD hN hK
            have dq14 : vs 14 = .agg #[.int .i64 id, .int .i64 (now + (B : Int)), .int .i64 0] := hD 14 (by decide)
            clear hD
            clear hN
            try dsimp only at hK ⊢
            simp only [Act.put, List.setIfInBounds_toArray, List.set_cons_succ, List.set_cons_zero] at hK
            generalize vs 14 = vq14 at hK dq14 ⊢
            subst vq14
            go_wp2
            exact hK _ _ ⟨_, rfl, by exact Rd.litN _ 3 _ _ _ 1 rfl rfl (by decide)⟩ (fun j _ h => HST j vs _ _ _ h (Mod.alloc _ _ _)) (Mod.alloc _ _ _)
          refine opsOkP_cons ?_ ?_
          · intro K vs W hR hD hN hK
            have dq8 : (OwnT 192 3 B0 (j) ((L2.take j).flatMap c3W)) (vs 8) W := hD 8 (by decide)
            have dq15 : (LitT 3 [.int .i64 id, .int .i64 (now + (B : Int)), .int .i64 0]) (vs 15) W := hD 15 (by decide)
            clear hD
            clear hN
            try dsimp only at hK ⊢
            simp only [Act.put, List.setIfInBounds_toArray, List.set_cons_succ, List.set_cons_zero] at hK
            generalize vs 8 = vq8 at hK dq8 ⊢
            generalize vs 15 = vq15 at hK dq15 ⊢
            have hz := (show B0 ≤ W.heap.size from (by have h1 := HB0.out; have h2 := hR.size; simp at h2; omega))
            obtain ⟨ae, ce, rfl, ho⟩ := dq8
            obtain ⟨pl, rfl, hl⟩ := dq15
            go_wp2_with (at_builtin; refine wpList_append_any rfl (.tmp 39) (.tmp 46) 166 rfl 192 iW (.agg #[.int .i64 0, .int .i64 0, .int .i64 0]) 3 24 Try.underlying166 hiW hzW hsW hbW rfl (by decide) _ (j) ((L2.take j).flatMap c3W) rfl (Own.base ho (Nat.zero_le _)) _ (1) ([.int .i64 id, .int .i64 (now + (B : Int)), .int .i64 0]) rfl hl (by intro u hu; simp at hu; rcases hu with rfl | rfl | rfl <;> rfl) (by unfold maxLen; omega) (by omega) ?_; intro v' w' hap)
            obtain ⟨a4, c4, rfl⟩ := hap.form
            have ho4 := hap.own
            have lo4 := hap.low hz (fun k hk => (ho.lt k hk).1)
            exact hK _ _ ⟨a4, c4, rfl, Own.rebase ho4 lo4⟩ (factP_solid HSO [] 16 (by kernel_rfl) (fun _ h => by cases h)) (hap.mod.mono (fun k _ e => (ho.lt k e).1))
          refine opsOkP_cons ?_ ?_
          · intro K vs W hR hD hN hK
            clear hD
            clear hN
            try dsimp only at hK ⊢
            simp only [Act.put, List.setIfInBounds_toArray, List.set_cons_succ, List.set_cons_zero] at hK
            go_wp2
            exact hK _ _ rfl (fun _ _ h => h) (Mod.refl _ _)
          refine opsOkP_cons ?_ ?_
          · intro K vs W hR hD hN hK
            have dq17 : vs 17 = .pointer (some ⟨q, 0, none⟩) := hD 17 (by decide)
            clear hD
            clear hN
            try dsimp only at hK ⊢
            simp only [Act.put, List.setIfInBounds_toArray, List.set_cons_succ, List.set_cons_zero] at hK
            generalize vs 17 = vq17 at hK dq17 ⊢
            subst vq17
            go_wp2
            exact hK _ _ rfl (fun _ _ h => h) (Mod.refl _ _)
          refine opsOkP_cons ?_ ?_
          · intro K vs W hR hD hN hK
            have dq18 : vs 18 = .pointer (some ⟨q, 0, none⟩) := hD 18 (by decide)
            clear hD
            clear hN
            try dsimp only at hK ⊢
            simp only [Act.put, List.setIfInBounds_toArray, List.set_cons_succ, List.set_cons_zero] at hK
            generalize vs 18 = vq18 at hK dq18 ⊢
            subst vq18
            go_wp2
            exact hK _ _ rfl (fun _ _ h => h) (Mod.refl _ _)
          refine opsOkP_cons ?_ ?_
          · intro K vs W hR hD hN hK
            have dq19 : vs 19 = .pointer (some ⟨q, 3, none⟩) := hD 19 (by decide)
            clear hD
            clear hN
            try dsimp only at hK ⊢
            simp only [Act.put, List.setIfInBounds_toArray, List.set_cons_succ, List.set_cons_zero] at hK
            generalize vs 19 = vq19 at hK dq19 ⊢
            subst vq19
            have q0 := ((HSd.out.at (HOLD.out W hR)).2.2.1).cell 3 rfl
            go_wp2
            exact hK _ _ rfl (fun _ _ h => h) (Mod.refl _ _)
          refine opsOkP_cons ?_ ?_
          · intro K vs W hR hD hN hK
            clear hD
            clear hN
            try dsimp only at hK ⊢
            simp only [Act.put, List.setIfInBounds_toArray, List.set_cons_succ, List.set_cons_zero] at hK
            go_wp2
            exact hK _ _ rfl (fun _ _ h => h) (Mod.refl _ _)
          refine opsOkP_cons ?_ ?_
          · intro K vs W hR hD hN hK
            have dq20 : vs 20 = .slice a2 n2 c2 := hD 20 (by decide)
            have dq21 : vs 21 = .int .i64 (j : Int) := hD 21 (by decide)
            clear hD
            clear hN
            try dsimp only at hK ⊢
            simp only [Act.put, List.setIfInBounds_toArray, List.set_cons_succ, List.set_cons_zero] at hK
            generalize vs 20 = vq20 at hK dq20 ⊢
            subst vq20
            generalize vs 21 = vq21 at hK dq21 ⊢
            subst vq21
            have hdk := HDK.out
            go_wp2_with fail
            exact hK _ _ rfl (fun _ _ h => h) (Mod.refl _ _)
          refine opsOkP_cons ?_ ?_
          · intro K vs W hR hD hN hK
            have dq16 : (OwnT 192 3 B0 (j + 1) ((L2.take j).flatMap c3W ++ [.int .i64 id, .int .i64 (now + (B : Int)), .int .i64 0])) (vs 16) W := hD 16 (by decide)
            have dq22 : vs 22 = .slice (dropA a2 c2 j 3) (n2 - j) (c2 - j) := hD 22 (by decide)
            clear hD
            clear hN
            try dsimp only at hK ⊢
            simp only [Act.put, List.setIfInBounds_toArray, List.set_cons_succ, List.set_cons_zero] at hK
            generalize vs 16 = vq16 at hK dq16 ⊢
            generalize vs 22 = vq22 at hK dq22 ⊢
            subst vq22
            have hz := (show B0 ≤ W.heap.size from (by have h1 := HB0.out; have h2 := hR.size; simp at h2; omega))
            have hrd := (HSd.out.at (HOLD.out W hR)).1
            obtain ⟨ae, ce, rfl, ho⟩ := dq16
            go_wp2_with (at_builtin; refine wpList_append_any rfl (.tmp 47) (.tmp 53) 166 rfl 192 iW (.agg #[.int .i64 0, .int .i64 0, .int .i64 0]) 3 24 Try.underlying166 hiW hzW hsW hbW rfl (by decide) _ (j + 1) ((L2.take j).flatMap c3W ++ [.int .i64 id, .int .i64 (now + (B : Int)), .int .i64 0]) rfl (Own.base ho (Nat.zero_le _)) _ ((n2 - j)) ((L2.drop j).flatMap c3W) rfl hrd (c3W_one _) (by unfold maxLen; omega) (by omega) ?_; intro v' w' hap)
            obtain ⟨a4, c4, rfl⟩ := hap.form
            have ho4 := hap.own
            have lo4 := hap.low hz (fun k hk => (ho.lt k hk).1)
            exact hK _ _ ⟨a4, c4, rfl, Own.rebase ho4 lo4⟩ (factP_solid HSO [] 23 (by kernel_rfl) (fun _ h => by cases h)) (hap.mod.mono (fun k _ e => (ho.lt k e).1))
          refine opsOkP_cons ?_ ?_
          · intro K vs W hR hD hN hK
            have dq0 : vs 0 = .pointer (some ⟨q, 0, none⟩) := hD 0 (by decide)
            clear hD
            clear hN
            try dsimp only at hK ⊢
            simp only [Act.put, List.setIfInBounds_toArray, List.set_cons_succ, List.set_cons_zero] at hK
            generalize vs 0 = vq0 at hK dq0 ⊢
            subst vq0
            go_wp2
            exact hK _ _ rfl (fun _ _ h => h) (Mod.refl _ _)
          refine opsOkP_cons ?_ ?_
          · intro K vs W hR hD hN hK
            have dq24 : vs 24 = .pointer (some ⟨q, 0, none⟩) := hD 24 (by decide)
            clear hD
            clear hN
            try dsimp only at hK ⊢
            simp only [Act.put, List.setIfInBounds_toArray, List.set_cons_succ, List.set_cons_zero] at hK
            generalize vs 24 = vq24 at hK dq24 ⊢
            subst vq24
            go_wp2
            exact hK _ _ rfl (fun _ _ h => h) (Mod.refl _ _)
          exact opsOkP_nil
        · intro vs wq2 hR hF
          have dq23 : (OwnT 192 3 B0 (j + 1 + (n2 - j)) ((L2.take j).flatMap c3W ++ [.int .i64 id, .int .i64 (now + (B : Int)), .int .i64 0] ++ (L2.drop j).flatMap c3W)) (vs 23) wq2 := hF 23 (by decide) (by decide)
          have dq25 : vs 25 = .pointer (some ⟨q, 3, none⟩) := hF 25 (by decide) (by decide)
          clear hF
          try dsimp only
          generalize vs 23 = vq23 at dq23 ⊢
          generalize vs 25 = vq25 at dq25 ⊢
          subst vq25
          have hmw : Mod (fun _ => False) w1 wq2 := (Mod.drew _ _).of2 (HOLD.out _ hR)
          replace HS := Lib.hid (HS.out.step hmw)
          clear hmw HSd
          obtain ⟨av, cv, rfl, ho⟩ := dq23
          have HO := Lib.hid ho
          clear ho
          have hbq := (HS.out.now).2.2.1
          have f3 := hbq.free 3
          have c3 := hbq.cell 3 rfl
          clear hbq
          go_wp2_with fail
          go_end0
          have hfin : ((L2.take j).flatMap c3W ++ [.int .i64 id, .int .i64 (now + (B : Int)), .int .i64 0]) ++ (L2.drop j).flatMap c3W = (putW L ⟨id, now + (B : Int), 0⟩).flatMap c3W := by rw [HPUT.out, HINS.out, List.flatMap_append, List.flatMap_cons, List.append_assoc]; rfl
          have hln : (putW L ⟨id, now + (B : Int), 0⟩).length = j + 1 + (n2 - j) := by rw [HPUT.out, insW_len]; omega
          have hown := HO.out
          rw [hfin] at hown
          have hsz1 := HM1.out.size
          have hb0 := HB0.out
          have hmm := (HS.out.now).2.2.2.2
          have hsz2 := hmm.size
          refine ⟨rfl, av, j + 1 + (n2 - j), cv, RT.put (n' := j + 1 + (n2 - j)) ((HS.out.now).2.2.2.1) hln (by omega) hown, fun k hk => (by have := (hown.lt k hk).1; omega), (HM1.out.trans hmm (H := fun k => k = q) (fun _ _ x => x) (fun _ _ x => x.elim)).trans (Mod.setCell (F := fun k => k = q) _ ⟨q, 3, none⟩ _ rfl) (fun _ _ x => x) (fun _ _ x => x)⟩
end Go.Proofs.Ytfdmjnhhgcidbaa
